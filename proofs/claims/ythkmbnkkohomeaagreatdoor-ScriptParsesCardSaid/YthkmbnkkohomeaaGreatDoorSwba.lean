/- Several texts in one: OtA, NmB, OtB. -/
import Derived.Test.YthkmbnkkohomeaaGreatDoorSway
import Derived.Test.YthkmbnkkohomeaaGreatDoorSwaz
import Derived.Test.YthkmbnkkohomeaaGreatDoorSwac
set_option linter.unusedSimpArgs false
set_option linter.unusedVariables false
/- The reader's own row; a number that is a literal. -/
namespace Go.Proofs.YthkmbnkkohomeaaGreatDoor.Mem
open Go.RowKit

/-- What the reader's other cells hold. -/
structure OR where
  ma : Value
  me : Value
  rs : Value
  xs : Value
  a1 : Value
  a2 : Value
  a3 : Value
  a4 : Value
  la : Value
  sa : Value

def OR.row (o : OR) (mb sr q qc wm : Nat) : Array Value := #[.pointer (some ⟨mb, 0, none⟩), .pointer (some ⟨sr, 0, none⟩), .slice (some ⟨q, 0, none⟩) 1 qc, o.ma, .bool false, o.me, .map (some wm), o.rs, o.xs, o.a1, o.a2, o.a3, o.a4, o.la, o.sa]

/-- A reader that doesn't compile, of a machine, with one list and words without '.' and '1'. -/
structure OtS (w : World) (ob sr q qc wm : Nat) (o : OR) (v : VB) (m : MR) (bs : List UInt8) (x dd rd : Nat) : Prop where
  row : w.heap[ob]? = some (.cells (o.row v.mb sr q qc wm) 105 (0, 0))
  lst : w.cell? ⟨q, 0, none⟩ = some (.int .i64 24)
  wds : ∃ n, FmP [([46], none), ([49], none)] w wm n
  vm : VmS w v m bs x dd rd
  ne : ob ≠ v.mb ∧ ob ≠ v.sb ∧ ob ≠ v.db ∧ ob ≠ v.rb ∧ ob ≠ v.p ∧ ob ≠ v.g ∧ ob ≠ v.cm ∧ ob ≠ v.cd ∧ ob ≠ sr ∧ ob ≠ q ∧ ob ≠ wm
  nq : q ≠ v.mb ∧ q ≠ v.db ∧ q ≠ v.g ∧ q ≠ sr
  nw : wm ≠ v.mb ∧ wm ≠ v.db ∧ wm ≠ v.g ∧ wm ≠ sr
  ns : sr ≠ v.mb ∧ sr ≠ v.sb ∧ sr ≠ v.db ∧ sr ≠ v.rb ∧ sr ≠ v.p ∧ sr ≠ v.g ∧ sr ≠ v.cm ∧ sr ≠ v.cd

theorem OtS.cells {w : World} {ob sr q qc wm : Nat} {o : OR} {v : VB} {m : MR} {bs : List UInt8} {x dd rd : Nat} (h : OtS w ob sr q qc wm o v m bs x dd rd) :
    w.cell? ⟨ob, 0, none⟩ = some (.pointer (some ⟨v.mb, 0, none⟩)) ∧ w.cell? ⟨ob, 1, none⟩ = some (.pointer (some ⟨sr, 0, none⟩)) ∧ w.cell? ⟨ob, 2, none⟩ = some (.slice (some ⟨q, 0, none⟩) 1 qc) ∧ w.cell? ⟨ob, 4, none⟩ = some (.bool false) ∧ w.cell? ⟨ob, 6, none⟩ = some (.map (some wm)) ∧ w.frozen? ⟨ob, 1, none⟩ = false := by
  refine ⟨?_, ?_, ?_, ?_, ?_, frozen_of_row w ob 1 _ _ h.row⟩ <;> rw [cell_of_row w ob _ _ _ _ h.row] <;> rfl
/-- Behind what leaves the reader's own blocks, and gives the machine anew. -/
theorem OtS.turn {S : Nat → Prop} {w w' : World} {ob sr q qc wm : Nat} {o : OR} {v : VB} {m m' : MR} {bs bs' : List UInt8} {x x' dd dd' rd rd' : Nat} (h : OtS w ob sr q qc wm o v m bs x dd rd) (f : Fr S w w') (hv : VmS w' v m' bs' x' dd' rd') (h1 : ¬ S ob) (h2 : ¬ S q) (h3 : ¬ S wm) : OtS w' ob sr q qc wm o v m' bs' x' dd' rd' := by
  obtain ⟨n, hn⟩ := h.wds
  exact ⟨f.obj h.row h1, f.cell h.lst h2, ⟨n, hn.fr f h3⟩, hv, h.ne, h.nq, h.nw, h.ns⟩
theorem OtS.nf {w w' : World} {ob sr q qc wm : Nat} {o : OR} {v : VB} {m : MR} {bs : List UInt8} {x dd rd : Nat} (h : OtS w ob sr q qc wm o v m bs x dd rd) (f : Fr (fun _ => False) w w') : OtS w' ob sr q qc wm o v m bs x dd rd := h.turn f (h.vm.nf f) id id id

theorem VmS.pushed {w w' : World} {v : VB} {m : MR} {bs bs' : List UInt8} {x dd dd' rd : Nat} (h : VmS w v m bs x dd rd) (f : Fr (fun j => j = v.db ∨ j = v.g) w w') (hm : Mat 221 w' v.p v.g bs') (hl : bs'.length = bs.length) (hs : Stk w' v.db v.p v.di v.da dd' (-3) (-4)) : VmS w' v m bs' x dd' rd := by
  obtain ⟨n, hn, hn2⟩ := h.dot
  have h1 := h.ne1
  have h2 := h.ne2
  have h3 := h.ne3
  have hsat := h.sat
  have hf := h.fits
  refine ⟨h.row.fr f (by omega), h.sp, h.d, h.r, h.does, ⟨hsat.1, hsat.2.1, f.obj hsat.2.2.1 (by omega), hm, hsat.2.2.2.2.1, hsat.2.2.2.2.2.1, by rw [hl]; exact hsat.2.2.2.2.2.2⟩, hs, h.rs.fr f (by omega), ⟨n, hn.fr f (by omega), hn2⟩, f.obj h.dotc (by omega), h.d8, by omega, h1, h2, h3⟩

set_option maxRecDepth 100000 in
set_option maxHeartbeats 2000000 in
theorem literal_ok (ob sr q qc wm q2 c2 : Nat) (o : OR) (v : VB) (m : MR) (bs : List UInt8) (x dd rd : Nat) (n : Int) (w : World) (h : OtS w ob sr q qc wm o v m bs x dd rd) (hd : dd + 1 ≤ v.da) (h2 : w.cell? ⟨q2, 0, none⟩ = some (.int .i64 n)) (hq : q2 ≠ v.db ∧ q2 ≠ v.g) :
    Calls Tryz.prog 169 #[.pointer (some ⟨ob, 0, none⟩), .slice (some ⟨q2, 0, none⟩) 1 c2] w
      fun e w' => e = .returned (.int .i64 0) ∧ OtS w' ob sr q qc wm o v m (setv bs (v.di + dd * 8) n) x (dd + 1) rd ∧ Fr (fun j => j = v.db ∨ j = v.g) w w' := by
  obtain ⟨c0, _, _, c4, _, _⟩ := h.cells
  have q1 : w.cell? ⟨v.mb, 1, none⟩ = some (.pointer (some ⟨v.db, 0, none⟩)) := by rw [← h.vm.d]; exact h.vm.row.cells.2.1
  have hfi := h.vm.fits
  have n2 := h.vm.ne2
  have n3 := h.vm.ne3
  have n0 := h.ne
  have nq := h.nq
  have nw := h.nw
  have hp := push_ok v.db v.p v.g v.di v.da dd q2 0 c2 [n] bs (-3) (-4) w h.vm.ds h.vm.sat.mat h.vm.d8 (by omega) (by simpa using hd) (fun i y hy => by
    cases i with
    | zero => simp at hy; subst hy; exact h2
    | succ i => simp at hy) ⟨hq.1, hq.2, fun e => n2.2.1 e.symm, n3.2.2.1⟩
  have HP := Lib.hid hp
  have H := Lib.hid h
  have e1 : spush bs (v.di + dd * 8) [n] = setv bs (v.di + dd * 8) n := rfl
  rw [e1] at HP
  clear h hfi hd h2 hp e1
  go_enter Tryz.func169, Tryz.ntmps169
  go_wp2_with (go_at_call 194; refine HP.out.mono ?_; rintro e w2 ⟨rfl, hm2, hs2, hf2⟩)
  go_ret
  exact ⟨rfl, H.out.turn hf2 (H.out.vm.pushed hf2 hm2 (setv_length _ _ _) hs2) (by omega) (by omega) (by omega), hf2⟩
end Go.Proofs.YthkmbnkkohomeaaGreatDoor.Mem

/- The contract of code.Name. -/
namespace Go.Proofs.YthkmbnkkohomeaaGreatDoor.Cod
open Go.RowKit

set_option maxRecDepth 100000 in
set_option maxHeartbeats 400000 in
theorem name_bad (n : Int) (w : World) (ht : Tab w) (hn : n < 1 ∨ 86 < n) (hn1 : n ≤ 9223372036854775807) :
    Calls Tryz.prog 140 #[.int .i64 n] w fun e w' => e = .returned (.string ByteArray.empty) ∧ Below w.heap.size w w' := by
  have HN := Lib.hid (names_any w ht)
  rcases hn with hn | hn
  · go_enter Tryz.func140, Tryz.ntmps140
    go_wp2_with (go_at_call 126; refine HN.out.mono ?_; rintro e w' ⟨rfl, rfl⟩)
    go_ret
    exact ⟨rfl, (Below.refl _ _).alloc (Nat.le_refl _) _⟩
  · have h1 : ¬ n < 1 := by omega
    go_enter Tryz.func140, Tryz.ntmps140
    go_wp2_with (go_at_call 126; refine HN.out.mono ?_; rintro e w' ⟨rfl, rfl⟩)
    go_ret
    exact ⟨rfl, (Below.refl _ _).alloc (Nat.le_refl _) _⟩

set_option maxRecDepth 100000 in
set_option maxHeartbeats 400000 in
theorem name_good (i : Nat) (w : World) (ht : Tab w) (hi : i < 86) :
    Calls Tryz.prog 140 #[.int .i64 ((i : Int) + 1)] w fun e w' => e = .returned (.string (nm.getD i ByteArray.empty)) ∧ Below w.heap.size w w' := by
  have HN := Lib.hid (names_any w ht)
  have HC : Hid ((w.alloc (.cells (nm.map Value.string).toArray 9)).cell? ⟨w.heap.size, i, none⟩ = some (.string (nm.getD i ByteArray.empty))) := by
    show _ = _
    have := nm_length
    simp [List.getD, this, hi]
  generalize nm.getD i ByteArray.empty = x at *
  have HW : Hid (∃ W, W = w.alloc (.cells (nm.map Value.string).toArray 9)) := ⟨_, rfl⟩
  obtain ⟨W, hW⟩ := HW.out
  have HB : Hid (Below w.heap.size w W) := by rw [hW]; exact (Below.refl _ _).alloc (Nat.le_refl _) _
  rw [← hW] at HC HN
  have hc := HC.out
  clear hW HW
  go_enter Tryz.func140, Tryz.ntmps140
  go_wp2_with (go_at_call 126; refine HN.out.mono ?_; rintro e w' ⟨rfl, rfl⟩)
  go_ret
  exact ⟨rfl, HB.out⟩

end Go.Proofs.YthkmbnkkohomeaaGreatDoor.Cod

/- The reader runs the word '.'. -/
namespace Go.Proofs.YthkmbnkkohomeaaGreatDoor.Mem
open Go.RowKit

set_option maxRecDepth 100000 in
set_option maxHeartbeats 2000000 in
theorem inner_dot (w : World) : Calls Tryz.prog 300 #[.string ⟨#[46]⟩] w fun e w' => e = .returned (.bool false) ∧ w' = w := by
  have HI : Hid (∀ w, Calls Tryz.prog 370 #[.string ⟨#[46]⟩] w fun e w' => e = .returned (.int .i64 0) ∧ w' = w) := by
    refine Lib.hid fun w => ?_
    go_enter Tryz.func370, Tryz.ntmps370
    go_wp2_with fail
    go_ret
    exact ⟨rfl, rfl⟩
  go_enter Tryz.func300, Tryz.ntmps300
  go_wp2_with (go_at_call 370; refine (HI.out _).mono ?_; rintro e w' ⟨rfl, h0⟩; obtain rfl := h0.symm; clear h0)
  go_ret
  exact ⟨rfl, rfl⟩
theorem name_dot (w : World) (ht : Cod.Tab w) : Calls Tryz.prog 140 #[.int .i64 68] w fun e w' => e = .returned (.string ⟨#[46]⟩) ∧ Fr (fun _ => False) w w' := by
  have h := Cod.name_good 67 w ht (by decide)
  rw [dot_name] at h
  exact h.mono fun e w' k => ⟨k.1, Fr.of_below k.2 _⟩

set_option maxRecDepth 100000 in
set_option maxHeartbeats 2000000 in
theorem use_dot (ob sr q qc wm : Nat) (o : OR) (v : VB) (m : MR) (bs : List UInt8) (x dd rd n : Nat) (a xt fl : Int) (nm : ByteArray) (w : World) (h : OtS w ob sr q qc wm o v m bs x (dd + 1) rd) (k : DotOk v m bs dd n xt) (hf : 1 ≤ m.fuel ∧ m.fuel ≤ 1048576) (ht : Cod.Tab w) :
    Calls Tryz.prog 166 #[.pointer (some ⟨ob, 0, none⟩), .agg #[.int .i64 a, .int .i64 xt, .int .i64 fl, .string nm]] w
      fun e w' => e = .returned (.int .i64 0) ∧ OtS w' ob sr q qc wm o v (dotM { m with ip := 0, self := 0, hdl := 0, fuel := m.fuel - 1 } n) bs x dd rd ∧ Fr (fun j => j = v.mb ∨ j = v.db) w w' := by
  have hF1 := (Fr.refl (fun _ => False) w).alloc (.cells #[.int .i64 a, .int .i64 xt, .int .i64 fl, .string nm] 101)
  have hA1 := heap_alloc_last w (.cells #[.int .i64 a, .int .i64 xt, .int .i64 fl, .string nm] 101)
  obtain ⟨w1, hw1⟩ : ∃ w1, w.alloc (.cells #[.int .i64 a, .int .i64 xt, .int .i64 fl, .string nm] 101) = w1 := ⟨_, rfl⟩
  obtain ⟨c, hc⟩ : ∃ c, w.heap.size = c := ⟨_, rfl⟩
  rw [hw1] at hF1 hA1
  rw [hc] at hA1
  have h1 := h.nf hF1
  obtain ⟨c0, _, _, c4, _, _⟩ := h1.cells
  have q0 : w1.cell? ⟨v.mb, 0, none⟩ = some (.pointer (some ⟨v.sb, 0, none⟩)) := by rw [← h1.vm.sp]; exact h1.vm.row.cells.1
  have s0 := h1.vm.sat.cells.1
  obtain ⟨g0, g1, g2, g3, _⟩ := four_cells hA1
  have hM := fun n => cell_any v.p v.g bs xt (w1.drewN n) h1.vm.sat.mat
  rw [k.xt] at hM
  have HM := Lib.hid hM
  have H1 := Lib.hid h1
  have K := Lib.hid k
  have HF1 := Lib.hid hF1
  have HA1 := Lib.hid hA1
  have HT := Lib.hid (Cod.tab_fr hF1 ht)
  have HFU := Lib.hid hf
  clear h k hM h1 hF1 hA1 ht hf
  go_enter Tryz.func166, Tryz.ntmps166
  go_wp2_with fail
  go_quiet ((go_at_call 100; exact Calls.quiet_of_same (HM.out _)))
  go_wp2_with (go_at_call 140; refine (name_dot _ (Cod.tab_fr ((Fr.refl _ _).drewN _) HT.out)).mono ?_; rintro e w2 ⟨rfl, hf2⟩; have F2 := Lib.hid (Fr.trans ((Fr.refl (fun _ => False) w1).drewN _) hf2); have H2 := Lib.hid (H1.out.nf F2.out); have c0' := H2.out.cells.1; have c4' := H2.out.cells.2.2.2.1; have hA2 := F2.out.obj HA1.out id; obtain ⟨g0', g1', g2', g3', _⟩ := four_cells hA2; clear hf2 hA2)
  go_wp2_with (go_at_call 300; refine (inner_dot _).mono ?_; rintro e w' ⟨rfl, h0⟩; obtain rfl := h0.symm; clear h0)
  have HR := Lib.hid (run_dot v m bs x dd rd n xt w2.drew (H2.out.vm.nf (Fr.refl _ _).drew) K.out HFU.out)
  go_still_tail 6, (by kernel_rfl)
  change wpList _ _ _ _ _ w2.drew
  go_wp2_with (go_at_call 278; refine HR.out.mono ?_; rintro e w3 ⟨rfl, hv3, hf3⟩)
  go_ret
  have n0 := H2.out.ne
  have nq := H2.out.nq
  have nw := H2.out.nw
  have hf3' := Fr.undrew hf3
  exact ⟨rfl, H2.out.turn hf3' hv3 (by omega) (by omega) (by omega), ((HF1.out.trans F2.out).mono fun _ _ e => e.elim).trans hf3'⟩
end Go.Proofs.YthkmbnkkohomeaaGreatDoor.Mem
