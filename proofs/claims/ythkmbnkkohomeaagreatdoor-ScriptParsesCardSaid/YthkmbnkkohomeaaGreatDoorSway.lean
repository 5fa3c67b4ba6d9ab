/- Several texts in one: VbF, VbG, FdA. -/
import Derived.Test.YthkmbnkkohomeaaGreatDoorSwax
import Derived.BigRegion
import Derived.Test.YthkmbnkkohomeaaGreatDoorSwao
set_option linter.unusedSimpArgs false
set_option linter.unusedVariables false
/- Executing the word '.': step, Run. -/
namespace Go.Proofs.YthkmbnkkohomeaaGreatDoor.Mem
open Go.RowKit

/-- What the word '.' leaves of a machine's row. -/
def dotM (m : MR) (n : Nat) : MR := { m with out := m.out ++ (⟨(Num.udig 10 n).toArray⟩ ++ ⟨#[32]⟩) }
/-- What the word '.' asks for. -/
structure DotOk (v : VB) (m : MR) (bs : List UInt8) (dd n : Nat) (xt : Int) : Prop where
  d : dd + 1 ≤ v.da
  top : cellv bs (v.di + dd * 8) = n
  base : m.base = 16
  ten : cell bs 16 = (10, 0)
  small : n ≤ 9223372036854775807
  room : m.out.size + (Num.udig 10 n).length < 65535
  some : (⟨(Num.udig 10 n).toArray⟩ : ByteArray).toList.isEmpty = false
  xt : cell bs xt = (68, 0)

set_option maxRecDepth 100000 in
set_option maxHeartbeats 2000000 in
theorem run1_dot (v : VB) (m : MR) (bs : List UInt8) (x dd rd n c0 c1 : Nat) (xt : Int) (w : World) (h : VmS w v m bs x (dd + 1) rd) (k : DotOk v m bs dd n xt) (h0 : w.cell? ⟨c0, 0, none⟩ = some (.pointer (some ⟨v.mb, 0, none⟩))) (h1 : w.cell? ⟨c1, 0, none⟩ = some (.int .i64 xt)) :
    Calls Tryz.prog 347 #[.pointer (some ⟨c0, 0, none⟩), .pointer (some ⟨c1, 0, none⟩)] w
      fun e w' => e = .returned (.int .i64 0) ∧ VmS w' v (dotM m n) bs x dd rd ∧ Fr (fun j => j = v.mb ∨ j = v.db) w w' := by
  have HE := Lib.hid (enter_dot v m bs x dd rd n xt w h k.d k.top k.base k.ten k.small k.room k.some k.xt)
  obtain ⟨M2, hM2⟩ : ∃ M, dotM m n = M := ⟨_, rfl⟩
  have hM3 : ({ m with out := m.out ++ (⟨(Num.udig 10 n).toArray⟩ ++ ⟨#[32]⟩) } : MR) = M2 := hM2
  rw [hM3] at HE
  rw [hM2]
  clear h k hM2 hM3
  go_enter Tryz.func347, Tryz.ntmps347
  go_wp2_with (go_at_call 197; refine HE.out.mono ?_; rintro e w2 ⟨rfl, hv2, hf2⟩)
  go_ret
  exact ⟨rfl, hv2, hf2⟩

set_option maxRecDepth 100000 in
set_option maxHeartbeats 2000000 in
theorem step_dot (v : VB) (m : MR) (bs : List UInt8) (x dd rd n c0 c1 : Nat) (xt : Int) (w : World) (h : VmS w v m bs x (dd + 1) rd) (k : DotOk v m bs dd n xt) (hf : 1 ≤ m.fuel ∧ m.fuel ≤ 1048576) (h0 : w.cell? ⟨c0, 0, none⟩ = some (.pointer (some ⟨v.mb, 0, none⟩))) (h1 : w.cell? ⟨c1, 0, none⟩ = some (.int .i64 xt)) (hc : c0 ≠ v.mb ∧ c1 ≠ v.mb) :
    Calls Tryz.prog 346 #[.pointer (some ⟨v.mb, 0, none⟩), .func (.func 347) #[] #[.pointer (some ⟨c0, 0, none⟩), .pointer (some ⟨c1, 0, none⟩)]] w
      fun e w' => e = .returned (.int .i64 0) ∧ VmS w' v (dotM { m with fuel := m.fuel - 1 } n) bs x dd rd ∧ Fr (fun j => j = v.mb ∨ j = v.db) w w' := by
  have q10 := h.row.cells.2.2.2.2.2.2.2.2.2.2.1
  have f10 := h.row.free 10
  have F1 := (Fr.refl (fun j => j = v.mb) w).setOne 10 (.int .i64 (m.fuel - 1))
  have hV := VmS.rowed h F1 (h.row.set10 (m.fuel - 1)) rfl rfl rfl rfl
  have HR := Lib.hid (run1_dot v _ bs x dd rd n c0 c1 xt _ hV ⟨k.d, k.top, k.base, k.ten, k.small, k.room, k.some, k.xt⟩ (F1.cell h0 hc.1) (F1.cell h1 hc.2))
  have HF1 := Lib.hid F1
  obtain ⟨fu, hfu⟩ : ∃ f, m.fuel = f := ⟨_, rfl⟩
  obtain ⟨M2, hM2⟩ : ∃ M, dotM { m with fuel := m.fuel - 1 } n = M := ⟨_, rfl⟩
  rw [hM2] at HR ⊢
  rw [hfu] at HR HF1 q10 hf
  have hd : decide (fu < 1) = false := decide_eq_false (by omega)
  clear h k hV F1 h0 h1 hc hM2 hfu
  go_enter Tryz.func346, Tryz.ntmps346
  go_wp2_with (go_at_call 347; refine HR.out.mono ?_; rintro e w2 ⟨rfl, hv2, hf2⟩)
  go_ret
  exact ⟨rfl, hv2, (HF1.out.mono fun _ _ e => .inl e).trans hf2⟩
end Go.Proofs.YthkmbnkkohomeaaGreatDoor.Mem

/- Executing the word '.': Run. -/
namespace Go.Proofs.YthkmbnkkohomeaaGreatDoor.Mem
open Go.RowKit

set_option maxRecDepth 100000 in
set_option maxHeartbeats 2000000 in
theorem run_dot (v : VB) (m : MR) (bs : List UInt8) (x dd rd n : Nat) (xt : Int) (w : World) (h : VmS w v m bs x (dd + 1) rd) (k : DotOk v m bs dd n xt) (hf : 1 ≤ m.fuel ∧ m.fuel ≤ 1048576) :
    Calls Tryz.prog 278 #[.pointer (some ⟨v.mb, 0, none⟩), .int .i64 xt] w
      fun e w' => e = .returned (.int .i64 0) ∧ VmS w' v (dotM { m with ip := 0, self := 0, hdl := 0, fuel := m.fuel - 1 } n) bs x dd rd ∧ Fr (fun j => j = v.mb ∨ j = v.db) w w' := by
  have hml := h.row.lt
  have hdl := lt_of_block h.ds
  obtain ⟨c0, hc0⟩ : ∃ c, w.heap.size = c := ⟨_, rfl⟩
  have hs1 : (w.alloc (.cells #[.pointer (some ⟨v.mb, 0, none⟩)] 93)).heap.size = c0 + 1 := by simp [hc0]
  have hF1 := (Fr.refl (fun _ => False) w).alloc (.cells #[.pointer (some ⟨v.mb, 0, none⟩)] 93)
  have hA1 := heap_alloc_last w (.cells #[.pointer (some ⟨v.mb, 0, none⟩)] 93)
  obtain ⟨w1, hw1⟩ : ∃ w1, w.alloc (.cells #[.pointer (some ⟨v.mb, 0, none⟩)] 93) = w1 := ⟨_, rfl⟩
  rw [hw1] at hs1 hF1 hA1
  have hF2 := (Fr.refl (fun _ => False) w1).alloc (.cells #[.int .i64 xt] 2)
  have hA2 := heap_alloc_last w1 (.cells #[.int .i64 xt] 2)
  obtain ⟨w2, hw2⟩ : ∃ w2, w1.alloc (.cells #[.int .i64 xt] 2) = w2 := ⟨_, rfl⟩
  rw [hw2] at hF2 hA2
  rw [hc0] at hA1 hml hdl
  rw [hs1] at hA2
  have k0 := hF2.cell (cell_of_one hA1) id
  have k1 := cell_of_one hA2
  have F2 := Lib.hid (hF1.trans hF2)
  have H2 := Lib.hid (h.nf F2.out)
  have q5 := H2.out.row.cells.2.2.2.2.2.1
  have q6 := H2.out.row.cells.2.2.2.2.2.2.1
  have q14 := H2.out.row.cells.2.2.2.2.2.2.2.2.2.2.2.2.2.2.1
  have f5 := H2.out.row.free 5
  have f6 := H2.out.row.free 6
  have f14 := H2.out.row.free 14
  have F3 := (((Fr.refl (fun j => j = v.mb) w2).setOne 5 (.int .i64 0)).setOne 6 (.int .i64 0)).setOne 14 (.int .i64 0)
  have H3 := Lib.hid (VmS.rowed H2.out F3 (((H2.out.row.set5 0).set6 0).set14 0) rfl rfl rfl rfl)
  have k03 := F3.cell k0 (by dsimp only; omega)
  have k13 := F3.cell k1 (by dsimp only; omega)
  obtain ⟨w3, hw3⟩ : ∃ w3, ((w2.setCell ⟨v.mb, 5, none⟩ (.int .i64 0)).setCell ⟨v.mb, 6, none⟩ (.int .i64 0)).setCell ⟨v.mb, 14, none⟩ (.int .i64 0) = w3 := ⟨_, rfl⟩
  rw [hw3] at F3 H3 k03 k13
  have HST := Lib.hid (step_dot v _ bs x dd rd n c0 (c0 + 1) xt w3.drew (H3.out.nf (Fr.refl _ _).drew) ⟨k.d, k.top, k.base, k.ten, k.small, k.room, k.some, k.xt⟩ hf k03 k13 ⟨by omega, by omega⟩)
  dsimp only at HST
  have HF3 := Lib.hid F3
  have HK0 := Lib.hid k03
  have HW3 := Lib.hid hw3
  obtain ⟨M2, hM2⟩ : ∃ M, dotM { m with ip := 0, self := 0, hdl := 0, fuel := m.fuel - 1 } n = M := ⟨_, rfl⟩
  have HM2 := Lib.hid hM2
  rw [hM2] at HST ⊢
  have hip : M2.ip = 0 := by rw [← hM2]; rfl
  clear h k hf hF1 hF2 hA1 hA2 F3 k03 k13 hw3 hM2
  go_enter Tryz.func278, Tryz.ntmps278
  go_wp2_with fail
  go_region
  go_wp2_with fail
  rw [HW3.out]
  refine HST.out.mono ?_
  rintro e w4 ⟨rfl, hv4, hf4⟩
  have HV4 := Lib.hid hv4
  have k04 := hf4.cell HK0.out (by intro e; rcases e with e | e <;> dsimp only at e <;> omega)
  have q5 := hv4.row.cells.2.2.2.2.2.1
  rw [hip] at q5
  have HF4 := Lib.hid (Fr.undrew hf4)
  clear hv4 hf4 f5 f6 f14 q6 q14
  go_wp2_with fail
  go_loop [5] (fun ev => ev = .int .i64 0) (fun _ => 0)
  case atStart => rfl
  case round =>
    subst hrel
    go_wp2_with fail
    go_ret
    exact ⟨rfl, HV4.out, ((F2.out.mono fun _ _ e => e.elim).trans (HF3.out.mono fun _ _ e => .inl e)).trans HF4.out⟩
end Go.Proofs.YthkmbnkkohomeaaGreatDoor.Mem

/- head.Find in one list. -/
namespace Go.Proofs.YthkmbnkkohomeaaGreatDoor.Mem
open Go.RowKit

def hvalO : Option HW → Value
  | none => .agg #[.int .i64 0, .int .i64 0, .int .i64 0, .string ⟨#[]⟩]
  | some x => hval x
def hrowO : Option HW → Array Value
  | none => #[.int .i64 0, .int .i64 0, .int .i64 0, .string ⟨#[]⟩]
  | some x => #[.int .i64 x.a, .int .i64 x.xt, .int .i64 x.fl, .string ⟨x.nm.toArray⟩]
theorem hrow_at (o : Option HW) : ∃ (a x f : Int) (n : List UInt8), hrowO o = #[.int .i64 a, .int .i64 x, .int .i64 f, .string ⟨n.toArray⟩] ∧ hvalO o = .agg #[.int .i64 a, .int .i64 x, .int .i64 f, .string ⟨n.toArray⟩] := by
  cases o with
  | none => exact ⟨0, 0, 0, [], rfl, rfl⟩
  | some x => exact ⟨x.a, x.xt, x.fl, x.nm, rfl, rfl⟩
theorem FoundIs.rows {w : World} {cF cO : Nat} {tF tO : TypeId} {o : Option HW} (h : FoundIs w cF cO tF tO o) : w.heap[cF]? = some (.cells (hrowO o) tF (0, 0)) ∧ w.heap[cO]? = some (.cells #[.bool o.isSome] tO (0, 0)) := by
  cases o with
  | none => exact h
  | some x => exact h

theorem Fr.set4z {S : Nat → Prop} {a b : World} {p : Nat} {x0 x1 x2 x3 : Value} (h : Fr S a b) (hp : a.heap.size ≤ p) : Fr S a ((((b.setCell ⟨p, 0, none⟩ x0).setCell ⟨p, 1, none⟩ x1).setCell ⟨p, 2, none⟩ x2).setCell ⟨p, 3, none⟩ x3) :=
  Fr.setCell (Fr.setCell (Fr.setCell (Fr.setCell h (.inl hp) _) (.inl hp) _) (.inl hp) _) (.inl hp) _

set_option maxRecDepth 100000 in
set_option maxHeartbeats 2000000 in
theorem find_ok (p g q c : Nat) (bs : List UInt8) (root x : Nat) (nm : ByteArray) (ws : List HW) (w : World) (h : Mat 221 w p g bs) (hx : x ≤ bs.length) (hroot : cell bs (root : Int) = (cellv bs root, 0))
    (hl : Lnk bs (root + 8) x (cellv bs root) ws) (h0 : ∀ y ∈ ws, y.fl = 0) (hq : w.cell? ⟨q, 0, none⟩ = some (.int .i64 (root : Nat))) (hn : nm.size ≤ 1048576) :
    Calls Tryz.prog 165 #[.pointer (some ⟨p, 0, none⟩), .string nm, .slice (some ⟨q, 0, none⟩) 1 c] w
      fun e w' => e = .returned (.tuple #[hvalO (ws.find? fun y => y.nm == lower nm.data.toList), .bool (ws.find? fun y => y.nm == lower nm.data.toList).isSome]) ∧ Fr (fun _ => False) w w' := by
  obtain ⟨low, hlo⟩ : ∃ l, lower nm.data.toList = l := ⟨_, rfl⟩
  have HL := Lib.hid (fun W => lower_any nm W hn)
  rw [hlo] at HL ⊢
  obtain ⟨res, hres⟩ : ∃ r, (ws.find? fun y => y.nm == low) = r := ⟨_, rfl⟩
  rw [hres]
  have HRES := Lib.hid hres
  clear hres
  obtain ⟨b0, hb0⟩ : ∃ b, w.heap.size = b := ⟨_, rfl⟩
  have s1 : (w.alloc (.cells #[.int .i64 0, .int .i64 0, .int .i64 0, .string ⟨#[]⟩] 101)).heap.size = b0 + 1 := by simp [hb0]
  have A1 := heap_alloc_last w (.cells #[.int .i64 0, .int .i64 0, .int .i64 0, .string ⟨#[]⟩] 101)
  have F1 := (Fr.refl (fun _ => False) w).alloc (.cells #[.int .i64 0, .int .i64 0, .int .i64 0, .string ⟨#[]⟩] 101)
  obtain ⟨w1, hw1⟩ : ∃ w1, w.alloc (.cells #[.int .i64 0, .int .i64 0, .int .i64 0, .string ⟨#[]⟩] 101) = w1 := ⟨_, rfl⟩
  rw [hw1] at s1 A1 F1
  have s2 : (w1.alloc (.cells #[.int .i64 0, .int .i64 0, .int .i64 0, .string ⟨#[]⟩] 101)).heap.size = b0 + 1 + 1 := by simp [s1]
  have A2 := heap_alloc_last w1 (.cells #[.int .i64 0, .int .i64 0, .int .i64 0, .string ⟨#[]⟩] 101)
  have F2 := (Fr.refl (fun _ => False) w1).alloc (.cells #[.int .i64 0, .int .i64 0, .int .i64 0, .string ⟨#[]⟩] 101)
  obtain ⟨w2, hw2⟩ : ∃ w2, w1.alloc (.cells #[.int .i64 0, .int .i64 0, .int .i64 0, .string ⟨#[]⟩] 101) = w2 := ⟨_, rfl⟩
  rw [hw2] at s2 A2 F2
  have A3 := heap_alloc_last w2 (.cells #[.bool false] 4)
  have F3 := (Fr.refl (fun _ => False) w2).alloc (.cells #[.bool false] 4)
  obtain ⟨w3, hw3⟩ : ∃ w3, w2.alloc (.cells #[.bool false] 4) = w3 := ⟨_, rfl⟩
  rw [hw3] at A3 F3
  have s3 : w3.heap.size = b0 + 1 + 1 + 1 := by rw [← hw3]; simp [s2]
  rw [hb0] at A1
  rw [s1] at A2
  rw [s2] at A3
  have R6 := Lib.hid ((F2.trans F3).obj A1 id)
  have FD := Lib.hid (show FoundIs w3 (b0 + 1) (b0 + 1 + 1) 101 4 none from ⟨F3.obj A2 id, A3⟩)
  have F13 := Lib.hid ((F1.trans F2).trans F3)
  have H := Lib.hid (h.fr F13.out id id)
  have hpg := h.lt
  rw [hb0] at hpg
  have HQ := Lib.hid (F13.out.cell hq id)
  have HE := Lib.hid (fun c1 W hW k1 k2 hd hne => eachFind_ok p g c1 (b0 + 1) (b0 + 1 + 1) 101 4 bs root x low ws W hW hx hroot hl h0 k1 k2 hd hne)
  have HLO := Lib.hid hlo
  have HW3 := Lib.hid hw3
  clear h hq hl h0 hroot hlo F1 F2 F3 A1 A2 A3 hw3
  go_enter Tryz.func165, Tryz.ntmps165
  go_wp2_with fail
  rw [HW3.out]
  refine (HL.out _).mono ?_
  rintro e w4 ⟨rfl, hf4⟩
  have FA := (hf4.alloc (.cells #[.string ⟨low.toArray⟩] 9))
  have AL := heap_alloc_last w4 (.cells #[.string ⟨low.toArray⟩] 9)
  have hz4 := hf4.size
  rw [s3] at hz4
  obtain ⟨w5, hw5⟩ : ∃ w5, w4.alloc (.cells #[.string ⟨low.toArray⟩] 9) = w5 := ⟨_, rfl⟩
  rw [hw5] at FA AL
  obtain ⟨c1, hc1⟩ : ∃ c1, w4.heap.size = c1 := ⟨_, rfl⟩
  rw [hc1] at AL hz4
  have F5 := Lib.hid FA
  have AL5 := Lib.hid (cell_of_one AL)
  have R5 := Lib.hid (FA.obj R6.out id)
  have FD5 := Lib.hid (FoundIs.fr FD.out FA id id)
  have H5 := Lib.hid (H.out.fr FA id id)
  have q5 := FA.cell HQ.out id
  clear FA AL hf4
  simp only [hc1]
  go_wp2_with fail
  have hE := HE.out c1 w5 H5.out AL5.out FD5.out (by omega) ⟨by omega, by omega, by omega, by omega, by omega, by omega⟩
  rw [HRES.out] at hE
  have HEE := Lib.hid hE
  have hb0w : w.heap.size ≤ b0 := by omega
  clear hE
  go_loopw [17] (fun iv wr => (iv = .int .i64 0 ∧ wr = w5) ∨ (iv = .int .i64 1 ∧ res = none ∧ FoundIs wr (b0 + 1) (b0 + 1 + 1) 101 4 none ∧ Fr (fun j => j = b0 + 1 ∨ j = b0 + 1 + 1) w5 wr)) (fun iv _ => 1 - (intOf iv).toNat)
  case atStart => exact .inl ⟨rfl, rfl⟩
  case round =>
    rcases hrel with ⟨hiv, hwr⟩ | ⟨hiv, hrs, hfd, hF⟩
    · subst hiv hwr
      go_wp2_with fail
      refine HEE.out.mono ?_
      rintro e w6 ⟨rfl, hfd6, hf6⟩
      have hR6 := Lib.hid (hf6.obj R5.out (by omega))
      have hFW := Lib.hid ((F13.out.trans F5.out).after hf6 (fun k hk e => by omega))
      have hrw := Lib.hid (FoundIs.rows hfd6)
      have g4' := cell_of_one hrw.out.2
      cases res with
      | none =>
        have HFD6 := Lib.hid hfd6
        have HF6 := Lib.hid hf6
        dsimp only [Option.isSome] at g4'
        clear hfd6 hf6 q5
        go_wp2_with fail
        go_roundw
        case rel =>
          refine .inr ⟨rfl, ?_, HFD6.out, HF6.out⟩
          first | rfl | trivial
        case measure => simp [intOf]
      | some y =>
        dsimp only [Option.isSome] at g4'
        clear hfd6 hf6 q5
        have g4k := g4'
        go_wp2_with fail
        have hrow := Lib.hid (hrw.out)
        have hb0r := Lib.hid (hR6.out)
        have FW := Lib.hid (hFW.out)
        obtain ⟨ya, yx, yf, yn, hy1, hy2⟩ := hrow_at (some y)
        have hr1 := hrow.out.1
        rw [hy1] at hr1
        obtain ⟨g0, g1, g2, g3, _⟩ := four_cells hr1
        have g4 := cell_of_one hrow.out.2
        dsimp only [Option.isSome] at g4
        obtain ⟨r0, r1, r2, r3, _⟩ := four_cells hb0r.out
        have z0 := frozen_of_row _ b0 0 _ _ hb0r.out
        have z1 := frozen_of_row _ b0 1 _ _ hb0r.out
        have z2 := frozen_of_row _ b0 2 _ _ hb0r.out
        have z3 := frozen_of_row _ b0 3 _ _ hb0r.out
        clear hr1
        go_wp2_with fail
        go_region
        all_goals
          go_wp2_with fail
          (try simp only [Exit.inBlock, Exit.then])
          exact bodyPost_ret (results_cell1 rfl _ _ b0 101 _ (0, 0) _ rfl (four_set hb0r.out _ _ _ _) Tryz.underlying101 rfl (by kernel_rfl)) rfl ⟨by rw [hy2]; rfl, (Fr.set4z FW.out (by omega)).drew⟩
    · subst hiv hrs
      have hrw := FoundIs.rows hfd
      have hR6 := hF.obj R5.out (by omega)
      have hFW := (F13.out.trans F5.out).after hF (fun k hk e => by omega)
      clear hfd hF q5
      have hrow := Lib.hid (hrw)
      have hb0r := Lib.hid (hR6)
      have FW := Lib.hid (hFW)
      obtain ⟨ya, yx, yf, yn, hy1, hy2⟩ := hrow_at none
      have hr1 := hrow.out.1
      rw [hy1] at hr1
      obtain ⟨g0, g1, g2, g3, _⟩ := four_cells hr1
      have g4 := cell_of_one hrow.out.2
      dsimp only [Option.isSome] at g4
      obtain ⟨r0, r1, r2, r3, _⟩ := four_cells hb0r.out
      have z0 := frozen_of_row _ b0 0 _ _ hb0r.out
      have z1 := frozen_of_row _ b0 1 _ _ hb0r.out
      have z2 := frozen_of_row _ b0 2 _ _ hb0r.out
      have z3 := frozen_of_row _ b0 3 _ _ hb0r.out
      clear hr1
      go_wp2_with fail
      go_region
      all_goals
        go_wp2_with fail
        (try simp only [Exit.inBlock, Exit.then])
        exact bodyPost_ret (results_cell1 rfl _ _ b0 101 _ (0, 0) _ rfl (four_set hb0r.out _ _ _ _) Tryz.underlying101 rfl (by kernel_rfl)) rfl ⟨by rw [hy2]; rfl, (Fr.set4z FW.out (by omega)).drew⟩
end Go.Proofs.YthkmbnkkohomeaaGreatDoor.Mem
