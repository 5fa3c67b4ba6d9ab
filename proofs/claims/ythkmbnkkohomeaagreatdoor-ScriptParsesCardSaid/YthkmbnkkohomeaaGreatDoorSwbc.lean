/- Several texts in one: RdA, RdB, RdC. -/
import Derived.Test.YthkmbnkkohomeaaGreatDoorSwba
import Derived.Test.YthkmbnkkohomeaaGreatDoorSwav
import Derived.Test.YthkmbnkkohomeaaGreatDoorSwaq
import Derived.Deep.RegionHeld3
import Derived.StillTailTactics
set_option linter.unusedSimpArgs false
set_option linter.unusedVariables false
/- What the reader looks up for the words '1' and '.'. -/
namespace Go.Proofs.YthkmbnkkohomeaaGreatDoor.Mem
open Go.RowKit

theorem FmP.look_no {Kd : List (List UInt8 × Option Value)} {w : World} {b n : Nat} (hown : FmP Kd w b n) (t et : TypeId) (ht : Tryz.prog.underlying t = some (.map 9 et)) (hz : (zeroValue et).run Tryz.prog w = .ok .nilFunc w) (s : ByteArray) (hs : s.size ≤ maxLen) (hk : (s.data.toList, none) ∈ Kd) :
    (Instr.lookup t (.map (some b)) (.string s) true).run Tryz.prog w = .ok (.tuple #[.nilFunc, .bool false]) w := by
  obtain ⟨F, ⟨D, hD, hi, hU, hh, hfn⟩, hKd⟩ := hown
  have hF := hKd _ hk
  dsimp only at hF
  obtain ⟨v, ps, hrun, hv⟩ := hD.look_ok strKey ht hz (show fnElem .nilFunc = some (.held .nilFunc, []) from rfl) (WideMaps.keyOf_string_mk Tryz.underlying9 hs)
  rw [hU, hF] at hv
  obtain rfl := fnElem_inv hv
  rw [hh, hF] at hrun
  exact hrun

theorem ws_flags : ∀ y ∈ wsAll.map (·.1), y.fl = 0 := by
  have h : (wsAll.map (·.1)).all (fun y => decide (y.fl = 0)) = true := by decide +kernel
  intro y hy
  rw [List.all_eq_true] at h
  exact of_decide_eq_true (h y hy)
theorem ws_one : (wsAll.map (·.1)).find? (fun y => y.nm == [49]) = none := by
  have h : ((wsAll.map (·.1)).find? (fun y => y.nm == [49])).isNone = true := by decide +kernel
  exact Option.isNone_iff_eq_none.1 h
theorem ws_dot : (wsAll.map (·.1)).find? (fun y => y.nm == [46]) = some ⟨2176, 2200, 0, [46]⟩ := by
  have h : ((wsAll.map (·.1)).find? (fun y => y.nm == [46])).map (fun w => (w.a, w.xt, w.fl, w.nm)) = some (2176, 2200, 0, [46]) := by decide +kernel
  obtain ⟨y, hy1, hy2⟩ := Option.map_eq_some_iff.1 h
  obtain ⟨a, b, c, d⟩ := y
  simp only [Prod.mk.injEq] at hy2
  obtain ⟨rfl, rfl, rfl, rfl⟩ := hy2
  exact hy1
theorem pars_one : Num.pars ⟨#[49]⟩ 10 = (1, true) := by decide +kernel
theorem udig_one : Num.udig 10 1 = [49] := by decide +kernel
end Go.Proofs.YthkmbnkkohomeaaGreatDoor.Mem

/- The reader reads the words '1' and '.'. -/
namespace Go.Proofs.YthkmbnkkohomeaaGreatDoor.Mem
open Go.RowKit

set_option maxRecDepth 100000 in
set_option maxHeartbeats 4000000 in
theorem read_one (ob sr q qc wm : Nat) (o : OR) (v : VB) (m : MR) (bs : List UInt8) (x dd rd : Nat) (w : World) (h : OtS w ob sr q qc wm o v m bs x dd rd) (hd : HD bs x 24 wsAll) (hfu : 2 ≤ m.fuel ∧ m.fuel ≤ 1048576) (hda : dd + 1 ≤ v.da) (hten : cell bs 16 = (10, 0)) (hb : m.base = 16) :
    Calls Tryz.prog 97 #[.pointer (some ⟨ob, 0, none⟩), .string ⟨#[49]⟩] w
      fun e w' => e = .returned (.int .i64 0) ∧ OtS w' ob sr q qc wm o v { m with fuel := m.fuel - 1 } (setv bs (v.di + dd * 8) 1) x (dd + 1) rd ∧ Fr (fun j => j = v.mb ∨ j = v.db ∨ j = v.g) w w' := by
  have q10 := h.vm.row.cells.2.2.2.2.2.2.2.2.2.2.1
  have f10 := h.vm.row.free 10
  have n0 := h.ne
  have nq := h.nq
  have nw := h.nw
  have F1 := (Fr.refl (fun j => j = v.mb) w).setOne 10 (.int .i64 (m.fuel - 1))
  have H1 := Lib.hid (h.turn F1 (VmS.rowed h.vm F1 (h.vm.row.set10 (m.fuel - 1)) rfl rfl rfl rfl) n0.1 nq.1 nw.1)
  obtain ⟨c0, _, _, _, _, _⟩ := h.cells
  have HF1 := Lib.hid F1
  obtain ⟨fu, hfuu⟩ : ∃ f, m.fuel = f := ⟨_, rfl⟩
  obtain ⟨m1, hm1⟩ : ∃ M, ({ m with fuel := m.fuel - 1 } : MR) = M := ⟨_, rfl⟩
  have HM1 := Lib.hid hm1
  have HFU := Lib.hid hfu
  rw [hm1] at H1
  rw [hfuu] at q10 hfu H1 HF1
  have hdec : decide (fu < 1) = false := decide_eq_false (by omega)
  obtain ⟨w1, hw1⟩ : ∃ w1, w.setCell ⟨v.mb, 10, none⟩ (.int .i64 (fu - 1)) = w1 := ⟨_, rfl⟩
  rw [hw1] at H1 HF1
  have HW1 := Lib.hid hw1
  have HFD := Lib.hid (fun W (hW : OtS W ob sr q qc wm o v m1 bs x dd rd) => find_ok v.p v.g q qc bs 24 x ⟨#[49]⟩ (wsAll.map (·.1)) W hW.vm.sat.mat hd.xl hd.root hd.lnk ws_flags hW.lst (by decide))
  have hlow : lower (⟨#[49]⟩ : ByteArray).data.toList = [49] := by decide
  rw [hlow, ws_one] at HFD
  simp only [hvalO, hval, Option.isSome_none, Option.isSome_some] at HFD
  have HLW := Lib.hid (fun W => lower_any ⟨#[49]⟩ W (by decide))
  rw [hlow] at HLW
  have HHD := Lib.hid hd
  have HK := Lib.hid (And.intro hda (And.intro hten hb))
  clear hda hten hb
  clear h F1 hfuu hm1 hw1 hlow hd
  go_enter Tryz.func97, Tryz.ntmps97
  go_wp2_with fail
  rw [HW1.out]
  have c6 := H1.out.cells.2.2.2.2.1
  go_region_held3 (fun W => W.cell? ⟨ob, 6, none⟩ = some (.map (some wm)) ∧ Fr (fun _ => False) w1 W)
    ((go_split_ands; refine (fun hF => ⟨Fr.cell hF c6 id, hF⟩ : Fr (fun _ => False) w1 _ → _) ?_; repeat' with_reducible first | exact Fr.refl _ _ | assumption | apply Fr.drew | apply Fr.alloc))
    (first | (go_at_call 92; go_split_ands; refine (HLW.out _).mono ?_; rintro e w2 ⟨rfl, hf2⟩; have g2 : Fr (fun _ => False) w1 w2 := Fr.trans (by repeat' with_reducible first | exact Fr.refl _ _ | assumption | apply Fr.drew | apply Fr.alloc) hf2; have H2 := Lib.hid (H1.out.nf g2); obtain ⟨nn, hfm⟩ := H2.out.wds; have hlk := FmP.look_no hfm 97 130 Tryz.underlying97 rfl ⟨#[49]⟩ (by decide) (by simp)) | fail)
  have G2 := Lib.hid g2
  clear g2 hf2 c6 hlk hfm f10 c0 q10
  have c0 := H2.out.cells.1
  have c2 := H2.out.cells.2.2.1
  have d0 : w2.cell? ⟨v.mb, 0, none⟩ = some (.pointer (some ⟨v.sb, 0, none⟩)) := by rw [← H2.out.vm.sp]; exact H2.out.vm.row.cells.1
  have e0 := H2.out.vm.sat.cells.1
  go_wp2_with fail
  go_region_held3 (fun W => W.cell? ⟨ob, 0, none⟩ = some (.pointer (some ⟨v.mb, 0, none⟩)) ∧ W.cell? ⟨ob, 2, none⟩ = some (.slice (some ⟨q, 0, none⟩) 1 qc) ∧ W.cell? ⟨v.mb, 0, none⟩ = some (.pointer (some ⟨v.sb, 0, none⟩)) ∧ W.cell? ⟨v.sb, 0, none⟩ = some (.pointer (some ⟨v.p, 0, none⟩)) ∧ Fr (fun _ => False) w2 W)
    ((go_split_ands; refine (fun hF => ⟨Fr.cell hF c0 id, Fr.cell hF c2 id, Fr.cell hF d0 id, Fr.cell hF e0 id, hF⟩ : Fr (fun _ => False) w2 _ → _) ?_; repeat' with_reducible first | exact Fr.refl _ _ | assumption | apply Fr.drew | apply Fr.alloc | refine Fr.set4z ?_ (Nat.le_refl _)))
    (first | (go_at_call 165; go_split_ands; refine (HFD.out _ (OtS.nf H2.out (by with_reducible exact Fr.drew (Fr.refl _ _)))).mono ?_; rintro e w3 ⟨rfl, hf3⟩; have g3 : Fr (fun _ => False) w2 w3 := Fr.trans (Fr.drew (Fr.refl _ _)) hf3) | (go_at_call 165; go_split_ands; refine (HFD.out _ (OtS.nf H2.out (by with_reducible exact Fr.drew (Fr.alloc (Fr.refl _ _) _)))).mono ?_; rintro e w3 ⟨rfl, hf3⟩; have g3 : Fr (fun _ => False) w2 w3 := Fr.trans (Fr.drew (Fr.alloc (Fr.refl _ _) _)) hf3; have hx4 := hf3.obj (show (w2.alloc (.cells #[.int .i64 0, .int .i64 0, .int .i64 0, .string ⟨#[]⟩] 101)).drew.heap[w2.heap.size]? = _ from heap_alloc_last w2 _) id; obtain ⟨k0, k1, k2, k3, _⟩ := four_cells hx4; have z0 := frozen_of_row w3 w2.heap.size 0 _ _ hx4; have z1 := frozen_of_row w3 w2.heap.size 1 _ _ hx4; have z2 := frozen_of_row w3 w2.heap.size 2 _ _ hx4; have z3 := frozen_of_row w3 w2.heap.size 3 _ _ hx4) | fail)
  · rename_i hHeld
    obtain ⟨E, hE⟩ : ∃ E, w3.alloc (.cells #[.int .i64 0, .int .i64 0, .int .i64 0, .string ⟨#[]⟩] 101) = E := ⟨_, rfl⟩
    rw [hE] at hHeld ⊢
    have HFE := Lib.hid hHeld.2.2.2.2
    have HE := Lib.hid (H2.out.nf HFE.out)
    clear hHeld hE hf3 g3 c0 c2 d0 e0
    have c0 := HE.out.cells.1
    have HB := Lib.hid (base_ok v m1 bs x dd rd E HE.out.vm (by rw [← HM1.out]; exact HK.out.2.2) HK.out.2.1)
    have HPA := Lib.hid (fun W => Num.parse_any ⟨#[49]⟩ 10 W (by decide) (by omega) (by omega))
    rw [pars_one] at HPA
    have n2 := HE.out.vm.ds
    have n3 := HE.out.vm.sat.lt
    have n4 := lt_of_block n2
    clear n2
    go_wp2_with (first | (go_at_call 168; refine HB.out.mono ?_; rintro e w4 ⟨rfl, hf4⟩) | (go_at_call 167; refine (HPA.out _).mono ?_; rintro e w5 ⟨rfl, h5⟩; obtain rfl := h5.symm; clear h5))
    have c04 := hf4.cell c0 id
    have HA := Lib.hid (cell_of_one (heap_alloc_last w4 (.cells #[.int .i64 1] 2)))
    have HFA := Lib.hid (hf4.alloc (.cells #[.int .i64 1] 2))
    have hsz4 := hf4.size
    have HL := Lib.hid (literal_ok ob sr q qc wm w4.heap.size 1 o v m1 bs x dd rd 1 _ (HE.out.nf HFA.out) HK.out.1 HA.out ⟨by omega, by omega⟩)
    go_wp2_with (go_at_call 169; refine HL.out.mono ?_; rintro e w6 ⟨rfl, ho6, hf6⟩)
    go_ret
    exact ⟨rfl, by rw [HM1.out]; exact ho6, (((HF1.out.mono fun _ _ e => .inl e).trans ((G2.out.trans (HFE.out.trans HFA.out)).mono fun _ _ e => e.elim)).trans (hf6.mono fun _ _ e => .inr e))⟩
  · rename_i hHeld
    obtain ⟨E, hE⟩ : ∃ E, (((w3.setCell ⟨w2.heap.size, 0, none⟩ (.int .i64 0)).setCell ⟨w2.heap.size, 1, none⟩ (.int .i64 0)).setCell ⟨w2.heap.size, 2, none⟩ (.int .i64 0)).setCell ⟨w2.heap.size, 3, none⟩ (.string ⟨#[]⟩) = E := ⟨_, rfl⟩
    rw [hE] at hHeld ⊢
    have HFE := Lib.hid hHeld.2.2.2.2
    have HE := Lib.hid (H2.out.nf HFE.out)
    clear hHeld hE hf3 g3 c0 c2 d0 e0
    have c0 := HE.out.cells.1
    have HB := Lib.hid (base_ok v m1 bs x dd rd E HE.out.vm (by rw [← HM1.out]; exact HK.out.2.2) HK.out.2.1)
    have HPA := Lib.hid (fun W => Num.parse_any ⟨#[49]⟩ 10 W (by decide) (by omega) (by omega))
    rw [pars_one] at HPA
    have n2 := HE.out.vm.ds
    have n3 := HE.out.vm.sat.lt
    have n4 := lt_of_block n2
    clear n2
    go_wp2_with (first | (go_at_call 168; refine HB.out.mono ?_; rintro e w4 ⟨rfl, hf4⟩) | (go_at_call 167; refine (HPA.out _).mono ?_; rintro e w5 ⟨rfl, h5⟩; obtain rfl := h5.symm; clear h5))
    have c04 := hf4.cell c0 id
    have HA := Lib.hid (cell_of_one (heap_alloc_last w4 (.cells #[.int .i64 1] 2)))
    have HFA := Lib.hid (hf4.alloc (.cells #[.int .i64 1] 2))
    have hsz4 := hf4.size
    have HL := Lib.hid (literal_ok ob sr q qc wm w4.heap.size 1 o v m1 bs x dd rd 1 _ (HE.out.nf HFA.out) HK.out.1 HA.out ⟨by omega, by omega⟩)
    go_wp2_with (go_at_call 169; refine HL.out.mono ?_; rintro e w6 ⟨rfl, ho6, hf6⟩)
    go_ret
    exact ⟨rfl, by rw [HM1.out]; exact ho6, (((HF1.out.mono fun _ _ e => .inl e).trans ((G2.out.trans (HFE.out.trans HFA.out)).mono fun _ _ e => e.elim)).trans (hf6.mono fun _ _ e => .inr e))⟩
end Go.Proofs.YthkmbnkkohomeaaGreatDoor.Mem

/- The reader reads the words '1' and '.'. -/
namespace Go.Proofs.YthkmbnkkohomeaaGreatDoor.Mem
open Go.RowKit

set_option maxRecDepth 100000 in
set_option maxHeartbeats 4000000 in
theorem read_dot (ob sr q qc wm : Nat) (o : OR) (v : VB) (m : MR) (bs : List UInt8) (x dd rd : Nat) (w : World) (h : OtS w ob sr q qc wm o v m bs x (dd + 1) rd) (hd : HD bs x 24 wsAll) (hfu : 2 ≤ m.fuel ∧ m.fuel ≤ 1048576) (n : Nat) (k : DotOk v m bs dd n 2200) (ht : ∀ W, Fr (fun j => j = v.mb) w W → Cod.Tab W) :
    Calls Tryz.prog 97 #[.pointer (some ⟨ob, 0, none⟩), .string ⟨#[46]⟩] w
      fun e w' => e = .returned (.int .i64 0) ∧ OtS w' ob sr q qc wm o v (dotM { m with ip := 0, self := 0, hdl := 0, fuel := m.fuel - 1 - 1 } n) bs x dd rd ∧ Fr (fun j => j = v.mb ∨ j = v.db) w w' := by
  have q10 := h.vm.row.cells.2.2.2.2.2.2.2.2.2.2.1
  have f10 := h.vm.row.free 10
  have n0 := h.ne
  have nq := h.nq
  have nw := h.nw
  have F1 := (Fr.refl (fun j => j = v.mb) w).setOne 10 (.int .i64 (m.fuel - 1))
  have H1 := Lib.hid (h.turn F1 (VmS.rowed h.vm F1 (h.vm.row.set10 (m.fuel - 1)) rfl rfl rfl rfl) n0.1 nq.1 nw.1)
  obtain ⟨c0, _, _, _, _, _⟩ := h.cells
  have HF1 := Lib.hid F1
  obtain ⟨fu, hfuu⟩ : ∃ f, m.fuel = f := ⟨_, rfl⟩
  obtain ⟨m1, hm1⟩ : ∃ M, ({ m with fuel := m.fuel - 1 } : MR) = M := ⟨_, rfl⟩
  have HM1 := Lib.hid hm1
  have HFU := Lib.hid hfu
  rw [hm1] at H1
  rw [hfuu] at q10 hfu H1 HF1
  have hdec : decide (fu < 1) = false := decide_eq_false (by omega)
  obtain ⟨w1, hw1⟩ : ∃ w1, w.setCell ⟨v.mb, 10, none⟩ (.int .i64 (fu - 1)) = w1 := ⟨_, rfl⟩
  rw [hw1] at H1 HF1
  have HW1 := Lib.hid hw1
  have HFD := Lib.hid (fun W (hW : OtS W ob sr q qc wm o v m1 bs x (dd + 1) rd) => find_ok v.p v.g q qc bs 24 x ⟨#[46]⟩ (wsAll.map (·.1)) W hW.vm.sat.mat hd.xl hd.root hd.lnk ws_flags hW.lst (by decide))
  have hlow : lower (⟨#[46]⟩ : ByteArray).data.toList = [46] := by decide
  rw [hlow, ws_dot] at HFD
  simp only [hvalO, hval, Option.isSome_none, Option.isSome_some] at HFD
  have HLW := Lib.hid (fun W => lower_any ⟨#[46]⟩ W (by decide))
  rw [hlow] at HLW
  have HHD := Lib.hid hd
  have HK := Lib.hid k
  have HT := Lib.hid ht
  clear k ht
  clear h F1 hfuu hm1 hw1 hlow hd
  go_enter Tryz.func97, Tryz.ntmps97
  go_wp2_with fail
  rw [HW1.out]
  have c6 := H1.out.cells.2.2.2.2.1
  go_region_held3 (fun W => W.cell? ⟨ob, 6, none⟩ = some (.map (some wm)) ∧ Fr (fun _ => False) w1 W)
    ((go_split_ands; refine (fun hF => ⟨Fr.cell hF c6 id, hF⟩ : Fr (fun _ => False) w1 _ → _) ?_; repeat' with_reducible first | exact Fr.refl _ _ | assumption | apply Fr.drew | apply Fr.alloc))
    (first | (go_at_call 92; go_split_ands; refine (HLW.out _).mono ?_; rintro e w2 ⟨rfl, hf2⟩; have g2 : Fr (fun _ => False) w1 w2 := Fr.trans (by repeat' with_reducible first | exact Fr.refl _ _ | assumption | apply Fr.drew | apply Fr.alloc) hf2; have H2 := Lib.hid (H1.out.nf g2); obtain ⟨nn, hfm⟩ := H2.out.wds; have hlk := FmP.look_no hfm 97 130 Tryz.underlying97 rfl ⟨#[46]⟩ (by decide) (by simp)) | fail)
  have G2 := Lib.hid g2
  clear g2 hf2 c6 hlk hfm f10 c0 q10
  have c0 := H2.out.cells.1
  have c2 := H2.out.cells.2.2.1
  have d0 : w2.cell? ⟨v.mb, 0, none⟩ = some (.pointer (some ⟨v.sb, 0, none⟩)) := by rw [← H2.out.vm.sp]; exact H2.out.vm.row.cells.1
  have e0 := H2.out.vm.sat.cells.1
  go_wp2_with fail
  go_region_held3 (fun W => W.cell? ⟨ob, 0, none⟩ = some (.pointer (some ⟨v.mb, 0, none⟩)) ∧ W.cell? ⟨ob, 2, none⟩ = some (.slice (some ⟨q, 0, none⟩) 1 qc) ∧ W.cell? ⟨v.mb, 0, none⟩ = some (.pointer (some ⟨v.sb, 0, none⟩)) ∧ W.cell? ⟨v.sb, 0, none⟩ = some (.pointer (some ⟨v.p, 0, none⟩)) ∧ Fr (fun _ => False) w2 W)
    ((go_split_ands; refine (fun hF => ⟨Fr.cell hF c0 id, Fr.cell hF c2 id, Fr.cell hF d0 id, Fr.cell hF e0 id, hF⟩ : Fr (fun _ => False) w2 _ → _) ?_; repeat' with_reducible first | exact Fr.refl _ _ | assumption | apply Fr.drew | apply Fr.alloc | refine Fr.set4z ?_ (Nat.le_refl _)))
    (first | (go_at_call 165; go_split_ands; refine (HFD.out _ (OtS.nf H2.out (by with_reducible exact Fr.drew (Fr.refl _ _)))).mono ?_; rintro e w3 ⟨rfl, hf3⟩; have g3 : Fr (fun _ => False) w2 w3 := Fr.trans (Fr.drew (Fr.refl _ _)) hf3) | (go_at_call 165; go_split_ands; refine (HFD.out _ (OtS.nf H2.out (by with_reducible exact Fr.drew (Fr.alloc (Fr.refl _ _) _)))).mono ?_; rintro e w3 ⟨rfl, hf3⟩; have g3 : Fr (fun _ => False) w2 w3 := Fr.trans (Fr.drew (Fr.alloc (Fr.refl _ _) _)) hf3; have hx4 := hf3.obj (show (w2.alloc (.cells #[.int .i64 0, .int .i64 0, .int .i64 0, .string ⟨#[]⟩] 101)).drew.heap[w2.heap.size]? = _ from heap_alloc_last w2 _) id; obtain ⟨k0, k1, k2, k3, _⟩ := four_cells hx4; have z0 := frozen_of_row w3 w2.heap.size 0 _ _ hx4; have z1 := frozen_of_row w3 w2.heap.size 1 _ _ hx4; have z2 := frozen_of_row w3 w2.heap.size 2 _ _ hx4; have z3 := frozen_of_row w3 w2.heap.size 3 _ _ hx4) | fail)
  · rename_i hHeld
    obtain ⟨E, hE⟩ : ∃ E, w3.alloc (.cells #[.int .i64 2176, .int .i64 2200, .int .i64 0, .string ⟨#[46]⟩] 101) = E := ⟨_, rfl⟩
    rw [hE] at hHeld ⊢
    have HFE := Lib.hid hHeld.2.2.2.2
    have HE := Lib.hid (H2.out.nf HFE.out)
    have hx9 : E.heap[w3.heap.size]? = some (.cells #[.int .i64 2176, .int .i64 2200, .int .i64 0, .string ⟨#[46]⟩] 101 (0, 0)) := by
      rw [← hE]
      exact heap_alloc_last w3 _
    obtain ⟨y0, y1, y2, y3, _⟩ := four_cells hx9
    clear hHeld hE hf3 g3 c0 c2 d0 e0
    have HU := Lib.hid (use_dot ob sr q qc wm o v m1 bs x dd rd n 2176 2200 0 ⟨#[46]⟩ E HE.out (by rw [← HM1.out]; exact ⟨HK.out.d, HK.out.top, HK.out.base, HK.out.ten, HK.out.small, HK.out.room, HK.out.some, HK.out.xt⟩) (by rw [← HM1.out]; dsimp only; have := HFU.out; omega) (HT.out _ (HF1.out.trans ((G2.out.trans HFE.out).mono fun _ _ e => e.elim))))
    go_wp2_with (go_at_call 166; refine HU.out.mono ?_; rintro e w6 ⟨rfl, ho6, hf6⟩)
    go_ret
    exact ⟨rfl, by rw [← HM1.out] at ho6; exact ho6, (((HF1.out.mono fun _ _ e => .inl e).trans ((G2.out.trans HFE.out).mono fun _ _ e => e.elim)).trans hf6)⟩
  · rename_i hHeld
    obtain ⟨E, hE⟩ : ∃ E, (((w3.setCell ⟨w2.heap.size, 0, none⟩ (.int .i64 2176)).setCell ⟨w2.heap.size, 1, none⟩ (.int .i64 2200)).setCell ⟨w2.heap.size, 2, none⟩ (.int .i64 0)).setCell ⟨w2.heap.size, 3, none⟩ (.string ⟨#[46]⟩) = E := ⟨_, rfl⟩
    rw [hE] at hHeld ⊢
    have HFE := Lib.hid hHeld.2.2.2.2
    have HE := Lib.hid (H2.out.nf HFE.out)
    have hx9 : E.heap[w2.heap.size]? = some (.cells #[.int .i64 2176, .int .i64 2200, .int .i64 0, .string ⟨#[46]⟩] 101 (0, 0)) := by
      rw [← hE]
      exact four_set hx4 _ _ _ _
    obtain ⟨y0, y1, y2, y3, _⟩ := four_cells hx9
    clear hHeld hE hf3 g3 c0 c2 d0 e0
    have HU := Lib.hid (use_dot ob sr q qc wm o v m1 bs x dd rd n 2176 2200 0 ⟨#[46]⟩ E HE.out (by rw [← HM1.out]; exact ⟨HK.out.d, HK.out.top, HK.out.base, HK.out.ten, HK.out.small, HK.out.room, HK.out.some, HK.out.xt⟩) (by rw [← HM1.out]; dsimp only; have := HFU.out; omega) (HT.out _ (HF1.out.trans ((G2.out.trans HFE.out).mono fun _ _ e => e.elim))))
    go_wp2_with (go_at_call 166; refine HU.out.mono ?_; rintro e w6 ⟨rfl, ho6, hf6⟩)
    go_ret
    exact ⟨rfl, by rw [← HM1.out] at ho6; exact ho6, (((HF1.out.mono fun _ _ e => .inl e).trans ((G2.out.trans HFE.out).mono fun _ _ e => e.elim)).trans hf6)⟩
end Go.Proofs.YthkmbnkkohomeaaGreatDoor.Mem
