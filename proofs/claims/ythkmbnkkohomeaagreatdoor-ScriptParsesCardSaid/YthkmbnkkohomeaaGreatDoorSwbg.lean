/- run.read of the text '1 .'. -/
import Derived.Test.YthkmbnkkohomeaaGreatDoorSwak
import Derived.Test.YthkmbnkkohomeaaGreatDoorSwbf
set_option linter.unusedSimpArgs false
set_option linter.unusedVariables false

namespace Go.Proofs.YthkmbnkkohomeaaGreatDoor.Mem
open Go.RowKit

theorem results_cell0 {P : Program} {fn : Func} {p : Tmp} {ty : TypeId} (h : fn.results = #[.cell p ty]) (tmps : Array Value) (w : World) (g : Nat) (t : TypeId) (cs : Array Value) (fr : Nat × Nat) (d : TypeDesc)
    (hp : tmps.getD p undef = .pointer (some ⟨g, 0, none⟩)) (hg : w.heap[g]? = some (.cells cs t fr))
    (hu : P.underlying ty = some d) (hd : (match d with | .struct _ | .array _ _ => true | _ => false) = true) (hi : (P.info? ty).map (·.size) = some cs.size) :
    (results fn tmps).run P w = .ok (.agg cs) w := by
  have hp' : tmps[p]?.getD undef = .pointer (some ⟨g, 0, none⟩) := by simpa using hp
  simp [results, h, hp', asAddr, run_loadVar_row w g t ty cs fr d hg hu hd hi]

theorem Fr.set7s {a b : World} {p : Nat} {x0 x1 x2 x3 x4 x5 x6 : Value} (h : Fr (fun j => j = p) a b) : Fr (fun j => j = p) a (((((((b.setCell ⟨p, 0, none⟩ x0).setCell ⟨p, 1, none⟩ x1).setCell ⟨p, 2, none⟩ x2).setCell ⟨p, 3, none⟩ x3).setCell ⟨p, 4, none⟩ x4).setCell ⟨p, 5, none⟩ x5).setCell ⟨p, 6, none⟩ x6) :=
  ((((((h.setOne 0 x0).setOne 1 x1).setOne 2 x2).setOne 3 x3).setOne 4 x4).setOne 5 x5).setOne 6 x6
theorem seven_set {w : World} {b : Nat} {x0 x1 x2 x3 x4 x5 x6 : Value} {t : TypeId} (h : w.heap[b]? = some (.cells #[x0, x1, x2, x3, x4, x5, x6] t (0, 0))) (u0 u1 u2 u3 u4 u5 u6 : Value) :
    (((((((w.setCell ⟨b, 0, none⟩ u0).setCell ⟨b, 1, none⟩ u1).setCell ⟨b, 2, none⟩ u2).setCell ⟨b, 3, none⟩ u3).setCell ⟨b, 4, none⟩ u4).setCell ⟨b, 5, none⟩ u5).setCell ⟨b, 6, none⟩ u6).heap[b]? = some (.cells #[u0, u1, u2, u3, u4, u5, u6] t (0, 0)) := by
  have h0 := heap_setCell_same w b 0 _ _ u0 h
  have h1 := heap_setCell_same _ b 1 _ _ u1 h0
  have h2 := heap_setCell_same _ b 2 _ _ u2 h1
  have h3 := heap_setCell_same _ b 3 _ _ u3 h2
  have h4 := heap_setCell_same _ b 4 _ _ u4 h3
  have h5 := heap_setCell_same _ b 5 _ _ u5 h4
  have h6 := heap_setCell_same _ b 6 _ _ u6 h5
  rw [h6]
  rfl
def resZ : Array Value := #[.int .i64 0, .string ⟨#[]⟩, .slice none 0 0, .int .i64 0, .string ⟨#[]⟩, .int .i64 0, .bool false]

set_option maxRecDepth 100000 in
set_option maxHeartbeats 4000000 in
theorem runread_ok (fb ob sr q qc wm : Nat) (o : OR) (v : VB) (m : MR) (bs : List UInt8) (x rd : Nat) (w : World) (h : OtS w ob sr q qc wm o v m bs x 0 rd) (hfb : w.cell? ⟨fb, 0, none⟩ = some (.pointer (some ⟨ob, 0, none⟩))) (hfn : fb ≠ ob ∧ fb ≠ v.mb ∧ fb ≠ v.db ∧ fb ≠ v.g)
    (hql : q < w.heap.size) (hd : HD bs x 24 wsAll) (hx : x ≤ v.di) (hda : 1 ≤ v.da) (hten : cellv bs 16 = 10) (hx16 : 2832 ≤ x) (hb : m.base = 16) (hfu : 3 ≤ m.fuel ∧ m.fuel ≤ 1048576) (hov : m.over = false) (hout : m.out = ByteArray.empty)
    (ht : ∀ W, Fr (fun j => j = ob ∨ j = v.mb ∨ j = v.db ∨ j = v.g) w W → Cod.Tab W) :
    Calls Tryz.prog 42 #[.pointer (some ⟨fb, 0, none⟩), .string txt1] w
      fun e w' => (∃ hr : Int, e = .returned (.agg #[.int .i64 0, .string (txtM m).out, .slice none 0 0, .int .i64 (txtM m).fuel, .string (txtM m).inn, .int .i64 hr, .bool (txtM m).over])) ∧ Fr (fun j => j = ob ∨ j = v.mb ∨ j = v.db ∨ j = v.g) w w' := by
  have fA := (Fr.refl (fun _ => False) w).alloc (.cells resZ 40)
  have hA := heap_alloc_last w (.cells resZ 40)
  have hsz : (w.alloc (.cells resZ 40)).heap.size = w.heap.size + 1 := by simp
  obtain ⟨s, hs⟩ : ∃ s, w.heap.size = s := ⟨_, rfl⟩
  obtain ⟨w1, hw1⟩ : ∃ w1, w.alloc (.cells resZ 40) = w1 := ⟨_, rfl⟩
  rw [hw1] at fA hA hsz
  have HSS := Lib.hid hs
  rw [hs] at hA hsz hql
  have hf1 := fA.cell hfb id
  have lob := lt_of_block h.row
  have lmb := h.vm.row.lt
  have ldb := lt_of_block h.vm.ds
  have lg := h.vm.sat.lt
  have lfb : fb < w.heap.size := World.block_lt_of_cell? w ⟨fb, 0, none⟩ hfb
  rw [hs] at lob lmb ldb lg lfb
  have HTX := Lib.hid (text_dot ob sr q qc wm o v m bs x rd w1 (h.nf fA) (by omega) hd hx hda hten hx16 hb hfu hov hout (fun W hW => ht W ((fA.mono fun _ _ e => e.elim).trans hW)))
  have HF1 := Lib.hid fA
  have HA := Lib.hid hA
  obtain ⟨M2, hM2⟩ : ∃ M, txtM m = M := ⟨_, rfl⟩
  rw [hM2] at HTX ⊢
  unfold resZ at hw1
  clear h hfb hd hten hb hfu hov hout ht fA hA hM2
  go_enter Tryz.func42, Tryz.ntmps42
  go_wp2_with fail
  refine HTX.out.mono ?_
  rintro e w2 ⟨sr', bs', rfl, ho, hf2⟩
  have g1 := hf2.cell hf1 (show ¬ (fb = ob ∨ fb = v.mb ∨ fb = v.db ∨ fb = v.g) by omega)
  obtain ⟨c0, _, _, _, _, _⟩ := ho.cells
  obtain ⟨r0, r1, r2, r3, r4, r5, r6, r7, r8, r9, r10, r11, r12, r13, r14, r15, r16, r17⟩ := ho.vm.row.cells
  rw [ho.vm.sp] at r0
  rw [ho.vm.d] at r1
  have HAL := Lib.hid (all0_ok v.db v.p v.di v.da (-3) (-4) w2.drew ho.vm.ds)
  have HHE := Lib.hid (here_any v.sb v.p v.g 8 v.di x bs' w2.drew ho.vm.sat)
  have hA2 := hf2.obj HA.out (show ¬ (s = ob ∨ s = v.mb ∨ s = v.db ∨ s = v.g) by omega)
  have k0 := cell_of_row w2 s 0 _ _ _ hA2
  have k1 := cell_of_row w2 s 1 _ _ _ hA2
  have k2 := cell_of_row w2 s 2 _ _ _ hA2
  have k3 := cell_of_row w2 s 3 _ _ _ hA2
  have k4 := cell_of_row w2 s 4 _ _ _ hA2
  have k5 := cell_of_row w2 s 5 _ _ _ hA2
  have k6 := cell_of_row w2 s 6 _ _ _ hA2
  simp only [resZ] at k0 k1 k2 k3 k4 k5 k6
  have z0 := frozen_of_row w2 s 0 _ _ hA2
  have z1 := frozen_of_row w2 s 1 _ _ hA2
  have z2 := frozen_of_row w2 s 2 _ _ hA2
  have z3 := frozen_of_row w2 s 3 _ _ hA2
  have z4 := frozen_of_row w2 s 4 _ _ hA2
  have z5 := frozen_of_row w2 s 5 _ _ hA2
  have z6 := frozen_of_row w2 s 6 _ _ hA2
  have HA2 := Lib.hid hA2
  have HF2 := Lib.hid hf2
  clear ho hf2 hA2
  have nfb : ¬ (fb = s) := by omega
  have nob : ¬ (ob = s) := by omega
  have nmb : ¬ (v.mb = s) := by omega
  have hss : w.heap.size = s := HSS.out
  have hF3 : Fr (fun j => j = ob ∨ j = v.mb ∨ j = v.db ∨ j = v.g) w w2 := (HF1.out.mono fun _ _ e => e.elim).trans HF2.out
  have hF4 := Fr.set7s (p := s) (Fr.refl _ w2) (x0 := .int .i64 0) (x1 := .string M2.out) (x2 := .slice none 0 0) (x3 := .int .i64 M2.fuel) (x4 := .string M2.inn) (x5 := .int .i64 x) (x6 := .bool M2.over)
  have hA3 : w2.heap[s]? = some (.cells #[.int .i64 0, .string ⟨#[]⟩, .slice none 0 0, .int .i64 0, .string ⟨#[]⟩, .int .i64 0, .bool false] 40 (0, 0)) := by
    have h := HA2.out
    unfold resZ at h
    exact h
  have hA4 := seven_set hA3 (.int .i64 0) (.string M2.out) (.slice none 0 0) (.int .i64 M2.fuel) (.string M2.inn) (.int .i64 x) (.bool M2.over)
  obtain ⟨X, hX⟩ : ∃ X, (((((((w2.setCell ⟨s, 0, none⟩ (.int .i64 0)).setCell ⟨s, 1, none⟩ (.string M2.out)).setCell ⟨s, 2, none⟩ (.slice none 0 0)).setCell ⟨s, 3, none⟩ (.int .i64 M2.fuel)).setCell ⟨s, 4, none⟩ (.string M2.inn)).setCell ⟨s, 5, none⟩ (.int .i64 x)).setCell ⟨s, 6, none⟩ (.bool M2.over)) = X := ⟨_, rfl⟩
  rw [hX] at hF4 hA4
  have HF4 := Lib.hid (hF3.after hF4.drew (fun k hk e => absurd (show k = s from e) (by omega)))
  have HA4 := Lib.hid (show X.drew.heap[s]? = _ from hA4)
  have HX := Lib.hid hX
  clear hss hF3 hF4 hA3 hA4 hX
  go_wp2_with fail
  simp only [List.append_eq, List.cons_append, List.nil_append]
  go_region_held3 (fun W => W.cell? ⟨fb, 0, none⟩ = some (.pointer (some ⟨ob, 0, none⟩)) ∧ W.cell? ⟨ob, 0, none⟩ = some (.pointer (some ⟨v.mb, 0, none⟩)) ∧ W.cell? ⟨v.mb, 11, none⟩ = some (.string M2.out) ∧ W.cell? ⟨v.mb, 1, none⟩ = some (.pointer (some ⟨v.db, 0, none⟩)) ∧ W.cell? ⟨v.mb, 10, none⟩ = some (.int .i64 M2.fuel) ∧ W.cell? ⟨v.mb, 12, none⟩ = some (.string M2.inn) ∧ W.cell? ⟨v.mb, 0, none⟩ = some (.pointer (some ⟨v.sb, 0, none⟩)) ∧ W.cell? ⟨v.mb, 13, none⟩ = some (.bool M2.over) ∧ Fr (fun j => j = s) w2 W)
    ((go_split_ands; refine (fun hF => ⟨Fr.cell hF g1 nfb, Fr.cell hF c0 nob, Fr.cell hF r11 nmb, Fr.cell hF r1 nmb, Fr.cell hF r10 nmb, Fr.cell hF r12 nmb, Fr.cell hF r0 nmb, Fr.cell hF r13 nmb, hF⟩ : Fr (fun j => j = s) w2 _ → _) ?_; repeat' with_reducible first | exact Fr.refl _ _ | assumption | apply Fr.drew | apply Fr.alloc | refine Fr.set7s ?_))
    (first | (go_at_call 60; go_split_ands; refine HAL.out.mono ?_; rintro e w' ⟨rfl, h0⟩; obtain rfl := h0.symm; clear h0) | (go_at_call 61; go_split_ands; refine HHE.out.mono ?_; rintro e w' ⟨rfl, h0⟩; obtain rfl := h0.symm; clear h0) | fail)
  go_wp2_with fail
  rw [HX.out]
  refine bodyPost_ret (results_cell0 rfl _ _ s 40 _ (0, 0) _ rfl HA4.out Tryz.underlying40 rfl (by kernel_rfl)) rfl ?_
  exact ⟨⟨x, rfl⟩, HF4.out⟩
end Go.Proofs.YthkmbnkkohomeaaGreatDoor.Mem
