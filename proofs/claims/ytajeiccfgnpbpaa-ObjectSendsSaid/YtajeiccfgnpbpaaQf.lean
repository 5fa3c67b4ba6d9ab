/- Several texts in one: ClsA, ClsB. -/
import Derived.Test.YtajeiccfgnpbpaaQa
import Derived.Test.YtajeiccfgnpbpaaQe
set_option linter.unusedSimpArgs false
set_option linter.unusedVariables false
/- Contracts of package class: Read. -/
namespace Go.Proofs.Ytajeiccfgnpbpaa.Mem
open Go.RowKit

theorem five_cells {w : World} {b : Nat} {x0 x1 x2 x3 x4 : Value} {t : TypeId} (h : w.heap[b]? = some (.cells #[x0, x1, x2, x3, x4] t (0, 0))) :
    w.cell? ⟨b, 0, none⟩ = some x0 ∧ w.cell? ⟨b, 1, none⟩ = some x1 ∧ w.cell? ⟨b, 2, none⟩ = some x2 ∧ w.cell? ⟨b, 3, none⟩ = some x3 ∧ w.cell? ⟨b, 4, none⟩ = some x4 ∧
    w.frozen? ⟨b, 0, none⟩ = false ∧ w.frozen? ⟨b, 1, none⟩ = false ∧ w.frozen? ⟨b, 2, none⟩ = false ∧ w.frozen? ⟨b, 3, none⟩ = false ∧ w.frozen? ⟨b, 4, none⟩ = false ∧ b < w.heap.size :=
  ⟨by rw [cell_of_row w b _ _ _ _ h]; rfl, by rw [cell_of_row w b _ _ _ _ h]; rfl, by rw [cell_of_row w b _ _ _ _ h]; rfl, by rw [cell_of_row w b _ _ _ _ h]; rfl, by rw [cell_of_row w b _ _ _ _ h]; rfl,
   frozen_of_row w b _ _ _ h, frozen_of_row w b _ _ _ h, frozen_of_row w b _ _ _ h, frozen_of_row w b _ _ _ h, frozen_of_row w b _ _ _ h, lt_of_block h⟩

theorem five_set {w : World} {b : Nat} {x0 x1 x2 x3 x4 : Value} {t : TypeId} (h : w.heap[b]? = some (.cells #[x0, x1, x2, x3, x4] t (0, 0))) (u0 u1 u2 u3 u4 : Value) :
    (((((w.setCell ⟨b, 0, none⟩ u0).setCell ⟨b, 1, none⟩ u1).setCell ⟨b, 2, none⟩ u2).setCell ⟨b, 3, none⟩ u3).setCell ⟨b, 4, none⟩ u4).heap[b]? = some (.cells #[u0, u1, u2, u3, u4] t (0, 0)) := by
  have h0 := heap_setCell_same w b 0 _ _ u0 h
  have h1 := heap_setCell_same _ b 1 _ _ u1 h0
  have h2 := heap_setCell_same _ b 2 _ _ u2 h1
  have h3 := heap_setCell_same _ b 3 _ _ u3 h2
  have h4 := heap_setCell_same _ b 4 _ _ u4 h3
  rw [h4]
  rfl
theorem Fr.set5 {S : Nat → Prop} {a b : World} (h : Fr S a b) {p : Nat} (hp : a.heap.size ≤ p ∨ S p) (u0 u1 u2 u3 u4 : Value) :
    Fr S a (((((b.setCell ⟨p, 0, none⟩ u0).setCell ⟨p, 1, none⟩ u1).setCell ⟨p, 2, none⟩ u2).setCell ⟨p, 3, none⟩ u3).setCell ⟨p, 4, none⟩ u4) :=
  ((((h.setCell hp _).setCell hp _).setCell hp _).setCell hp _).setCell hp _

/-- A struct in a variable, and one slot, are handed back. -/
theorem results_cell1 {P : Program} {fn : Func} {p u : Tmp} {ty : TypeId} (h : fn.results = #[.cell p ty, .tmp u]) (tmps : Array Value) (w : World) (g : Nat) (t : TypeId) (cs : Array Value) (fr : Nat × Nat) (d : TypeDesc)
    (hp : tmps.getD p undef = .pointer (some ⟨g, 0, none⟩)) (hg : w.heap[g]? = some (.cells cs t fr))
    (hu : P.underlying ty = some d) (hd : (match d with | .struct _ | .array _ _ => true | _ => false) = true) (hi : (P.info? ty).map (·.size) = some cs.size) :
    (results fn tmps).run P w = .ok (.tuple #[.agg cs, tmps.getD u undef]) w := by
  have hp' : tmps[p]?.getD undef = .pointer (some ⟨g, 0, none⟩) := by simpa using hp
  simp [results, h, hp', asAddr, run_loadVar_row w g t ty cs fr d hg hu hd hi]

def clval (c : Cl) : Value := .agg #[.int .i64 c.a, .int .i64 c.par, .int .i64 c.size, .int .i64 c.tab, .int .i64 c.prev]

/-- The local array of Read behind k rounds. -/
def rarr (c0 c1 c2 c3 c4 : Int) : Nat → Array Value
  | 0 => #[.int .i64 0, .int .i64 0, .int .i64 0, .int .i64 0, .int .i64 0]
  | 1 => #[.int .i64 c0, .int .i64 0, .int .i64 0, .int .i64 0, .int .i64 0]
  | 2 => #[.int .i64 c0, .int .i64 c1, .int .i64 0, .int .i64 0, .int .i64 0]
  | 3 => #[.int .i64 c0, .int .i64 c1, .int .i64 c2, .int .i64 0, .int .i64 0]
  | 4 => #[.int .i64 c0, .int .i64 c1, .int .i64 c2, .int .i64 c3, .int .i64 0]
  | _ => #[.int .i64 c0, .int .i64 c1, .int .i64 c2, .int .i64 c3, .int .i64 c4]

theorem clv_none {bs : List UInt8} {a : Int} (h : isCl bs a = false) : clv bs a = ⟨0, 0, 0, 0, 0⟩ := by
  unfold clv; rw [h]; rfl
theorem isCl_bad {bs : List UInt8} {a : Int} {j : Nat} (hj : j < 5) (h : (cell bs (a + 8 * (j : Int))).2 ≠ 0) : isCl bs a = false := by
  rcases (by omega : j = 0 ∨ j = 1 ∨ j = 2 ∨ j = 3 ∨ j = 4) with rfl | rfl | rfl | rfl | rfl
  · rw [show a + 8 * ((0 : Nat) : Int) = a by omega] at h; simp [isCl, h]
  · rw [show a + 8 * ((1 : Nat) : Int) = a + 8 by omega] at h; simp [isCl, h]
  · rw [show a + 8 * ((2 : Nat) : Int) = a + 16 by omega] at h; simp [isCl, h]
  · rw [show a + 8 * ((3 : Nat) : Int) = a + 24 by omega] at h; simp [isCl, h]
  · rw [show a + 8 * ((4 : Nat) : Int) = a + 32 by omega] at h; simp [isCl, h]

set_option maxRecDepth 100000 in
set_option maxHeartbeats 4000000 in
theorem cread_any (p g : Nat) (bs : List UInt8) (a : Int) (w : World) (h : Mat 108 w p g bs) (ha : -9223372036854775808 ≤ a ∧ a ≤ 9223372036854775807) :
    Calls Try.prog 82 #[.pointer (some ⟨p, 0, none⟩), .int .i64 a] w fun e w' => e = .returned (.tuple #[clval (clv bs a), .bool (isCl bs a)]) ∧ Fr (fun _ => False) w w' := by
  have HC := Lib.hid (fun a w h => cell_any p g bs a w h)
  have H := Lib.hid h
  have hbl := h.2.2.2
  obtain ⟨c0, h0⟩ : ∃ c, (cell bs a).1 = c := ⟨_, rfl⟩
  obtain ⟨c1, h1⟩ : ∃ c, (cell bs (a + 8)).1 = c := ⟨_, rfl⟩
  obtain ⟨c2, h2⟩ : ∃ c, (cell bs (a + 16)).1 = c := ⟨_, rfl⟩
  obtain ⟨c3, h3⟩ : ∃ c, (cell bs (a + 24)).1 = c := ⟨_, rfl⟩
  obtain ⟨c4, h4⟩ : ∃ c, (cell bs (a + 32)).1 = c := ⟨_, rfl⟩
  obtain ⟨⟨v0, v1, v2, v3, v4⟩, hcv⟩ : ∃ r, clv bs a = r := ⟨_, rfl⟩
  obtain ⟨ib, hib⟩ : ∃ r, isCl bs a = r := ⟨_, rfl⟩
  rw [hcv, hib]
  have HCV := Lib.hid (And.intro hcv hib)
  simp only [clval]
  clear hcv hib
  have HV := Lib.hid (And.intro h0 (And.intro h1 (And.intro h2 (And.intro h3 h4))))
  clear h h0 h1 h2 h3 h4
  go_enter Try.func82, Try.ntmps82
  go_wp2_with fail
  go_loopw [10] (fun iv wr => ∃ k : Nat, k ≤ 5 ∧ iv = .int .i64 k ∧ wr.heap[w.heap.size]? = some (.cells (rarr 0 0 0 0 0 0) 142 (0, 0)) ∧ wr.heap[w.heap.size + 1]? = some (.cells (rarr c0 c1 c2 c3 c4 k) 185 (0, 0)) ∧
    (∀ j : Nat, j < k → (cell bs (a + 8 * (j : Int))).2 = 0) ∧ Fr (fun _ => False) w wr) (fun iv _ => 5 - (intOf iv).toNat)
  case atStart =>
    refine ⟨0, by omega, rfl, ?_, ?_, fun j hj => by omega, ((Fr.refl _ _).alloc _).alloc _⟩
    · rw [Below.heap_alloc _ _ _ (by simp)]
      exact heap_alloc_last _ _
    · have := heap_alloc_last (w.alloc (.cells #[.int .i64 0, .int .i64 0, .int .i64 0, .int .i64 0, .int .i64 0] 142)) (.cells #[.int .i64 0, .int .i64 0, .int .i64 0, .int .i64 0, .int .i64 0] 185)
      rw [show (w.alloc (.cells #[.int .i64 0, .int .i64 0, .int .i64 0, .int .i64 0, .int .i64 0] 142)).heap.size = w.heap.size + 1 by simp] at this
      exact this
  case round =>
    obtain ⟨k, hk, rfl, hR, hA, hco, hF⟩ := hrel
    simp only [rarr] at hR
    obtain ⟨r0, r1, r2, r3, r4, z0, z1, z2, z3, z4, zl⟩ := five_cells hR
    have HR := Lib.hid hR
    have HA := Lib.hid hA
    have HF := Lib.hid hF
    have HCO := Lib.hid hco
    have hab : 0 < k → 0 ≤ a ∧ a ≤ 1048576 := fun hk0 => by
      have := cell_code (hco 0 hk0)
      omega
    clear hR hF hco
    by_cases hlt : k < 5
    · clear hA
      rcases (by omega : k = 0 ∨ k = 1 ∨ k = 2 ∨ k = 3 ∨ k = 4) with rfl | rfl | rfl | rfl | rfl
      · have e0 : a + 8 * ((0 : Nat) : Int) = a := by omega
        have hA := HA.out
        simp only [rarr] at hA
        obtain ⟨q0, q1, q2, q3, q4, y0, y1, y2, y3, y4, yl⟩ := five_cells hA
        clear hA
        have hbad := @isCl_bad bs a 0 (by omega)
        rw [e0] at hbad
        clear hab
        by_cases hcode : (cell bs (a)).2 = 0
        · have HCD := Lib.hid hcode
          go_wp2_with fail
          refine (HC.out (a) _ (H.out.fr HF.out id id)).mono ?_
          rintro e w' ⟨rfl, h0⟩
          obtain rfl := h0.symm
          go_wp2_with fail
          go_roundw
          case rel =>
            refine ⟨1, by omega, by go_num, ?_, ?_, ?_, HF.out.setCell (.inl (Nat.le_add_right _ 1)) _⟩
            · rw [heap_setCell_other _ ⟨w.heap.size + 1, 0, none⟩ w.heap.size _ (Nat.ne_of_lt (Nat.lt_succ_self _))]
              exact HR.out
            · rw [heap_setCell_same _ (w.heap.size + 1) 0 _ _ _ HA.out]
              obtain ⟨u0, u1, u2, u3, u4⟩ := HV.out
              rw [u0]
              rfl
            · intro j hj
              by_cases hjk : j = 0
              · subst hjk
                rw [e0]
                exact HCD.out
              · exact HCO.out j (by omega)
          case measure => simp [intOf]
        · have hcode' : ((cell bs (a)).2 != 0) = true := by simp [hcode]
          have HBD := Lib.hid (hbad hcode)
          clear hcode hbad
          go_wp2_with fail
          refine (HC.out (a) _ (H.out.fr HF.out id id)).mono ?_
          rintro e w' ⟨rfl, h0⟩
          obtain rfl := h0.symm
          go_wp2_with fail
          refine bodyPost_ret (results_cell1 rfl _ _ w.heap.size 142 _ (0, 0) _ rfl (five_set HR.out _ _ _ _ _) Try.underlying142 rfl (by kernel_rfl)) rfl ⟨?_, ?_⟩
          · obtain ⟨e1, e2⟩ := HCV.out
            rw [clv_none HBD.out] at e1
            rw [HBD.out] at e2
            cases e1
            cases e2
            rfl
          exact Fr.set5 HF.out (.inl (Nat.le_refl _)) _ _ _ _ _
      · have e0 : a + 8 * ((1 : Nat) : Int) = a + 8 := by omega
        have hA := HA.out
        simp only [rarr] at hA
        obtain ⟨q0, q1, q2, q3, q4, y0, y1, y2, y3, y4, yl⟩ := five_cells hA
        clear hA
        have hbad := @isCl_bad bs a 1 (by omega)
        rw [e0] at hbad
        have hab' := hab (by omega)
        clear hab
        by_cases hcode : (cell bs (a + 8)).2 = 0
        · have HCD := Lib.hid hcode
          go_wp2_with fail
          refine (HC.out (a + 8) _ (H.out.fr HF.out id id)).mono ?_
          rintro e w' ⟨rfl, h0⟩
          obtain rfl := h0.symm
          go_wp2_with fail
          go_roundw
          case rel =>
            refine ⟨2, by omega, by go_num, ?_, ?_, ?_, HF.out.setCell (.inl (Nat.le_add_right _ 1)) _⟩
            · rw [heap_setCell_other _ ⟨w.heap.size + 1, 1, none⟩ w.heap.size _ (Nat.ne_of_lt (Nat.lt_succ_self _))]
              exact HR.out
            · rw [heap_setCell_same _ (w.heap.size + 1) 1 _ _ _ HA.out]
              obtain ⟨u0, u1, u2, u3, u4⟩ := HV.out
              rw [u1]
              rfl
            · intro j hj
              by_cases hjk : j = 1
              · subst hjk
                rw [e0]
                exact HCD.out
              · exact HCO.out j (by omega)
          case measure => simp [intOf]
        · have hcode' : ((cell bs (a + 8)).2 != 0) = true := by simp [hcode]
          have HBD := Lib.hid (hbad hcode)
          clear hcode hbad
          go_wp2_with fail
          refine (HC.out (a + 8) _ (H.out.fr HF.out id id)).mono ?_
          rintro e w' ⟨rfl, h0⟩
          obtain rfl := h0.symm
          go_wp2_with fail
          refine bodyPost_ret (results_cell1 rfl _ _ w.heap.size 142 _ (0, 0) _ rfl (five_set HR.out _ _ _ _ _) Try.underlying142 rfl (by kernel_rfl)) rfl ⟨?_, ?_⟩
          · obtain ⟨e1, e2⟩ := HCV.out
            rw [clv_none HBD.out] at e1
            rw [HBD.out] at e2
            cases e1
            cases e2
            rfl
          exact Fr.set5 HF.out (.inl (Nat.le_refl _)) _ _ _ _ _
      · have e0 : a + 8 * ((2 : Nat) : Int) = a + 16 := by omega
        have hA := HA.out
        simp only [rarr] at hA
        obtain ⟨q0, q1, q2, q3, q4, y0, y1, y2, y3, y4, yl⟩ := five_cells hA
        clear hA
        have hbad := @isCl_bad bs a 2 (by omega)
        rw [e0] at hbad
        have hab' := hab (by omega)
        clear hab
        by_cases hcode : (cell bs (a + 16)).2 = 0
        · have HCD := Lib.hid hcode
          go_wp2_with fail
          refine (HC.out (a + 16) _ (H.out.fr HF.out id id)).mono ?_
          rintro e w' ⟨rfl, h0⟩
          obtain rfl := h0.symm
          go_wp2_with fail
          go_roundw
          case rel =>
            refine ⟨3, by omega, by go_num, ?_, ?_, ?_, HF.out.setCell (.inl (Nat.le_add_right _ 1)) _⟩
            · rw [heap_setCell_other _ ⟨w.heap.size + 1, 2, none⟩ w.heap.size _ (Nat.ne_of_lt (Nat.lt_succ_self _))]
              exact HR.out
            · rw [heap_setCell_same _ (w.heap.size + 1) 2 _ _ _ HA.out]
              obtain ⟨u0, u1, u2, u3, u4⟩ := HV.out
              rw [u2]
              rfl
            · intro j hj
              by_cases hjk : j = 2
              · subst hjk
                rw [e0]
                exact HCD.out
              · exact HCO.out j (by omega)
          case measure => simp [intOf]
        · have hcode' : ((cell bs (a + 16)).2 != 0) = true := by simp [hcode]
          have HBD := Lib.hid (hbad hcode)
          clear hcode hbad
          go_wp2_with fail
          refine (HC.out (a + 16) _ (H.out.fr HF.out id id)).mono ?_
          rintro e w' ⟨rfl, h0⟩
          obtain rfl := h0.symm
          go_wp2_with fail
          refine bodyPost_ret (results_cell1 rfl _ _ w.heap.size 142 _ (0, 0) _ rfl (five_set HR.out _ _ _ _ _) Try.underlying142 rfl (by kernel_rfl)) rfl ⟨?_, ?_⟩
          · obtain ⟨e1, e2⟩ := HCV.out
            rw [clv_none HBD.out] at e1
            rw [HBD.out] at e2
            cases e1
            cases e2
            rfl
          exact Fr.set5 HF.out (.inl (Nat.le_refl _)) _ _ _ _ _
      · have e0 : a + 8 * ((3 : Nat) : Int) = a + 24 := by omega
        have hA := HA.out
        simp only [rarr] at hA
        obtain ⟨q0, q1, q2, q3, q4, y0, y1, y2, y3, y4, yl⟩ := five_cells hA
        clear hA
        have hbad := @isCl_bad bs a 3 (by omega)
        rw [e0] at hbad
        have hab' := hab (by omega)
        clear hab
        by_cases hcode : (cell bs (a + 24)).2 = 0
        · have HCD := Lib.hid hcode
          go_wp2_with fail
          refine (HC.out (a + 24) _ (H.out.fr HF.out id id)).mono ?_
          rintro e w' ⟨rfl, h0⟩
          obtain rfl := h0.symm
          go_wp2_with fail
          go_roundw
          case rel =>
            refine ⟨4, by omega, by go_num, ?_, ?_, ?_, HF.out.setCell (.inl (Nat.le_add_right _ 1)) _⟩
            · rw [heap_setCell_other _ ⟨w.heap.size + 1, 3, none⟩ w.heap.size _ (Nat.ne_of_lt (Nat.lt_succ_self _))]
              exact HR.out
            · rw [heap_setCell_same _ (w.heap.size + 1) 3 _ _ _ HA.out]
              obtain ⟨u0, u1, u2, u3, u4⟩ := HV.out
              rw [u3]
              rfl
            · intro j hj
              by_cases hjk : j = 3
              · subst hjk
                rw [e0]
                exact HCD.out
              · exact HCO.out j (by omega)
          case measure => simp [intOf]
        · have hcode' : ((cell bs (a + 24)).2 != 0) = true := by simp [hcode]
          have HBD := Lib.hid (hbad hcode)
          clear hcode hbad
          go_wp2_with fail
          refine (HC.out (a + 24) _ (H.out.fr HF.out id id)).mono ?_
          rintro e w' ⟨rfl, h0⟩
          obtain rfl := h0.symm
          go_wp2_with fail
          refine bodyPost_ret (results_cell1 rfl _ _ w.heap.size 142 _ (0, 0) _ rfl (five_set HR.out _ _ _ _ _) Try.underlying142 rfl (by kernel_rfl)) rfl ⟨?_, ?_⟩
          · obtain ⟨e1, e2⟩ := HCV.out
            rw [clv_none HBD.out] at e1
            rw [HBD.out] at e2
            cases e1
            cases e2
            rfl
          exact Fr.set5 HF.out (.inl (Nat.le_refl _)) _ _ _ _ _
      · have e0 : a + 8 * ((4 : Nat) : Int) = a + 32 := by omega
        have hA := HA.out
        simp only [rarr] at hA
        obtain ⟨q0, q1, q2, q3, q4, y0, y1, y2, y3, y4, yl⟩ := five_cells hA
        clear hA
        have hbad := @isCl_bad bs a 4 (by omega)
        rw [e0] at hbad
        have hab' := hab (by omega)
        clear hab
        by_cases hcode : (cell bs (a + 32)).2 = 0
        · have HCD := Lib.hid hcode
          go_wp2_with fail
          refine (HC.out (a + 32) _ (H.out.fr HF.out id id)).mono ?_
          rintro e w' ⟨rfl, h0⟩
          obtain rfl := h0.symm
          go_wp2_with fail
          go_roundw
          case rel =>
            refine ⟨5, by omega, by go_num, ?_, ?_, ?_, HF.out.setCell (.inl (Nat.le_add_right _ 1)) _⟩
            · rw [heap_setCell_other _ ⟨w.heap.size + 1, 4, none⟩ w.heap.size _ (Nat.ne_of_lt (Nat.lt_succ_self _))]
              exact HR.out
            · rw [heap_setCell_same _ (w.heap.size + 1) 4 _ _ _ HA.out]
              obtain ⟨u0, u1, u2, u3, u4⟩ := HV.out
              rw [u4]
              rfl
            · intro j hj
              by_cases hjk : j = 4
              · subst hjk
                rw [e0]
                exact HCD.out
              · exact HCO.out j (by omega)
          case measure => simp [intOf]
        · have hcode' : ((cell bs (a + 32)).2 != 0) = true := by simp [hcode]
          have HBD := Lib.hid (hbad hcode)
          clear hcode hbad
          go_wp2_with fail
          refine (HC.out (a + 32) _ (H.out.fr HF.out id id)).mono ?_
          rintro e w' ⟨rfl, h0⟩
          obtain rfl := h0.symm
          go_wp2_with fail
          refine bodyPost_ret (results_cell1 rfl _ _ w.heap.size 142 _ (0, 0) _ rfl (five_set HR.out _ _ _ _ _) Try.underlying142 rfl (by kernel_rfl)) rfl ⟨?_, ?_⟩
          · obtain ⟨e1, e2⟩ := HCV.out
            rw [clv_none HBD.out] at e1
            rw [HBD.out] at e2
            cases e1
            cases e2
            rfl
          exact Fr.set5 HF.out (.inl (Nat.le_refl _)) _ _ _ _ _
    · obtain rfl : k = 5 := by omega
      simp only [rarr] at hA
      obtain ⟨q0, q1, q2, q3, q4, y0, y1, y2, y3, y4, yl⟩ := five_cells hA
      have hcodes : (cell bs a).2 = 0 ∧ (cell bs (a + 8)).2 = 0 ∧ (cell bs (a + 16)).2 = 0 ∧ (cell bs (a + 24)).2 = 0 ∧ (cell bs (a + 32)).2 = 0 := by
        have t0 := HCO.out 0 (by omega)
        have t1 := HCO.out 1 (by omega)
        have t2 := HCO.out 2 (by omega)
        have t3 := HCO.out 3 (by omega)
        have t4 := HCO.out 4 (by omega)
        rw [show a + 8 * ((0 : Nat) : Int) = a by omega] at t0
        rw [show a + 8 * ((1 : Nat) : Int) = a + 8 by omega] at t1
        rw [show a + 8 * ((2 : Nat) : Int) = a + 16 by omega] at t2
        rw [show a + 8 * ((3 : Nat) : Int) = a + 24 by omega] at t3
        rw [show a + 8 * ((4 : Nat) : Int) = a + 32 by omega] at t4
        exact ⟨t0, t1, t2, t3, t4⟩
      have hiff : isCl bs a = (c0 == magic) := by
        obtain ⟨t0, t1, t2, t3, t4⟩ := hcodes
        unfold isCl
        rw [t0, t1, t2, t3, t4, HV.out.1]
        simp
      have hab' := hab (by omega)
      clear hA hab hcodes
      by_cases hm : c0 = 357694784579
      · have hi : isCl bs a = true := by rw [hiff]; simp [hm, magic]
        have hv : clv bs a = ⟨a, c1, c2, c3, c4⟩ := by
          obtain ⟨u0, u1, u2, u3, u4⟩ := HV.out
          unfold clv
          rw [if_pos hi, u1, u2, u3, u4]
        have HBD := Lib.hid (And.intro hv hi)
        have hm' : (c0 != 357694784579) = false := by simp [hm]
        clear hm hi hv hiff
        go_wp2_with fail
        refine bodyPost_ret (results_cell1 rfl _ _ w.heap.size 142 _ (0, 0) _ rfl (five_set HR.out _ _ _ _ _) Try.underlying142 rfl (by kernel_rfl)) rfl ⟨?_, ?_⟩
        · obtain ⟨e1, e2⟩ := HCV.out
          rw [HBD.out.1] at e1
          rw [HBD.out.2] at e2
          cases e1
          cases e2
          rfl
        exact Fr.set5 HF.out (.inl (Nat.le_refl _)) _ _ _ _ _
      · have hi : isCl bs a = false := by rw [hiff]; simp [hm, magic]
        have HBD := Lib.hid hi
        have hm' : (c0 != 357694784579) = true := by simp [hm]
        clear hm hi hiff
        go_wp2_with fail
        refine bodyPost_ret (results_cell1 rfl _ _ w.heap.size 142 _ (0, 0) _ rfl (five_set HR.out _ _ _ _ _) Try.underlying142 rfl (by kernel_rfl)) rfl ⟨?_, ?_⟩
        · obtain ⟨e1, e2⟩ := HCV.out
          rw [clv_none HBD.out] at e1
          rw [HBD.out] at e2
          cases e1
          cases e2
          rfl
        exact Fr.set5 HF.out (.inl (Nat.le_refl _)) _ _ _ _ _
end Go.Proofs.Ytajeiccfgnpbpaa.Mem

/- Contracts of package class: each, Is. -/
namespace Go.Proofs.Ytajeiccfgnpbpaa.Mem
open Go.RowKit

set_option maxRecDepth 100000 in
set_option maxHeartbeats 1000000 in
/-- The closure of Is: it says whether to go on, and keeps in its variable whether this class is at the place. -/
theorem is1_any (ca cf : Nat) (c : Cl) (a : Int) (fv : Value) (t : TypeId) (w : World) (h1 : w.cell? ⟨ca, 0, none⟩ = some (.int .i64 a)) (h2 : w.heap[cf]? = some (.cells #[fv] t (0, 0))) (hne : ca ≠ cf) :
    Calls Try.prog 80 #[clval c, .pointer (some ⟨ca, 0, none⟩), .pointer (some ⟨cf, 0, none⟩)] w
      fun e w' => e = .returned (.bool (!(c.a == a))) ∧ w'.heap[cf]? = some (.cells #[.bool (c.a == a)] t (0, 0)) ∧ Fr (fun j => j = cf) w w' := by
  obtain ⟨y0, y1, y2, y3, y4⟩ := c
  unfold clval
  dsimp only
  have hl := lt_of_block h2
  have hc := cell_of_one h2
  have hfz := frozen_of_row w cf 0 _ _ h2
  have HB := Lib.hid ((Below.heap_alloc w (.cells #[.int .i64 y0, .int .i64 y1, .int .i64 y2, .int .i64 y3, .int .i64 y4] 142) _ hl).trans h2)
  have hcF := cell_of_one HB.out
  have hfF := frozen_of_row _ cf 0 _ _ HB.out
  have hcA := ((Fr.refl (fun _ => False) w).alloc (.cells #[.int .i64 y0, .int .i64 y1, .int .i64 y2, .int .i64 y3, .int .i64 y4] 142)).cell h1 id
  have hL : ∀ v : Value, ((w.setCell ⟨cf, 0, none⟩ v).alloc (.cells #[.int .i64 y0, .int .i64 y1, .int .i64 y2, .int .i64 y3, .int .i64 y4] 142)).heap[cf]? = some (.cells #[v] t (0, 0)) := fun v => by
    rw [Below.heap_alloc _ _ _ (by simpa [World.setCell] using hl)]
    exact heap_setCell_same w cf 0 _ _ v h2
  have HL := Lib.hid hL
  clear hL h2 h1 hc hfz
  cases hb : (y0 == a)
  all_goals
    have hq1 := cell_of_one (HL.out (.bool true))
    have hq2 := cell_of_one (HL.out (.bool false))
    go_enter Try.func80, Try.ntmps80
    go_wp2_with fail
    go_ret
    exact ⟨rfl, HL.out _, (Fr.setOne (p := cf) (Fr.refl _ _) _ _).alloc _⟩

set_option maxRecDepth 100000 in
set_option maxHeartbeats 4000000 in
theorem eachIs_any (p g ca cf : Nat) (bs : List UInt8) (root a : Int) (t : TypeId) (w : World) (h : Mat 108 w p g bs)
    (h1 : w.cell? ⟨ca, 0, none⟩ = some (.int .i64 a)) (h2 : w.heap[cf]? = some (.cells #[.bool false] t (0, 0))) (hne : ca ≠ cf) (hpf : p ≠ cf) (hgf : g ≠ cf) :
    Calls Try.prog 79 #[.pointer (some ⟨p, 0, none⟩), .int .i64 root, .func (.func 80) #[] #[.pointer (some ⟨ca, 0, none⟩), .pointer (some ⟨cf, 0, none⟩)]] w
      fun e w' => e = .returned (.tuple #[]) ∧ w'.heap[cf]? = some (.cells #[.bool (isIn bs root a)] t (0, 0)) ∧ Fr (fun j => j = cf) w w' := by
  have HS := Lib.hid (size_any p g bs w h)
  have HC := Lib.hid (cell_any p g bs root w h)
  have HR := Lib.hid (fun x w h hx => cread_any p g bs x w h hx)
  have H := Lib.hid h
  have hbl := h.2.2.2
  have hx0 := cell_bd' bs root
  have HI := Lib.hid (show chainIs bs a (bs.length + 1) bs.length (cell bs root).1 = isIn bs root a from rfl)
  obtain ⟨n, hn⟩ : ∃ n, bs.length = n := ⟨_, rfl⟩
  obtain ⟨⟨x0, d0⟩, hc⟩ : ∃ r, cell bs root = r := ⟨_, rfl⟩
  obtain ⟨res, hres⟩ : ∃ r, isIn bs root a = r := ⟨_, rfl⟩
  rw [hn, hc, hres] at HI
  rw [hn] at HS hbl
  rw [hc] at HC hx0
  rw [hres]
  dsimp only at hx0
  have H1 := Lib.hid h1
  have H2 := Lib.hid h2
  clear h hn hc hres h1 h2
  go_enter Try.func79, Try.ntmps79
  go_wp2_with (first | (go_at_call 51; refine HS.out.mono ?_; rintro e w' ⟨rfl, h0⟩; obtain rfl := h0.symm) | (go_at_call 46; refine HC.out.mono ?_; rintro e w' ⟨rfl, h0⟩; obtain rfl := h0.symm))
  go_loopw [6, 7] (fun lv xv wr => ∃ (f : Nat) (lim x : Int), lv = .int .i64 lim ∧ xv = .int .i64 x ∧ lim ≤ f ∧ lim ≤ 1048576 ∧ (-9223372036854775808 ≤ x ∧ x ≤ 9223372036854775807) ∧
    wr.heap[cf]? = some (.cells #[.bool false] t (0, 0)) ∧ chainIs bs a f lim x = res ∧ Fr (fun j => j = cf) w wr) (fun lv _ _ => (intOf lv).toNat)
  case atStart => exact ⟨n + 1, n, x0, rfl, rfl, by omega, by omega, hx0, H2.out, HI.out, Fr.refl _ _⟩
  case round =>
    obtain ⟨f, lim, x, rfl, rfl, hf, hlm, hxb, hcf, hch, hF⟩ := hrel
    have HCF := Lib.hid hcf
    have HF := Lib.hid hF
    clear hcf hF
    by_cases hx : 0 < x
    · by_cases hl : x < lim
      · have hr := HR.out x _ (H.out.fr HF.out hpf hgf) hxb
        by_cases hcl : isCl bs x = true
        · obtain ⟨f', rfl⟩ : ∃ f', f = f' + 1 := ⟨f - 1, by omega⟩
          rw [chainIs, if_pos ⟨hx, hl, hcl⟩] at hch
          rw [hcl] at hr
          have hva : (clv bs x).a = x := by unfold clv; rw [if_pos hcl]
          have hvp := cell_bd' bs (x + 32)
          have hvq : (clv bs x).prev = (cell bs (x + 32)).1 := by unfold clv; rw [if_pos hcl]
          rw [← hvq] at hvp
          obtain ⟨⟨y0, y1, y2, y3, y4⟩, hy⟩ : ∃ y, clv bs x = y := ⟨_, rfl⟩
          rw [hy] at hr hch hva hvp
          dsimp only at hch hva hvp
          subst hva
          simp only [clval] at hr
          have HRR := Lib.hid hr
          clear hr hcl hy hvq
          go_wp2_with fail
          refine HRR.out.mono ?_
          rintro e w1 ⟨rfl, hf1⟩
          have HF1 := Lib.hid (HF.out.trans (Fr.some (hf1.alloc (.cells #[.int .i64 y0, .int .i64 y1, .int .i64 y2, .int .i64 y3, .int .i64 y4] 142)) fun _ e => e.elim))
          have HC1 := Lib.hid ((hf1.alloc (.cells #[.int .i64 y0, .int .i64 y1, .int .i64 y2, .int .i64 y3, .int .i64 y4] 142)).obj HCF.out id)
          have hsz1 := hf1.size
          have HB1 := Lib.hid (heap_alloc_last w1 (.cells #[.int .i64 y0, .int .i64 y1, .int .i64 y2, .int .i64 y3, .int .i64 y4] 142))
          clear hf1
          go_wp2_with fail
          have hk := is1_any ca cf ⟨y0, y1, y2, y3, y4⟩ a _ t _ (HF1.out.cell H1.out hne) HC1.out hne
          simp only [clval] at hk
          by_cases hya : y0 = a
          · have hyb : (y0 == a) = true := by simp [hya]
            rw [if_pos hya] at hch
            rw [hyb] at hk
            have HK := Lib.hid hk
            have HCH := Lib.hid hch
            clear hk hch hya
            refine HK.out.mono ?_
            rintro e w2 ⟨rfl, hq, hf2⟩
            have HQ := Lib.hid hq
            have HF2 := Lib.hid (HF1.out.trans hf2)
            clear hq hf2
            go_wp2_with fail
            (try simp only [Exit.inBlock, Exit.then])
            refine bodyPost_ret (results_none rfl _ _ _) rfl ⟨rfl, by rw [← HCH.out]; exact HQ.out, HF2.out⟩
          · have hyb : (y0 == a) = false := by simp [hya]
            rw [if_neg hya] at hch
            rw [hyb] at hk
            have HK := Lib.hid hk
            have HCH := Lib.hid hch
            clear hk hch hya
            refine HK.out.mono ?_
            rintro e w2 ⟨rfl, hq, hf2⟩
            have HQ := Lib.hid hq
            have HF2 := Lib.hid (HF1.out.trans hf2)
            have hb2 := hf2.obj HB1.out (by have := lt_of_block HCF.out; omega)
            obtain ⟨q0, q1, q2, q3, q4, _, _, _, _, _, ql⟩ := five_cells hb2
            clear hq hf2 hb2
            go_wp2_with fail
            go_quiet (fail)
            go_wp2
            go_roundw
            case rel => exact ⟨f', y0, y4, rfl, rfl, by omega, by omega, hvp, HQ.out, HCH.out, HF2.out.drewN _⟩
            case measure => simp only [intOf]; omega
        · have hcl' : isCl bs x = false := by simpa using hcl
          rw [chainIs_end bs a f lim x (fun e => hcl e.2.2)] at hch
          rw [clv_none hcl', hcl'] at hr
          simp only [clval] at hr
          have HRR := Lib.hid hr
          have HCH := Lib.hid hch
          clear hr hcl hcl' hch
          go_wp2_with fail
          refine HRR.out.mono ?_
          rintro e w1 ⟨rfl, hf1⟩
          have HF1 := Lib.hid (HF.out.trans (Fr.some (hf1.alloc (.cells #[.int .i64 0, .int .i64 0, .int .i64 0, .int .i64 0, .int .i64 0] 142)) fun _ e => e.elim))
          have HC1 := Lib.hid ((hf1.alloc (.cells #[.int .i64 0, .int .i64 0, .int .i64 0, .int .i64 0, .int .i64 0] 142)).obj HCF.out id)
          clear hf1
          go_wp2_with fail
          (try simp only [Exit.inBlock, Exit.then])
          refine bodyPost_ret (results_none rfl _ _ _) rfl ⟨rfl, by rw [← HCH.out]; exact HC1.out, HF1.out⟩
      · rw [chainIs_end bs a f lim x (fun e => hl e.2.1)] at hch
        have HCH := Lib.hid hch
        clear hch
        go_wp2_with fail
        go_end0
        exact ⟨rfl, by rw [← HCH.out]; exact HCF.out, HF.out⟩
    · rw [chainIs_end bs a f lim x (fun e => hx e.1)] at hch
      have HCH := Lib.hid hch
      clear hch
      go_wp2_with fail
      go_end0
      exact ⟨rfl, by rw [← HCH.out]; exact HCF.out, HF.out⟩

set_option maxRecDepth 100000 in
set_option maxHeartbeats 1000000 in
theorem is_any (p g : Nat) (bs : List UInt8) (root a : Int) (w : World) (h : Mat 108 w p g bs) :
    Calls Try.prog 27 #[.pointer (some ⟨p, 0, none⟩), .int .i64 root, .int .i64 a] w fun e w' => e = .returned (.bool (isIn bs root a)) ∧ Fr (fun _ => False) w w' := by
  have hmf : ∀ (fn : Fn) (first cap : Array Value) (w : World), (Instr.makeFunc fn first cap).run Try.prog w = .ok (.func fn first cap) w := fun _ _ _ _ => rfl
  have hF : Fr (fun _ => False) w ((w.alloc (.cells #[.int .i64 a] 2)).alloc (.cells #[.bool false] 4)) := ((Fr.refl _ _).alloc _).alloc _
  have hcl := two_new w (.int .i64 a) (.bool false) 2 4
  have hs : (w.alloc (.cells #[.int .i64 a] 2)).heap.size = w.heap.size + 1 := by simp
  have hb := heap_alloc_last (w.alloc (.cells #[.int .i64 a] 2)) (.cells #[.bool false] 4)
  rw [hs] at hb
  have hl := h.lt
  have HE := Lib.hid (eachIs_any p g w.heap.size (w.heap.size + 1) bs root a 4 _ (h.fr hF id id) hcl.1 hb (by omega) (by omega) (by omega))
  have HF := Lib.hid hF
  obtain ⟨res, hres⟩ : ∃ r, isIn bs root a = r := ⟨_, rfl⟩
  rw [hres] at HE ⊢
  clear h hF hcl hs hb hl hres
  go_enter Try.func27, Try.ntmps27
  go_wp2_with fail
  refine HE.out.mono ?_
  rintro e w1 ⟨rfl, hq, hf⟩
  have hq0 := cell_of_one hq
  have HF1 := Lib.hid (HF.out.after hf (S := fun _ => False) (fun k hk e => by omega))
  clear hq hf
  go_wp2_with fail
  go_ret
  exact ⟨rfl, HF1.out⟩
end Go.Proofs.Ytajeiccfgnpbpaa.Mem
