/- Contracts of package class: Read. -/
import Derived.Test.YtajeiccfgnpbpaaClsP
import Derived.Test.YtajeiccfgnpbpaaTabG
namespace Go.Proofs.Ytajeiccfgnpbpaa.Mem
open Go.RowKit

theorem five_cells {w : World} {b : Nat} {x0 x1 x2 x3 x4 : Value} {t : TypeId} (h : w.heap[b]? = some (.cells #[x0, x1, x2, x3, x4] t (0, 0))) :
    w.cell? ⟨b, 0, none⟩ = some x0 ∧ w.cell? ⟨b, 1, none⟩ = some x1 ∧ w.cell? ⟨b, 2, none⟩ = some x2 ∧ w.cell? ⟨b, 3, none⟩ = some x3 ∧ w.cell? ⟨b, 4, none⟩ = some x4 ∧
    w.frozen? ⟨b, 0, none⟩ = false ∧ w.frozen? ⟨b, 1, none⟩ = false ∧ w.frozen? ⟨b, 2, none⟩ = false ∧ w.frozen? ⟨b, 3, none⟩ = false ∧ w.frozen? ⟨b, 4, none⟩ = false ∧ b < w.heap.size :=
  ⟨by rw [cell_of_row w b _ _ _ _ h]; rfl, by rw [cell_of_row w b _ _ _ _ h]; rfl, by rw [cell_of_row w b _ _ _ _ h]; rfl, by rw [cell_of_row w b _ _ _ _ h]; rfl, by rw [cell_of_row w b _ _ _ _ h]; rfl,
   frozen_of_row w b _ _ _ h, frozen_of_row w b _ _ _ h, frozen_of_row w b _ _ _ h, frozen_of_row w b _ _ _ h, frozen_of_row w b _ _ _ h, lt_of_block h⟩

theorem five_set {w : World} {b : Nat} {x0 x1 x2 x3 x4 : Value} {t : TypeId} (h : w.heap[b]? = some (.cells #[x0, x1, x2, x3, x4] t (0, 0))) (u0 u1 u2 u3 u4 : Value) :
    (((((w.setCell ⟨b, 0, none⟩ u0).setCell ⟨b, 1, none⟩ u1).setCell ⟨b, 2, none⟩ u2).setCell ⟨b, 3, none⟩ u3).setCell ⟨b, 4, none⟩ u4).heap[b]? = some (.cells #[u0, u1, u2, u3, u4] t (0, 0)) := by
  have h0 := heap_setCell_same w b 0 _ _ u0 h
  have h1 := heap_setCell_same _ b 1 _ _ u1 h0
  have h2 := heap_setCell_same _ b 2 _ _ u2 h1
  have h3 := heap_setCell_same _ b 3 _ _ u3 h2
  have h4 := heap_setCell_same _ b 4 _ _ u4 h3
  rw [h4]
  rfl
theorem Fr.set5 {S : Nat → Prop} {a b : World} (h : Fr S a b) {p : Nat} (hp : a.heap.size ≤ p ∨ S p) (u0 u1 u2 u3 u4 : Value) :
    Fr S a (((((b.setCell ⟨p, 0, none⟩ u0).setCell ⟨p, 1, none⟩ u1).setCell ⟨p, 2, none⟩ u2).setCell ⟨p, 3, none⟩ u3).setCell ⟨p, 4, none⟩ u4) :=
  ((((h.setCell hp _).setCell hp _).setCell hp _).setCell hp _).setCell hp _

/-- A struct in a variable, and one slot, are handed back. -/
theorem results_cell1 {P : Program} {fn : Func} {p u : Tmp} {ty : TypeId} (h : fn.results = #[.cell p ty, .tmp u]) (tmps : Array Value) (w : World) (g : Nat) (t : TypeId) (cs : Array Value) (fr : Nat × Nat) (d : TypeDesc)
    (hp : tmps.getD p undef = .pointer (some ⟨g, 0, none⟩)) (hg : w.heap[g]? = some (.cells cs t fr))
    (hu : P.underlying ty = some d) (hd : (match d with | .struct _ | .array _ _ => true | _ => false) = true) (hi : (P.info? ty).map (·.size) = some cs.size) :
    (results fn tmps).run P w = .ok (.tuple #[.agg cs, tmps.getD u undef]) w := by
  have hp' : tmps[p]?.getD undef = .pointer (some ⟨g, 0, none⟩) := by simpa using hp
  simp [results, h, hp', asAddr, run_loadVar_row w g t ty cs fr d hg hu hd hi]

def clval (c : Cl) : Value := .agg #[.int .i64 c.a, .int .i64 c.par, .int .i64 c.size, .int .i64 c.tab, .int .i64 c.prev]

/-- The local array of Read behind k rounds. -/
def rarr (c0 c1 c2 c3 c4 : Int) : Nat → Array Value
  | 0 => #[.int .i64 0, .int .i64 0, .int .i64 0, .int .i64 0, .int .i64 0]
  | 1 => #[.int .i64 c0, .int .i64 0, .int .i64 0, .int .i64 0, .int .i64 0]
  | 2 => #[.int .i64 c0, .int .i64 c1, .int .i64 0, .int .i64 0, .int .i64 0]
  | 3 => #[.int .i64 c0, .int .i64 c1, .int .i64 c2, .int .i64 0, .int .i64 0]
  | 4 => #[.int .i64 c0, .int .i64 c1, .int .i64 c2, .int .i64 c3, .int .i64 0]
  | _ => #[.int .i64 c0, .int .i64 c1, .int .i64 c2, .int .i64 c3, .int .i64 c4]

theorem clv_none {bs : List UInt8} {a : Int} (h : isCl bs a = false) : clv bs a = ⟨0, 0, 0, 0, 0⟩ := by
  unfold clv; rw [h]; rfl
theorem isCl_bad {bs : List UInt8} {a : Int} {j : Nat} (hj : j < 5) (h : (cell bs (a + 8 * (j : Int))).2 ≠ 0) : isCl bs a = false := by
  rcases (by omega : j = 0 ∨ j = 1 ∨ j = 2 ∨ j = 3 ∨ j = 4) with rfl | rfl | rfl | rfl | rfl
  · rw [show a + 8 * ((0 : Nat) : Int) = a by omega] at h; simp [isCl, h]
  · rw [show a + 8 * ((1 : Nat) : Int) = a + 8 by omega] at h; simp [isCl, h]
  · rw [show a + 8 * ((2 : Nat) : Int) = a + 16 by omega] at h; simp [isCl, h]
  · rw [show a + 8 * ((3 : Nat) : Int) = a + 24 by omega] at h; simp [isCl, h]
  · rw [show a + 8 * ((4 : Nat) : Int) = a + 32 by omega] at h; simp [isCl, h]

set_option maxRecDepth 100000 in
set_option maxHeartbeats 4000000 in
theorem cread_any (p g : Nat) (bs : List UInt8) (a : Int) (w : World) (h : Mat 108 w p g bs) (ha : -9223372036854775808 ≤ a ∧ a ≤ 9223372036854775807) :
    Calls Try.prog 82 #[.pointer (some ⟨p, 0, none⟩), .int .i64 a] w fun e w' => e = .returned (.tuple #[clval (clv bs a), .bool (isCl bs a)]) ∧ Fr (fun _ => False) w w' := by
  have HC := Lib.hid (fun a w h => cell_any p g bs a w h)
  have H := Lib.hid h
  have hbl := h.2.2.2
  obtain ⟨c0, h0⟩ : ∃ c, (cell bs a).1 = c := ⟨_, rfl⟩
  obtain ⟨c1, h1⟩ : ∃ c, (cell bs (a + 8)).1 = c := ⟨_, rfl⟩
  obtain ⟨c2, h2⟩ : ∃ c, (cell bs (a + 16)).1 = c := ⟨_, rfl⟩
  obtain ⟨c3, h3⟩ : ∃ c, (cell bs (a + 24)).1 = c := ⟨_, rfl⟩
  obtain ⟨c4, h4⟩ : ∃ c, (cell bs (a + 32)).1 = c := ⟨_, rfl⟩
  obtain ⟨⟨v0, v1, v2, v3, v4⟩, hcv⟩ : ∃ r, clv bs a = r := ⟨_, rfl⟩
  obtain ⟨ib, hib⟩ : ∃ r, isCl bs a = r := ⟨_, rfl⟩
  rw [hcv, hib]
  have HCV := Lib.hid (And.intro hcv hib)
  simp only [clval]
  clear hcv hib
  have HV := Lib.hid (And.intro h0 (And.intro h1 (And.intro h2 (And.intro h3 h4))))
  clear h h0 h1 h2 h3 h4
  go_enter Try.func82, Try.ntmps82
  go_wp2_with fail
  go_loopw [10] (fun iv wr => ∃ k : Nat, k ≤ 5 ∧ iv = .int .i64 k ∧ wr.heap[w.heap.size]? = some (.cells (rarr 0 0 0 0 0 0) 142 (0, 0)) ∧ wr.heap[w.heap.size + 1]? = some (.cells (rarr c0 c1 c2 c3 c4 k) 185 (0, 0)) ∧
    (∀ j : Nat, j < k → (cell bs (a + 8 * (j : Int))).2 = 0) ∧ Fr (fun _ => False) w wr) (fun iv _ => 5 - (intOf iv).toNat)
  case atStart =>
    refine ⟨0, by omega, rfl, ?_, ?_, fun j hj => by omega, ((Fr.refl _ _).alloc _).alloc _⟩
    · rw [Below.heap_alloc _ _ _ (by simp)]
      exact heap_alloc_last _ _
    · have := heap_alloc_last (w.alloc (.cells #[.int .i64 0, .int .i64 0, .int .i64 0, .int .i64 0, .int .i64 0] 142)) (.cells #[.int .i64 0, .int .i64 0, .int .i64 0, .int .i64 0, .int .i64 0] 185)
      rw [show (w.alloc (.cells #[.int .i64 0, .int .i64 0, .int .i64 0, .int .i64 0, .int .i64 0] 142)).heap.size = w.heap.size + 1 by simp] at this
      exact this
  case round =>
    obtain ⟨k, hk, rfl, hR, hA, hco, hF⟩ := hrel
    simp only [rarr] at hR
    obtain ⟨r0, r1, r2, r3, r4, z0, z1, z2, z3, z4, zl⟩ := five_cells hR
    have HR := Lib.hid hR
    have HA := Lib.hid hA
    have HF := Lib.hid hF
    have HCO := Lib.hid hco
    have hab : 0 < k → 0 ≤ a ∧ a ≤ 1048576 := fun hk0 => by
      have := cell_code (hco 0 hk0)
      omega
    clear hR hF hco
    by_cases hlt : k < 5
    · clear hA
      rcases (by omega : k = 0 ∨ k = 1 ∨ k = 2 ∨ k = 3 ∨ k = 4) with rfl | rfl | rfl | rfl | rfl
      · have e0 : a + 8 * ((0 : Nat) : Int) = a := by omega
        have hA := HA.out
        simp only [rarr] at hA
        obtain ⟨q0, q1, q2, q3, q4, y0, y1, y2, y3, y4, yl⟩ := five_cells hA
        clear hA
        have hbad := @isCl_bad bs a 0 (by omega)
        rw [e0] at hbad
        clear hab
        by_cases hcode : (cell bs (a)).2 = 0
        · have HCD := Lib.hid hcode
          go_wp2_with fail
          refine (HC.out (a) _ (H.out.fr HF.out id id)).mono ?_
          rintro e w' ⟨rfl, h0⟩
          obtain rfl := h0.symm
          go_wp2_with fail
          go_roundw
          case rel =>
            refine ⟨1, by omega, by go_num, ?_, ?_, ?_, HF.out.setCell (.inl (Nat.le_add_right _ 1)) _⟩
            · rw [heap_setCell_other _ ⟨w.heap.size + 1, 0, none⟩ w.heap.size _ (Nat.ne_of_lt (Nat.lt_succ_self _))]
              exact HR.out
            · rw [heap_setCell_same _ (w.heap.size + 1) 0 _ _ _ HA.out]
              obtain ⟨u0, u1, u2, u3, u4⟩ := HV.out
              rw [u0]
              rfl
            · intro j hj
              by_cases hjk : j = 0
              · subst hjk
                rw [e0]
                exact HCD.out
              · exact HCO.out j (by omega)
          case measure => simp [intOf]
        · have hcode' : ((cell bs (a)).2 != 0) = true := by simp [hcode]
          have HBD := Lib.hid (hbad hcode)
          clear hcode hbad
          go_wp2_with fail
          refine (HC.out (a) _ (H.out.fr HF.out id id)).mono ?_
          rintro e w' ⟨rfl, h0⟩
          obtain rfl := h0.symm
          go_wp2_with fail
          refine bodyPost_ret (results_cell1 rfl _ _ w.heap.size 142 _ (0, 0) _ rfl (five_set HR.out _ _ _ _ _) Try.underlying142 rfl (by kernel_rfl)) rfl ⟨?_, ?_⟩
          · obtain ⟨e1, e2⟩ := HCV.out
            rw [clv_none HBD.out] at e1
            rw [HBD.out] at e2
            cases e1
            cases e2
            rfl
          exact Fr.set5 HF.out (.inl (Nat.le_refl _)) _ _ _ _ _
      · have e0 : a + 8 * ((1 : Nat) : Int) = a + 8 := by omega
        have hA := HA.out
        simp only [rarr] at hA
        obtain ⟨q0, q1, q2, q3, q4, y0, y1, y2, y3, y4, yl⟩ := five_cells hA
        clear hA
        have hbad := @isCl_bad bs a 1 (by omega)
        rw [e0] at hbad
        have hab' := hab (by omega)
        clear hab
        by_cases hcode : (cell bs (a + 8)).2 = 0
        · have HCD := Lib.hid hcode
          go_wp2_with fail
          refine (HC.out (a + 8) _ (H.out.fr HF.out id id)).mono ?_
          rintro e w' ⟨rfl, h0⟩
          obtain rfl := h0.symm
          go_wp2_with fail
          go_roundw
          case rel =>
            refine ⟨2, by omega, by go_num, ?_, ?_, ?_, HF.out.setCell (.inl (Nat.le_add_right _ 1)) _⟩
            · rw [heap_setCell_other _ ⟨w.heap.size + 1, 1, none⟩ w.heap.size _ (Nat.ne_of_lt (Nat.lt_succ_self _))]
              exact HR.out
            · rw [heap_setCell_same _ (w.heap.size + 1) 1 _ _ _ HA.out]
              obtain ⟨u0, u1, u2, u3, u4⟩ := HV.out
              rw [u1]
              rfl
            · intro j hj
              by_cases hjk : j = 1
              · subst hjk
                rw [e0]
                exact HCD.out
              · exact HCO.out j (by omega)
          case measure => simp [intOf]
        · have hcode' : ((cell bs (a + 8)).2 != 0) = true := by simp [hcode]
          have HBD := Lib.hid (hbad hcode)
          clear hcode hbad
          go_wp2_with fail
          refine (HC.out (a + 8) _ (H.out.fr HF.out id id)).mono ?_
          rintro e w' ⟨rfl, h0⟩
          obtain rfl := h0.symm
          go_wp2_with fail
          refine bodyPost_ret (results_cell1 rfl _ _ w.heap.size 142 _ (0, 0) _ rfl (five_set HR.out _ _ _ _ _) Try.underlying142 rfl (by kernel_rfl)) rfl ⟨?_, ?_⟩
          · obtain ⟨e1, e2⟩ := HCV.out
            rw [clv_none HBD.out] at e1
            rw [HBD.out] at e2
            cases e1
            cases e2
            rfl
          exact Fr.set5 HF.out (.inl (Nat.le_refl _)) _ _ _ _ _
      · have e0 : a + 8 * ((2 : Nat) : Int) = a + 16 := by omega
        have hA := HA.out
        simp only [rarr] at hA
        obtain ⟨q0, q1, q2, q3, q4, y0, y1, y2, y3, y4, yl⟩ := five_cells hA
        clear hA
        have hbad := @isCl_bad bs a 2 (by omega)
        rw [e0] at hbad
        have hab' := hab (by omega)
        clear hab
        by_cases hcode : (cell bs (a + 16)).2 = 0
        · have HCD := Lib.hid hcode
          go_wp2_with fail
          refine (HC.out (a + 16) _ (H.out.fr HF.out id id)).mono ?_
          rintro e w' ⟨rfl, h0⟩
          obtain rfl := h0.symm
          go_wp2_with fail
          go_roundw
          case rel =>
            refine ⟨3, by omega, by go_num, ?_, ?_, ?_, HF.out.setCell (.inl (Nat.le_add_right _ 1)) _⟩
            · rw [heap_setCell_other _ ⟨w.heap.size + 1, 2, none⟩ w.heap.size _ (Nat.ne_of_lt (Nat.lt_succ_self _))]
              exact HR.out
            · rw [heap_setCell_same _ (w.heap.size + 1) 2 _ _ _ HA.out]
              obtain ⟨u0, u1, u2, u3, u4⟩ := HV.out
              rw [u2]
              rfl
            · intro j hj
              by_cases hjk : j = 2
              · subst hjk
                rw [e0]
                exact HCD.out
              · exact HCO.out j (by omega)
          case measure => simp [intOf]
        · have hcode' : ((cell bs (a + 16)).2 != 0) = true := by simp [hcode]
          have HBD := Lib.hid (hbad hcode)
          clear hcode hbad
          go_wp2_with fail
          refine (HC.out (a + 16) _ (H.out.fr HF.out id id)).mono ?_
          rintro e w' ⟨rfl, h0⟩
          obtain rfl := h0.symm
          go_wp2_with fail
          refine bodyPost_ret (results_cell1 rfl _ _ w.heap.size 142 _ (0, 0) _ rfl (five_set HR.out _ _ _ _ _) Try.underlying142 rfl (by kernel_rfl)) rfl ⟨?_, ?_⟩
          · obtain ⟨e1, e2⟩ := HCV.out
            rw [clv_none HBD.out] at e1
            rw [HBD.out] at e2
            cases e1
            cases e2
            rfl
          exact Fr.set5 HF.out (.inl (Nat.le_refl _)) _ _ _ _ _
      · have e0 : a + 8 * ((3 : Nat) : Int) = a + 24 := by omega
        have hA := HA.out
        simp only [rarr] at hA
        obtain ⟨q0, q1, q2, q3, q4, y0, y1, y2, y3, y4, yl⟩ := five_cells hA
        clear hA
        have hbad := @isCl_bad bs a 3 (by omega)
        rw [e0] at hbad
        have hab' := hab (by omega)
        clear hab
        by_cases hcode : (cell bs (a + 24)).2 = 0
        · have HCD := Lib.hid hcode
          go_wp2_with fail
          refine (HC.out (a + 24) _ (H.out.fr HF.out id id)).mono ?_
          rintro e w' ⟨rfl, h0⟩
          obtain rfl := h0.symm
          go_wp2_with fail
          go_roundw
          case rel =>
            refine ⟨4, by omega, by go_num, ?_, ?_, ?_, HF.out.setCell (.inl (Nat.le_add_right _ 1)) _⟩
            · rw [heap_setCell_other _ ⟨w.heap.size + 1, 3, none⟩ w.heap.size _ (Nat.ne_of_lt (Nat.lt_succ_self _))]
              exact HR.out
            · rw [heap_setCell_same _ (w.heap.size + 1) 3 _ _ _ HA.out]
              obtain ⟨u0, u1, u2, u3, u4⟩ := HV.out
              rw [u3]
              rfl
            · intro j hj
              by_cases hjk : j = 3
              · subst hjk
                rw [e0]
                exact HCD.out
              · exact HCO.out j (by omega)
          case measure => simp [intOf]
        · have hcode' : ((cell bs (a + 24)).2 != 0) = true := by simp [hcode]
          have HBD := Lib.hid (hbad hcode)
          clear hcode hbad
          go_wp2_with fail
          refine (HC.out (a + 24) _ (H.out.fr HF.out id id)).mono ?_
          rintro e w' ⟨rfl, h0⟩
          obtain rfl := h0.symm
          go_wp2_with fail
          refine bodyPost_ret (results_cell1 rfl _ _ w.heap.size 142 _ (0, 0) _ rfl (five_set HR.out _ _ _ _ _) Try.underlying142 rfl (by kernel_rfl)) rfl ⟨?_, ?_⟩
          · obtain ⟨e1, e2⟩ := HCV.out
            rw [clv_none HBD.out] at e1
            rw [HBD.out] at e2
            cases e1
            cases e2
            rfl
          exact Fr.set5 HF.out (.inl (Nat.le_refl _)) _ _ _ _ _
      · have e0 : a + 8 * ((4 : Nat) : Int) = a + 32 := by omega
        have hA := HA.out
        simp only [rarr] at hA
        obtain ⟨q0, q1, q2, q3, q4, y0, y1, y2, y3, y4, yl⟩ := five_cells hA
        clear hA
        have hbad := @isCl_bad bs a 4 (by omega)
        rw [e0] at hbad
        have hab' := hab (by omega)
        clear hab
        by_cases hcode : (cell bs (a + 32)).2 = 0
        · have HCD := Lib.hid hcode
          go_wp2_with fail
          refine (HC.out (a + 32) _ (H.out.fr HF.out id id)).mono ?_
          rintro e w' ⟨rfl, h0⟩
          obtain rfl := h0.symm
          go_wp2_with fail
          go_roundw
          case rel =>
            refine ⟨5, by omega, by go_num, ?_, ?_, ?_, HF.out.setCell (.inl (Nat.le_add_right _ 1)) _⟩
            · rw [heap_setCell_other _ ⟨w.heap.size + 1, 4, none⟩ w.heap.size _ (Nat.ne_of_lt (Nat.lt_succ_self _))]
              exact HR.out
            · rw [heap_setCell_same _ (w.heap.size + 1) 4 _ _ _ HA.out]
              obtain ⟨u0, u1, u2, u3, u4⟩ := HV.out
              rw [u4]
              rfl
            · intro j hj
              by_cases hjk : j = 4
              · subst hjk
                rw [e0]
                exact HCD.out
              · exact HCO.out j (by omega)
          case measure => simp [intOf]
        · have hcode' : ((cell bs (a + 32)).2 != 0) = true := by simp [hcode]
          have HBD := Lib.hid (hbad hcode)
          clear hcode hbad
          go_wp2_with fail
          refine (HC.out (a + 32) _ (H.out.fr HF.out id id)).mono ?_
          rintro e w' ⟨rfl, h0⟩
          obtain rfl := h0.symm
          go_wp2_with fail
          refine bodyPost_ret (results_cell1 rfl _ _ w.heap.size 142 _ (0, 0) _ rfl (five_set HR.out _ _ _ _ _) Try.underlying142 rfl (by kernel_rfl)) rfl ⟨?_, ?_⟩
          · obtain ⟨e1, e2⟩ := HCV.out
            rw [clv_none HBD.out] at e1
            rw [HBD.out] at e2
            cases e1
            cases e2
            rfl
          exact Fr.set5 HF.out (.inl (Nat.le_refl _)) _ _ _ _ _
    · obtain rfl : k = 5 := by omega
      simp only [rarr] at hA
      obtain ⟨q0, q1, q2, q3, q4, y0, y1, y2, y3, y4, yl⟩ := five_cells hA
      have hcodes : (cell bs a).2 = 0 ∧ (cell bs (a + 8)).2 = 0 ∧ (cell bs (a + 16)).2 = 0 ∧ (cell bs (a + 24)).2 = 0 ∧ (cell bs (a + 32)).2 = 0 := by
        have t0 := HCO.out 0 (by omega)
        have t1 := HCO.out 1 (by omega)
        have t2 := HCO.out 2 (by omega)
        have t3 := HCO.out 3 (by omega)
        have t4 := HCO.out 4 (by omega)
        rw [show a + 8 * ((0 : Nat) : Int) = a by omega] at t0
        rw [show a + 8 * ((1 : Nat) : Int) = a + 8 by omega] at t1
        rw [show a + 8 * ((2 : Nat) : Int) = a + 16 by omega] at t2
        rw [show a + 8 * ((3 : Nat) : Int) = a + 24 by omega] at t3
        rw [show a + 8 * ((4 : Nat) : Int) = a + 32 by omega] at t4
        exact ⟨t0, t1, t2, t3, t4⟩
      have hiff : isCl bs a = (c0 == magic) := by
        obtain ⟨t0, t1, t2, t3, t4⟩ := hcodes
        unfold isCl
        rw [t0, t1, t2, t3, t4, HV.out.1]
        simp
      have hab' := hab (by omega)
      clear hA hab hcodes
      by_cases hm : c0 = 357694784579
      · have hi : isCl bs a = true := by rw [hiff]; simp [hm, magic]
        have hv : clv bs a = ⟨a, c1, c2, c3, c4⟩ := by
          obtain ⟨u0, u1, u2, u3, u4⟩ := HV.out
          unfold clv
          rw [if_pos hi, u1, u2, u3, u4]
        have HBD := Lib.hid (And.intro hv hi)
        have hm' : (c0 != 357694784579) = false := by simp [hm]
        clear hm hi hv hiff
        go_wp2_with fail
        refine bodyPost_ret (results_cell1 rfl _ _ w.heap.size 142 _ (0, 0) _ rfl (five_set HR.out _ _ _ _ _) Try.underlying142 rfl (by kernel_rfl)) rfl ⟨?_, ?_⟩
        · obtain ⟨e1, e2⟩ := HCV.out
          rw [HBD.out.1] at e1
          rw [HBD.out.2] at e2
          cases e1
          cases e2
          rfl
        exact Fr.set5 HF.out (.inl (Nat.le_refl _)) _ _ _ _ _
      · have hi : isCl bs a = false := by rw [hiff]; simp [hm, magic]
        have HBD := Lib.hid hi
        have hm' : (c0 != 357694784579) = true := by simp [hm]
        clear hm hi hiff
        go_wp2_with fail
        refine bodyPost_ret (results_cell1 rfl _ _ w.heap.size 142 _ (0, 0) _ rfl (five_set HR.out _ _ _ _ _) Try.underlying142 rfl (by kernel_rfl)) rfl ⟨?_, ?_⟩
        · obtain ⟨e1, e2⟩ := HCV.out
          rw [clv_none HBD.out] at e1
          rw [HBD.out] at e2
          cases e1
          cases e2
          rfl
        exact Fr.set5 HF.out (.inl (Nat.le_refl _)) _ _ _ _ _
end Go.Proofs.Ytajeiccfgnpbpaa.Mem
