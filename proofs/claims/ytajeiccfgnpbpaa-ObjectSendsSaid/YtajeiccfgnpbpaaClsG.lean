/- Contracts: the first class of a world. -/
import Derived.Test.YtajeiccfgnpbpaaQh
import Derived.Deep.DeepCutAuto
import Derived.Deep.RegionLaw
set_option linter.unusedSimpArgs false
set_option linter.unusedVariables false

namespace Go.Proofs.Ytajeiccfgnpbpaa.Mem
open Go.RowKit

theorem infoI64' : (Try.prog.info? 2).map (fun i => (i.zero, i.size, i.bytes)) = some (some (.int .i64 0), 1, 8) := by kernel_rfl
theorem addr_add' (g i : Nat) : (⟨g, 0, none⟩ : Addr).add i = ⟨g, i, none⟩ := by unfold Addr.add; split <;> simp_all
theorem cell_one_new' (w : World) (x : Value) (t : TypeId) : ∀ j u, [x][j]? = some u → (w.alloc (.cells #[x] t)).cell? ((⟨w.heap.size, 0, none⟩ : Addr).add j) = some u := by
  intro j u hu
  match j, hu with
  | 0, hu => rw [addr_add', cell_of_row _ _ _ _ _ _ (heap_alloc_last w (.cells #[x] t))]; exact hu

/-- A world with one class, at c. -/
def OneClass (wb p g b z : Nat) (x1 : Nat) (bs1 : List UInt8) (root c : Int) (w : World) (e : Ending) (w' : World) : Prop :=
  e = .returned (.bool true) ∧ (∃ (v4 : Value) (gA cA : Nat) (_ : Unit), w'.heap[wb]? = some (.cells #[.pointer (some ⟨p, 0, none⟩), .pointer (some ⟨b, 0, none⟩), .int .i64 root, .slice (some ⟨gA, 0, none⟩) 1 cA, v4] 56 (0, 0)) ∧ w.heap.size ≤ gA ∧ w'.cell? ⟨gA, 0, none⟩ = some (.int .i64 c)) ∧
  Sat w' b p g 8 z x1 bs1 ∧ Fr (fun j => j = wb ∨ j = b ∨ j = g) w w'

theorem made_one {w1 w2 : World} {wb p b : Nat} {root c : Int} {rest : Array Value} {t : TypeId} (hw : w1.heap[wb]? = some (.cells #[.pointer (some ⟨p, 0, none⟩), .pointer (some ⟨b, 0, none⟩), .int .i64 root, .slice none 0 0, .slice none 0 0] t (0, 0)))
    (hf : Fr (fun _ => False) ((w1.alloc (.cells #[.int .i64 c] 2)).alloc (.cells (#[.int .i64 c] ++ rest) 2)) w2) (cA : Nat) (v4 : Value) :
    ∃ (gA cA' : Nat) (v4' : Value), ((w2.setCell ⟨wb, 3, none⟩ (.slice (some ⟨w1.heap.size + 1, 0, none⟩) 1 cA)).setCell ⟨wb, 4, none⟩ v4).heap[wb]? = some (.cells #[.pointer (some ⟨p, 0, none⟩), .pointer (some ⟨b, 0, none⟩), .int .i64 root, .slice (some ⟨gA, 0, none⟩) 1 cA', v4'] t (0, 0)) ∧
      w1.heap.size ≤ gA ∧ ((w2.setCell ⟨wb, 3, none⟩ (.slice (some ⟨w1.heap.size + 1, 0, none⟩) 1 cA)).setCell ⟨wb, 4, none⟩ v4).cell? ⟨gA, 0, none⟩ = some (.int .i64 c) ∧
      Fr (fun j => j = wb) w1 ((w2.setCell ⟨wb, 3, none⟩ (.slice (some ⟨w1.heap.size + 1, 0, none⟩) 1 cA)).setCell ⟨wb, 4, none⟩ v4) := by
  have hl := lt_of_block hw
  have hsz : (w1.alloc (.cells #[.int .i64 c] 2)).heap.size = w1.heap.size + 1 := by simp
  have F0 : Fr (fun _ => False) w1 w2 := (((Fr.refl _ _).alloc _).alloc _).trans hf
  have h2 := F0.obj hw id
  have hb := heap_alloc_last (w1.alloc (.cells #[.int .i64 c] 2)) (.cells (#[.int .i64 c] ++ rest) 2)
  rw [hsz] at hb
  have hb2 := hf.obj hb id
  have FS : Fr (fun j => j = wb) w2 ((w2.setCell ⟨wb, 3, none⟩ (.slice (some ⟨w1.heap.size + 1, 0, none⟩) 1 cA)).setCell ⟨wb, 4, none⟩ v4) := Fr.setOne (p := wb) (Fr.setOne (p := wb) (Fr.refl _ _) _ _) _ _
  refine ⟨w1.heap.size + 1, cA, v4, ?_, by omega, ?_, (Fr.some F0 fun _ e => e.elim).trans FS⟩
  · have h3 := heap_setCell_same w2 wb 3 _ _ (.slice (some ⟨w1.heap.size + 1, 0, none⟩) 1 cA) h2
    have h4 := heap_setCell_same _ wb 4 _ _ v4 h3
    rw [h4]
    rfl
  · rw [cell_of_row _ _ _ _ _ _ (FS.obj hb2 (by omega))]
    simp [Array.getElem?_append]

set_option maxRecDepth 100000 in
set_option maxHeartbeats 4000000 in
theorem wmake_first (wb p g b z x x1 : Nat) (bs bs1 : List UInt8) (root c slots par : Int) (w : World) (hw : w.heap[wb]? = some (.cells #[.pointer (some ⟨p, 0, none⟩), .pointer (some ⟨b, 0, none⟩), .int .i64 root, .slice none 0 0, .slice none 0 0] 56 (0, 0)))
    (h : Sat w b p g 8 z x bs) (h8 : x % 8 = 0) (hd : wb ≠ b ∧ wb ≠ p ∧ wb ≠ g) (hpar : 0 ≤ par) (hc : cnewv z x bs root 0 slots = ((c, 0), x1, bs1)) (hI : isIn bs1 root c = true) (hgt : (x : Int) < c) :
    Calls Try.prog 26 #[.pointer (some ⟨wb, 0, none⟩), .int .i64 par, .int .i64 slots] w (OneClass wb p g b z x1 bs1 root c w) := by
  obtain ⟨i0, hi, hz0, hz1, hz2⟩ := info_parts infoI64'
  have HI := Lib.hid hi
  have HZ := Lib.hid (And.intro hz0 (And.intro hz1 hz2))
  clear hi hz0 hz1 hz2
  obtain ⟨q0, q1, q2, q3, q4, y0, y1, y2, y3, y4, yl⟩ := five_cells hw
  have HH := Lib.hid (here_any b p g 8 z x bs w h)
  have hcn := fun W h => cnew_any b p g 8 z x bs root 0 slots W h h8 (by omega)
  rw [hc] at hcn
  have HS := Lib.hid h
  have HCN := Lib.hid hcn
  have HL := Lib.hid h.lt
  have HW := Lib.hid hw
  clear hcn h hw hc
  go_enter Try.func26, Try.ntmps26
  go_wp2_with (go_at_call 21; refine HH.out.mono ?_; rintro e w' ⟨rfl, h0⟩; obtain rfl := h0.symm)
  go_region_held3 (fun W => W.cell? ⟨wb, 1, none⟩ = some (.pointer (some ⟨b, 0, none⟩)) ∧ W.cell? ⟨wb, 2, none⟩ = some (.int .i64 root) ∧ Fr (fun j => j = b ∨ j = g) w W)
    ((go_split_ands; refine (fun hF => ⟨Fr.cell hF q1 (by dsimp only; omega), Fr.cell hF q2 (by dsimp only; omega), hF⟩ : Fr (fun j => j = b ∨ j = g) w _ → _) ?_; repeat' first | exact Fr.refl _ _ | assumption | apply Fr.drew | apply Fr.alloc))
    (first | (go_at_call 76; go_split_ands; refine (HCN.out _ (Sat.drew HS.out)).mono ?_; rintro e w1 ⟨rfl, hs, hf⟩; have hf1 := Fr.undrew hf) | fail)
  have S1 := Lib.hid hs
  have F1 := Lib.hid hf1
  have hw1 := hf1.obj HW.out (by omega)
  have hl1 := hf1.size
  obtain ⟨p0, p1, p2, p3, p4, z0, z1, z2, z3, z4, zl⟩ := five_cells hw1
  have HW1 := Lib.hid hw1
  have HR := Lib.hid (fun w => rcnew_nil slots w)
  clear hs hf hf1 hw1 q0 q1 q2 q3 q4 y0 y1 y2 y3 y4
  go_upto_region 8 with (fail)
  go_cut [] (fun wx => ∃ (gA cA : Nat) (v4 : Value), wx.heap[wb]? = some (.cells #[.pointer (some ⟨p, 0, none⟩), .pointer (some ⟨b, 0, none⟩), .int .i64 root, .slice (some ⟨gA, 0, none⟩) 1 cA, v4] 56 (0, 0)) ∧ w1.heap.size ≤ gA ∧ wx.cell? ⟨gA, 0, none⟩ = some (.int .i64 c) ∧ Fr (fun j => j = wb) w1 wx)
  case first =>
   go_region_with (go_at_call 78; refine (HR.out _).mono ?_; rintro e w2 ⟨⟨o2, c2, rfl⟩, hf⟩; have hf2 : Fr (fun _ => False) w1 w2 := Fr.trans (by repeat' first | exact Fr.refl _ _ | assumption | apply Fr.drew | apply Fr.alloc) hf; obtain ⟨g0, g1, g2, g3, g4, f0, f1, f2, f3, f4, fl⟩ := five_cells (hf2.obj HW1.out id))
   all_goals
    go_wp2_with fail
    go_meet
    case rel => exact made_one HW1.out (Fr.undrew (Fr.undrew hf)) _ _
  case rest =>
    obtain ⟨gA, cA, v4, hob, hgA, hcl, hF⟩ := hcut
    obtain ⟨k0, k1, k2, k3, k4, _, _, _, _, _, _⟩ := five_cells hob
    have S2 := Lib.hid (S1.out.fr hF (by omega) (by omega) (by omega))
    have hIs := fun W h => is_any p g bs1 root c W h
    rw [hI] at hIs
    have HIS := Lib.hid hIs
    have HO := Lib.hid hob
    have HCL := Lib.hid hcl
    have F2 := Lib.hid ((Fr.some F1.out fun _ e => Or.inr e).trans (Fr.some (T := fun j => j = wb ∨ (j = b ∨ j = g)) hF fun _ e => Or.inl e))
    clear hIs hob hcl hF p0 p1 p2 p3 p4 z0 z1 z2 z3 z4
    go_wp2_with fail
    have hgt' : (x : Int) < c := hgt
    go_region_held3 (fun W => W.cell? ⟨wb, 0, none⟩ = some (.pointer (some ⟨p, 0, none⟩)) ∧ W.cell? ⟨wb, 2, none⟩ = some (.int .i64 root) ∧ Fr (fun _ => False) wc W)
      ((go_split_ands; refine (fun hF => ⟨Fr.cell hF k0 id, Fr.cell hF k2 id, hF⟩ : Fr (fun _ => False) wc _ → _) ?_; repeat' first | exact Fr.refl _ _ | assumption | apply Fr.drew | apply Fr.alloc))
      (first | (go_at_call 27; go_split_ands; refine (HIS.out _ (Mat.drew S2.out.mat)).mono ?_; rintro e w3 ⟨rfl, hf⟩; have hf3 := Fr.undrew hf) | fail)
    all_goals
      go_wp2_with fail
      go_ret
      refine ⟨rfl, ⟨_, gA, cA, (), hf3.obj HO.out id, by omega, Fr.cell hf3 HCL.out id⟩, S2.out.fr hf3 id id id, ?_⟩
      exact (Fr.some F2.out fun _ e => by rcases e with e | e | e; exact .inl e; exact .inr (.inl e); exact .inr (.inr e)).trans (Fr.some hf3 fun _ e => e.elim)
end Go.Proofs.Ytajeiccfgnpbpaa.Mem
