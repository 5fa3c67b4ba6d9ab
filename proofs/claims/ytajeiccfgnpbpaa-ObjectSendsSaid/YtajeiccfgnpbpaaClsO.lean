/- Contracts: Make of a first class, with what its lists hold. -/
import Derived.Test.YtajeiccfgnpbpaaClsM
set_option linter.unusedSimpArgs false
set_option linter.unusedVariables false

namespace Go.Proofs.Ytajeiccfgnpbpaa.Mem
open Go.RowKit

set_option maxRecDepth 100000 in
set_option maxHeartbeats 1000000 in
theorem rcnew_zero (slots : Int) (w : World) :
    Calls Try.prog 78 #[.slice none 0 0, .int .i64 (-1), .int .i64 slots] w
      fun e w' => ∃ v', e = .returned v' ∧ w'.ownsRow w.heap.size 90 4 v' 1 (rows4 [(-1, 8, slots, .slice none 0 0)]) ∧ Fr (fun _ => False) w w' := by
  obtain ⟨i0, hi, hz0, hz1, hz2⟩ := info_parts infoRCl
  have HI := Lib.hid hi
  have HZ := Lib.hid (And.intro hz0 (And.intro hz1 hz2))
  clear hi hz0 hz1 hz2
  go_enter Try.func78, Try.ntmps78
  go_wp2_with fail
  have FX := Lib.hid ((Fr.refl (fun _ => False) w).alloc (.cells #[.int .i64 (-1), .int .i64 8, .int .i64 slots, .slice none 0 0] 90))
  have OX := heap_alloc_last w (.cells #[.int .i64 (-1), .int .i64 8, .int .i64 slots, .slice none 0 0] 90)
  obtain ⟨wX, hwX⟩ : ∃ wX, w.alloc (.cells #[.int .i64 (-1), .int .i64 8, .int .i64 slots, .slice none 0 0] 90) = wX := ⟨_, rfl⟩
  rw [hwX] at FX OX ⊢
  obtain ⟨p0, p1, p2, p3, pl⟩ := four_cells OX
  clear hwX OX
  go_region_held3 (fun W => W.cell? ⟨w.heap.size, 0, none⟩ = some (.int .i64 (-1)) ∧ W.cell? ⟨w.heap.size, 1, none⟩ = some (.int .i64 8) ∧ W.cell? ⟨w.heap.size, 2, none⟩ = some (.int .i64 slots) ∧ W.cell? ⟨w.heap.size, 3, none⟩ = some (.slice none 0 0) ∧ Fr (fun _ => False) wX W)
    ((go_split_ands; refine (fun hF => ⟨Fr.cell hF p0 id, Fr.cell hF p1 id, Fr.cell hF p2 id, Fr.cell hF p3 id, hF⟩ : Fr (fun _ => False) wX _ → _) ?_; repeat' first | exact Fr.refl _ _ | assumption | apply Fr.drew | apply Fr.alloc))
    (first | (go_split_ands; refine step_append_own rfl (.tmp 27) (.tmp 29) 54 rfl wX.heap.size 90 i0 _ 4 48 Try.underlying54 HI.out HZ.out.1 HZ.out.2.1 HZ.out.2.2 rfl (by decide) (.slice (some ⟨wX.heap.size, 0, none⟩) 0 0) 0 [] ?hs ?own ⟨wX.heap.size + 1, 0, none⟩ 1 1 [.int .i64 (-1), .int .i64 8, .int .i64 slots, .slice none 0 0] ?hx (by rfl) ?news (by simp [Value.oneCell']) (by unfold maxLen; omega) (by omega) ?base ?_; (case hs => exact rfl); (case hx => exact rfl); (case own => (exact (owns_empty (heap_alloc_two _ _ _) (Nat.le_refl _)))); (case news => (exact (cell_four_new _ _ _ _ _ _ _ (heap_alloc_next _ _ _)))); (case base => (show wX.heap.size ≤ _; first | omega | (simp; omega))); intro v2 w2 hown2 hg2; have hq2 : Fr (fun _ => False) wX w2 := Fr.grown (by repeat' first | exact Fr.refl _ _ | assumption | apply Fr.drew | apply Fr.alloc) hg2 (fun k hk => .inl (by have := own_blk hk; omega)); have HV2 := Lib.hid hown2; clear hown2 hg2) | (go_split_ands; refine step_append_own rfl (.tmp 27) (.tmp 29) 54 rfl wX.heap.size 90 i0 _ 4 48 Try.underlying54 HI.out HZ.out.1 HZ.out.2.1 HZ.out.2.2 rfl (by decide) (.slice (some ⟨wX.heap.size + 1, 0, none⟩) 0 0) 0 [] ?hs ?own ⟨wX.heap.size, 0, none⟩ 1 1 [.int .i64 (-1), .int .i64 8, .int .i64 slots, .slice none 0 0] ?hx (by rfl) ?news (by simp [Value.oneCell']) (by unfold maxLen; omega) (by omega) ?base ?_; (case hs => exact rfl); (case hx => exact rfl); (case own => (exact (owns_empty (heap_alloc_next _ _ _) (by omega)))); (case news => (exact (cell_four_new _ _ _ _ _ _ _ (heap_alloc_two _ _ _)))); (case base => (show wX.heap.size ≤ _; first | omega | (simp; omega))); intro v2 w2 hown2 hg2; have hq2 : Fr (fun _ => False) wX w2 := Fr.grown (by repeat' first | exact Fr.refl _ _ | assumption | apply Fr.drew | apply Fr.alloc) hg2 (fun k hk => .inl (by have := own_blk hk; omega)); have HV2 := Lib.hid hown2; clear hown2 hg2) | fail)
  all_goals
    go_wp2_with fail
    go_ret
    exact ⟨_, rfl, owns_mono (by simpa [rows4, rw4] using HV2.out) FX.out.size, FX.out.trans hq2⟩

theorem made_more0 {w1 wA w2 : World} {wb p b base gA' cA' gL' cL' : Nat} {root c : Int} {L' : List Row4} {v3 v4 : Value} {t : TypeId} (hw : w1.heap[wb]? = some (.cells #[.pointer (some ⟨p, 0, none⟩), .pointer (some ⟨b, 0, none⟩), .int .i64 root, v3, v4] t (0, 0)))
    (hA : Fr (fun _ => False) w1 wA) (h2 : Fr (fun _ => False) wA w2) (hoA : wA.ownsRow base 2 1 (.slice (some ⟨gA', 0, none⟩) (0 + 1) cA') (0 + 1) ([] ++ [.int .i64 c])) (hoL : w2.ownsRow wA.heap.size 90 4 (.slice (some ⟨gL', 0, none⟩) (0 + 1) cL') (0 + 1) (rows4 L'))
    (hb1 : base ≤ gA') (hl1 : gA' < wA.heap.size) (hb2 : wA.heap.size ≤ gL') (hl2 : gL' < w2.heap.size) (hwbb : wb < base) (hbw : base ≤ wA.heap.size) :
    ∃ (gA'' cA'' gL'' cL'' : Nat), ((w2.setCell ⟨wb, 3, none⟩ (.slice (some ⟨gA', 0, none⟩) (0 + 1) cA')).setCell ⟨wb, 4, none⟩ (.slice (some ⟨gL', 0, none⟩) (0 + 1) cL')).heap[wb]? = some (.cells #[.pointer (some ⟨p, 0, none⟩), .pointer (some ⟨b, 0, none⟩), .int .i64 root, .slice (some ⟨gA'', 0, none⟩) (0 + 1) cA'', .slice (some ⟨gL'', 0, none⟩) (0 + 1) cL''] t (0, 0)) ∧ gA'' ≠ gL'' ∧
      ((w2.setCell ⟨wb, 3, none⟩ (.slice (some ⟨gA', 0, none⟩) (0 + 1) cA')).setCell ⟨wb, 4, none⟩ (.slice (some ⟨gL', 0, none⟩) (0 + 1) cL')).ownsRow base 2 1 (.slice (some ⟨gA'', 0, none⟩) (0 + 1) cA'') (0 + 1) (([] ++ [c]).map (.int .i64)) ∧
      ((w2.setCell ⟨wb, 3, none⟩ (.slice (some ⟨gA', 0, none⟩) (0 + 1) cA')).setCell ⟨wb, 4, none⟩ (.slice (some ⟨gL', 0, none⟩) (0 + 1) cL')).ownsRow base 90 4 (.slice (some ⟨gL'', 0, none⟩) (0 + 1) cL'') (0 + 1) (rows4 L') ∧
      Fr (fun j => j = wb ∨ j = wb) w1 ((w2.setCell ⟨wb, 3, none⟩ (.slice (some ⟨gA', 0, none⟩) (0 + 1) cA')).setCell ⟨wb, 4, none⟩ (.slice (some ⟨gL', 0, none⟩) (0 + 1) cL')) := by
  have h2w := h2.obj (hA.obj hw id) id
  have FS : Fr (fun j => j = wb) w2 ((w2.setCell ⟨wb, 3, none⟩ (.slice (some ⟨gA', 0, none⟩) (0 + 1) cA')).setCell ⟨wb, 4, none⟩ (.slice (some ⟨gL', 0, none⟩) (0 + 1) cL')) := Fr.setOne (p := wb) (Fr.setOne (p := wb) (Fr.refl _ _) _ _) _ _
  refine ⟨gA', cA', gL', cL', ?_, by omega, ?_, ?_, ?_⟩
  · have h3 := heap_setCell_same w2 wb 3 _ _ (.slice (some ⟨gA', 0, none⟩) (0 + 1) cA') h2w
    have h4 := heap_setCell_same _ wb 4 _ _ (.slice (some ⟨gL', 0, none⟩) (0 + 1) cL') h3
    rw [h4]
    rfl
  · exact FS.owns (h2.owns hoA (fun _ _ => id)) (fun k hk (e : k = wb) => by have := own_blk hk; omega)
  · exact FS.owns (owns_mono hoL hbw) (fun k hk (e : k = wb) => by have := own_blk hk; omega)
  · exact ((Fr.some hA fun _ e => e.elim).trans (Fr.some h2 fun _ e => e.elim)).trans (Fr.some FS fun _ e => .inl e)

set_option maxRecDepth 100000 in
set_option maxHeartbeats 4000000 in
theorem wmake_zero {a0 : Nat} (slots par : Int) (wb p g b z x x1 base : Nat) (bs bs1 : List UInt8) (root c : Int) (w : World)
    (hw : w.heap[wb]? = some (.cells #[.pointer (some ⟨p, 0, none⟩), .pointer (some ⟨b, 0, none⟩), .int .i64 root, .slice none 0 0, .slice none 0 0] 56 (0, 0)))
    (hbw : base ≤ w.heap.size)
    (h : Sat w b p g a0 z x bs) (h8 : x % 8 = 0) (hd : wb ≠ b ∧ wb ≠ p ∧ wb ≠ g) (hb : wb < base ∧ b < base ∧ p < base ∧ g < base) (hpar : 0 ≤ par)
    (hc : cnewv z x bs root 0 slots = ((c, 0), x1, bs1)) (hI : isIn bs1 root c = true) (hgt : (x : Int) < c) :
    Calls Try.prog 26 #[.pointer (some ⟨wb, 0, none⟩), .int .i64 par, .int .i64 slots] w (MadeMore wb p g b a0 z x1 base wb 0 bs1 root c [] [(-1, 8, slots, .slice none 0 0)] w) := by
  have hRC := fun (W : World) => rcnew_zero slots W
  obtain ⟨i0, hi, hz0, hz1, hz2⟩ := info_parts infoI64'
  have HI := Lib.hid hi
  have HZ := Lib.hid (And.intro hz0 (And.intro hz1 hz2))
  clear hi hz0 hz1 hz2
  obtain ⟨q0, q1, q2, q3, q4, y0, y1, y2, y3, y4, yl⟩ := five_cells hw
  have HH := Lib.hid (here_any b p g a0 z x bs w h)
  have hcn := fun W h => cnew_any b p g a0 z x bs root 0 slots W h h8 (by omega)
  rw [hc] at hcn
  have HS := Lib.hid h
  have HCN := Lib.hid hcn
  have HL := Lib.hid h.lt
  have HW := Lib.hid hw
  have HR := Lib.hid hRC
  clear hcn h hw hc hRC
  go_enter Try.func26, Try.ntmps26
  go_wp2_with (go_at_call 21; refine HH.out.mono ?_; rintro e w' ⟨rfl, h0⟩; obtain rfl := h0.symm)
  go_region_held3 (fun W => W.cell? ⟨wb, 1, none⟩ = some (.pointer (some ⟨b, 0, none⟩)) ∧ W.cell? ⟨wb, 2, none⟩ = some (.int .i64 root) ∧ Fr (fun j => j = b ∨ j = g) w W)
    ((go_split_ands; refine (fun hF => ⟨Fr.cell hF q1 (by dsimp only; omega), Fr.cell hF q2 (by dsimp only; omega), hF⟩ : Fr (fun j => j = b ∨ j = g) w _ → _) ?_; repeat' first | exact Fr.refl _ _ | assumption | apply Fr.drew | apply Fr.alloc))
    (first | (go_at_call 76; go_split_ands; refine (HCN.out _ (Sat.drew HS.out)).mono ?_; rintro e w1 ⟨rfl, hs, hf⟩; have hf1 := Fr.undrew hf) | fail)
  have S1 := Lib.hid hs
  have F1 := Lib.hid hf1
  have hw1 := hf1.obj HW.out (by omega)
  have hl1 := hf1.size
  obtain ⟨p0, p1, p2, p3, p4, z0, z1, z2, z3, z4, zl⟩ := five_cells hw1
  have HW1 := Lib.hid hw1
  clear hs hf hf1 hw1 q0 q1 q2 q3 q4 y0 y1 y2 y3 y4
  go_upto_region 8 with (fail)
  go_cut [] (fun wx => ∃ (gA' cA' gL' cL' : Nat), wx.heap[wb]? = some (.cells #[.pointer (some ⟨p, 0, none⟩), .pointer (some ⟨b, 0, none⟩), .int .i64 root, .slice (some ⟨gA', 0, none⟩) (0 + 1) cA', .slice (some ⟨gL', 0, none⟩) (0 + 1) cL'] 56 (0, 0)) ∧ gA' ≠ gL' ∧
    wx.ownsRow base 2 1 (.slice (some ⟨gA', 0, none⟩) (0 + 1) cA') (0 + 1) (([] ++ [c]).map (.int .i64)) ∧ wx.ownsRow base 90 4 (.slice (some ⟨gL', 0, none⟩) (0 + 1) cL') (0 + 1) (rows4 [(-1, 8, slots, .slice none 0 0)]) ∧ Fr (fun j => j = wb ∨ j = wb) w1 wx)
  case first =>
   go_region_law (first | (go_split_ands; refine step_append_own rfl (.tmp 84) (.tmp 86) 36 rfl base 2 i0 _ 1 8 Try.underlying36 HI.out HZ.out.1 HZ.out.2.1 HZ.out.2.2 rfl (by decide) (.slice none 0 0) 0 [] ?hs ?own ⟨w1.heap.size, 0, none⟩ 1 1 [.int .i64 c] ?hx (by rfl) ?news (by simp [Value.oneCell']) (by unfold maxLen; omega) (by omega) ?base ?_; (case hs => exact rfl); (case hx => exact rfl); (case own => exact World.ownsRow_nil _ _ _ _); (case news => exact cell_one_new' w1 _ _); (case base => (show base ≤ _; simp; omega)); intro vA wA hown hgrow; obtain ⟨gA', cA', rfl, hbA', hlA'⟩ := hown.form (by omega); have HVA := Lib.hid hown; have hFA : Fr (fun _ => False) w1 wA := Fr.grown (by repeat' first | exact Fr.refl _ _ | apply Fr.drew | apply Fr.alloc) hgrow (fun k hk => nomatch hk); obtain ⟨g0, g1, g2, g3, g4, f0, f1, f2, f3, f4, fl⟩ := five_cells (hFA.obj HW1.out id); have HFA := Lib.hid hFA; clear hown hgrow hFA) | (go_simp; go_at_call 78; refine (HR.out _).mono ?_; rintro e w2 ⟨vL, rfl, hoL2, hf2⟩; obtain ⟨gL', cL', rfl, hbL', hlL'⟩ := hoL2.form (by omega); have HVL := Lib.hid hoL2; obtain ⟨k0, k1, k2, k3, k4, j0, j1, j2, j3, j4, jl⟩ := five_cells (hf2.obj (HFA.out.obj HW1.out id) id); have HF2 := Lib.hid hf2; clear hoL2 hf2; go_wp2_with fail) | fail)
   all_goals
    go_wp2_with fail
    go_meet
    case rel => exact made_more0 HW1.out HFA.out HF2.out HVA.out HVL.out hbA' hlA' hbL' hlL' (by omega) (by have := HFA.out.size; omega)
  case rest =>
    obtain ⟨gA', cA', gL', cL', hob, hAL', hoA2, hoL2, hF⟩ := hcut
    obtain ⟨k0, k1, k2, k3, k4, _, _, _, _, _, _⟩ := five_cells hob
    have S2 := Lib.hid (S1.out.fr hF (by omega) (by omega) (by omega))
    have hIs := fun W h => is_any p g bs1 root c W h
    rw [hI] at hIs
    have HIS := Lib.hid hIs
    have HO := Lib.hid hob
    have HA2 := Lib.hid hoA2
    have HL2 := Lib.hid hoL2
    have F2 := Lib.hid ((Fr.some F1.out fun _ e => Or.inr (Or.inr e)).trans (Fr.some (T := fun j => j = wb ∨ j = wb ∨ (j = b ∨ j = g)) hF fun _ e => e.elim Or.inl fun e => Or.inr (Or.inl e)))
    clear hIs hob hoA2 hoL2 hF p0 p1 p2 p3 p4 z0 z1 z2 z3 z4
    go_wp2_with fail
    have hgt' : (x : Int) < c := hgt
    go_region_held3 (fun W => W.cell? ⟨wb, 0, none⟩ = some (.pointer (some ⟨p, 0, none⟩)) ∧ W.cell? ⟨wb, 2, none⟩ = some (.int .i64 root) ∧ Fr (fun _ => False) wc W)
      ((go_split_ands; refine (fun hF => ⟨Fr.cell hF k0 id, Fr.cell hF k2 id, hF⟩ : Fr (fun _ => False) wc _ → _) ?_; repeat' first | exact Fr.refl _ _ | assumption | apply Fr.drew | apply Fr.alloc))
      (first | (go_at_call 27; go_split_ands; refine (HIS.out _ (Mat.drew S2.out.mat)).mono ?_; rintro e w3 ⟨rfl, hf⟩; have hf3 := Fr.undrew hf) | fail)
    all_goals
      go_wp2_with fail
      go_ret
      exact ⟨rfl, ⟨gA', cA', gL', cL', hf3.obj HO.out id, hAL', hf3.owns HA2.out (fun _ _ => id), hf3.owns HL2.out (fun _ _ => id)⟩, S2.out.fr hf3 id id id, F2.out.trans (Fr.some hf3 fun _ e => e.elim)⟩
end Go.Proofs.Ytajeiccfgnpbpaa.Mem
