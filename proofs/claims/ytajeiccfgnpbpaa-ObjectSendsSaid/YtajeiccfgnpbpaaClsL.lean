/- Contracts: World.Make behind some classes. -/
import Derived.Test.YtajeiccfgnpbpaaClsK
set_option linter.unusedSimpArgs false
set_option linter.unusedVariables false

namespace Go.Proofs.Ytajeiccfgnpbpaa.Mem
open Go.RowKit

theorem own_blk {g n c k : Nat} (hk : (Value.slice (some ⟨g, 0, none⟩) n c).ownBlock = some k) : k = g := by
  simp only [Value.ownBlock, Option.some.injEq] at hk
  exact hk.symm

/-- What Make leaves: one more class, at c. -/
def MadeMore (wb p g b a0 z x1 base gA n : Nat) (bs1 : List UInt8) (root c : Int) (ats : List Int) (L' : List Row4) (w : World) (e : Ending) (w' : World) : Prop :=
  e = .returned (.bool true) ∧ (∃ (gA' cA' gL' cL' : Nat), w'.heap[wb]? = some (.cells #[.pointer (some ⟨p, 0, none⟩), .pointer (some ⟨b, 0, none⟩), .int .i64 root, .slice (some ⟨gA', 0, none⟩) (n + 1) cA', .slice (some ⟨gL', 0, none⟩) (n + 1) cL'] 56 (0, 0)) ∧ gA' ≠ gL' ∧
    w'.ownsRow base 2 1 (.slice (some ⟨gA', 0, none⟩) (n + 1) cA') (n + 1) ((ats ++ [c]).map (.int .i64)) ∧ w'.ownsRow base 90 4 (.slice (some ⟨gL', 0, none⟩) (n + 1) cL') (n + 1) (rows4 L')) ∧
  Sat w' b p g a0 z x1 bs1 ∧ Fr (fun j => j = wb ∨ j = gA ∨ (j = b ∨ j = g)) w w'

theorem made_more {w1 wA w2 : World} {wb p b base gA gA' cA' gL' cL' n : Nat} {root c : Int} {ats : List Int} {L' : List Row4} {v3 v4 : Value} {t : TypeId} (hw : w1.heap[wb]? = some (.cells #[.pointer (some ⟨p, 0, none⟩), .pointer (some ⟨b, 0, none⟩), .int .i64 root, v3, v4] t (0, 0)))
    (hA : Fr (fun j => j = gA) w1 wA) (h2 : Fr (fun _ => False) wA w2) (hoA : wA.ownsRow base 2 1 (.slice (some ⟨gA', 0, none⟩) (n + 1) cA') (n + 1) (ats.map (.int .i64) ++ [.int .i64 c])) (hoL : w2.ownsRow wA.heap.size 90 4 (.slice (some ⟨gL', 0, none⟩) (n + 1) cL') (n + 1) (rows4 L'))
    (hwb : wb ≠ gA) (hb1 : base ≤ gA') (hl1 : gA' < wA.heap.size) (hb2 : wA.heap.size ≤ gL') (hl2 : gL' < w2.heap.size) (hwbb : wb < base) (hbw : base ≤ wA.heap.size) :
    ∃ (gA'' cA'' gL'' cL'' : Nat), ((w2.setCell ⟨wb, 3, none⟩ (.slice (some ⟨gA', 0, none⟩) (n + 1) cA')).setCell ⟨wb, 4, none⟩ (.slice (some ⟨gL', 0, none⟩) (n + 1) cL')).heap[wb]? = some (.cells #[.pointer (some ⟨p, 0, none⟩), .pointer (some ⟨b, 0, none⟩), .int .i64 root, .slice (some ⟨gA'', 0, none⟩) (n + 1) cA'', .slice (some ⟨gL'', 0, none⟩) (n + 1) cL''] t (0, 0)) ∧ gA'' ≠ gL'' ∧
      ((w2.setCell ⟨wb, 3, none⟩ (.slice (some ⟨gA', 0, none⟩) (n + 1) cA')).setCell ⟨wb, 4, none⟩ (.slice (some ⟨gL', 0, none⟩) (n + 1) cL')).ownsRow base 2 1 (.slice (some ⟨gA'', 0, none⟩) (n + 1) cA'') (n + 1) ((ats ++ [c]).map (.int .i64)) ∧
      ((w2.setCell ⟨wb, 3, none⟩ (.slice (some ⟨gA', 0, none⟩) (n + 1) cA')).setCell ⟨wb, 4, none⟩ (.slice (some ⟨gL', 0, none⟩) (n + 1) cL')).ownsRow base 90 4 (.slice (some ⟨gL'', 0, none⟩) (n + 1) cL'') (n + 1) (rows4 L') ∧
      Fr (fun j => j = wb ∨ j = gA) w1 ((w2.setCell ⟨wb, 3, none⟩ (.slice (some ⟨gA', 0, none⟩) (n + 1) cA')).setCell ⟨wb, 4, none⟩ (.slice (some ⟨gL', 0, none⟩) (n + 1) cL')) := by
  have h2w := h2.obj (hA.obj hw hwb) id
  have FS : Fr (fun j => j = wb) w2 ((w2.setCell ⟨wb, 3, none⟩ (.slice (some ⟨gA', 0, none⟩) (n + 1) cA')).setCell ⟨wb, 4, none⟩ (.slice (some ⟨gL', 0, none⟩) (n + 1) cL')) := Fr.setOne (p := wb) (Fr.setOne (p := wb) (Fr.refl _ _) _ _) _ _
  refine ⟨gA', cA', gL', cL', ?_, by omega, ?_, ?_, ?_⟩
  · have h3 := heap_setCell_same w2 wb 3 _ _ (.slice (some ⟨gA', 0, none⟩) (n + 1) cA') h2w
    have h4 := heap_setCell_same _ wb 4 _ _ (.slice (some ⟨gL', 0, none⟩) (n + 1) cL') h3
    rw [h4]
    rfl
  · rw [List.map_append]
    exact FS.owns (h2.owns hoA (fun _ _ => id)) (fun k hk (e : k = wb) => by have := own_blk hk; omega)
  · exact FS.owns (owns_mono hoL hbw) (fun k hk (e : k = wb) => by have := own_blk hk; omega)
  · exact ((Fr.some hA fun _ e => .inr e).trans (Fr.some h2 fun _ e => e.elim)).trans (Fr.some FS fun _ e => .inl e)

set_option maxRecDepth 100000 in
set_option maxHeartbeats 4000000 in
theorem wmake_no {a0 : Nat} (slots par : Int) (wb p g b z x x1 base gA gL cA cL n : Nat) (bs bs1 : List UInt8) (root c : Int) (ats : List Int) (L : List Row4) (w : World)
    (hw : w.heap[wb]? = some (.cells #[.pointer (some ⟨p, 0, none⟩), .pointer (some ⟨b, 0, none⟩), .int .i64 root, .slice (some ⟨gA, 0, none⟩) n cA, .slice (some ⟨gL, 0, none⟩) n cL] 56 (0, 0)))
    (hoA : w.ownsRow base 2 1 (.slice (some ⟨gA, 0, none⟩) n cA) n (ats.map (.int .i64))) (hoL : w.ownsRow base 90 4 (.slice (some ⟨gL, 0, none⟩) n cL) n (rows4 L)) (hAL : gA ≠ gL) (h1 : ∀ r ∈ L, r.2.2.2.oneCell' = true) (hn : n ≤ 64) (hn0 : 0 < n)
    (h : Sat w b p g a0 z x bs) (h8 : x % 8 = 0) (hd : wb ≠ b ∧ wb ≠ p ∧ wb ≠ g) (hb : wb < base ∧ b < base ∧ p < base ∧ g < base) (hpar : (n : Int) ≤ par)
    (hc : cnewv z x bs root 0 slots = ((c, 0), x1, bs1)) (hI : isIn bs1 root c = true) (hgt : (x : Int) < c) :
    Calls Try.prog 26 #[.pointer (some ⟨wb, 0, none⟩), .int .i64 par, .int .i64 slots] w (MadeMore wb p g b a0 z x1 base gA n bs1 root c ats (L ++ [(-1, 8, slots, .slice none 0 0)]) w) := by
  have hnlt : ¬ (par < (n : Int)) := by omega
  have hRC := fun (W : World) (ho : W.ownsRow base 90 4 (.slice (some ⟨gL, 0, none⟩) n cL) n (rows4 L)) => rcnew_row slots base gL n cL L W ho h1 hn
  obtain ⟨i0, hi, hz0, hz1, hz2⟩ := info_parts infoI64'
  have HI := Lib.hid hi
  have HZ := Lib.hid (And.intro hz0 (And.intro hz1 hz2))
  clear hi hz0 hz1 hz2
  obtain ⟨q0, q1, q2, q3, q4, y0, y1, y2, y3, y4, yl⟩ := five_cells hw
  have HH := Lib.hid (here_any b p g a0 z x bs w h)
  have hcn := fun W h => cnew_any b p g a0 z x bs root 0 slots W h h8 (by omega)
  rw [hc] at hcn
  have hbw : base ≤ w.heap.size := by
    have h2 := (hoA.lt gA rfl)
    omega
  have hlen := owns_length hoA
  have HS := Lib.hid h
  have HCN := Lib.hid hcn
  have HL := Lib.hid h.lt
  have HW := Lib.hid hw
  have HA := Lib.hid hoA
  have HOL := Lib.hid hoL
  have HR := Lib.hid hRC
  have hbg : base ≤ gA := (hoA.lt gA rfl).1
  have hbgL : base ≤ gL := (hoL.lt gL rfl).1
  clear hcn h hw hc hoA hoL hRC h1
  go_enter Try.func26, Try.ntmps26
  go_wp2_with (go_at_call 21; refine HH.out.mono ?_; rintro e w' ⟨rfl, h0⟩; obtain rfl := h0.symm)
  go_region_held3 (fun W => W.cell? ⟨wb, 1, none⟩ = some (.pointer (some ⟨b, 0, none⟩)) ∧ W.cell? ⟨wb, 2, none⟩ = some (.int .i64 root) ∧ Fr (fun j => j = b ∨ j = g) w W)
    ((go_split_ands; refine (fun hF => ⟨Fr.cell hF q1 (by dsimp only; omega), Fr.cell hF q2 (by dsimp only; omega), hF⟩ : Fr (fun j => j = b ∨ j = g) w _ → _) ?_; repeat' first | exact Fr.refl _ _ | assumption | apply Fr.drew | apply Fr.alloc))
    (first | (go_at_call 76; go_split_ands; refine (HCN.out _ (Sat.drew HS.out)).mono ?_; rintro e w1 ⟨rfl, hs, hf⟩; have hf1 := Fr.undrew hf) | fail)
  have S1 := Lib.hid hs
  have F1 := Lib.hid hf1
  have hw1 := hf1.obj HW.out (by omega)
  have hl1 := hf1.size
  have hgA1 : w1.ownsRow base 2 1 (.slice (some ⟨gA, 0, none⟩) n cA) n (ats.map (.int .i64)) := hf1.owns HA.out (fun k hk (e : k = b ∨ k = g) => by have := own_blk hk; omega)
  have hgL1 : w1.ownsRow base 90 4 (.slice (some ⟨gL, 0, none⟩) n cL) n (rows4 L) := hf1.owns HOL.out (fun k hk (e : k = b ∨ k = g) => by have := own_blk hk; omega)
  obtain ⟨p0, p1, p2, p3, p4, z0, z1, z2, z3, z4, zl⟩ := five_cells hw1
  have HW1 := Lib.hid hw1
  have HA1 := Lib.hid hgA1
  have HL1 := Lib.hid hgL1
  have hgAlt := (hgA1.lt gA rfl).2
  clear hs hf hf1 hw1 hgA1 hgL1 q0 q1 q2 q3 q4 y0 y1 y2 y3 y4
  go_upto_region 8 with (fail)
  go_cut [] (fun wx => ∃ (gA' cA' gL' cL' : Nat), wx.heap[wb]? = some (.cells #[.pointer (some ⟨p, 0, none⟩), .pointer (some ⟨b, 0, none⟩), .int .i64 root, .slice (some ⟨gA', 0, none⟩) (n + 1) cA', .slice (some ⟨gL', 0, none⟩) (n + 1) cL'] 56 (0, 0)) ∧ gA' ≠ gL' ∧
    wx.ownsRow base 2 1 (.slice (some ⟨gA', 0, none⟩) (n + 1) cA') (n + 1) ((ats ++ [c]).map (.int .i64)) ∧ wx.ownsRow base 90 4 (.slice (some ⟨gL', 0, none⟩) (n + 1) cL') (n + 1) (rows4 (L ++ [(-1, 8, slots, .slice none 0 0)])) ∧ Fr (fun j => j = wb ∨ j = gA) w1 wx)
  case first =>
   go_region_law (first | (go_split_ands; refine step_append_own rfl (.tmp 84) (.tmp 86) 36 rfl base 2 i0 _ 1 8 Try.underlying36 HI.out HZ.out.1 HZ.out.2.1 HZ.out.2.2 rfl (by decide) (.slice (some ⟨gA, 0, none⟩) n cA) n (ats.map (.int .i64)) ?hs ?own ⟨w1.heap.size, 0, none⟩ 1 1 [.int .i64 c] ?hx (by rfl) ?news (by simp [Value.oneCell']) (by unfold maxLen; omega) (by omega) ?base ?_; (case hs => exact rfl); (case hx => exact rfl); (case own => exact HA1.out.alloc _); (case news => exact cell_one_new' w1 _ _); (case base => (show base ≤ _; simp; omega)); intro vA wA hown hgrow; obtain ⟨gA', cA', rfl, hbA', hlA'⟩ := hown.form (by omega); have HVA := Lib.hid hown; have hFA : Fr (fun j => j = gA) w1 wA := Fr.grown (by repeat' first | exact Fr.refl _ _ | apply Fr.drew | apply Fr.alloc) hgrow (fun k hk => .inr (own_blk hk)); obtain ⟨g0, g1, g2, g3, g4, f0, f1, f2, f3, f4, fl⟩ := five_cells (hFA.obj HW1.out (by omega)); have HFA := Lib.hid hFA; clear hown hgrow hFA) | (go_simp; go_at_call 78; refine (HR.out _ (HFA.out.owns HL1.out (fun k hk (e : k = gA) => by have := own_blk hk; omega))).mono ?_; rintro e w2 ⟨vL, rfl, hoL2, hf2⟩; obtain ⟨gL', cL', rfl, hbL', hlL'⟩ := hoL2.form (by omega); have HVL := Lib.hid hoL2; obtain ⟨k0, k1, k2, k3, k4, j0, j1, j2, j3, j4, jl⟩ := five_cells (hf2.obj (HFA.out.obj HW1.out (by omega)) id); have HF2 := Lib.hid hf2; clear hoL2 hf2; go_wp2_with fail) | fail)
   all_goals
    go_wp2_with fail
    go_meet
    case rel => exact made_more HW1.out HFA.out HF2.out HVA.out HVL.out (by omega) hbA' hlA' hbL' hlL' (by omega) (by have := HFA.out.size; omega)
  case rest =>
    obtain ⟨gA', cA', gL', cL', hob, hAL', hoA2, hoL2, hF⟩ := hcut
    obtain ⟨k0, k1, k2, k3, k4, _, _, _, _, _, _⟩ := five_cells hob
    have S2 := Lib.hid (S1.out.fr hF (by omega) (by omega) (by omega))
    have hIs := fun W h => is_any p g bs1 root c W h
    rw [hI] at hIs
    have HIS := Lib.hid hIs
    have HO := Lib.hid hob
    have HA2 := Lib.hid hoA2
    have HL2 := Lib.hid hoL2
    have F2 := Lib.hid ((Fr.some F1.out fun _ e => Or.inr (Or.inr e)).trans (Fr.some (T := fun j => j = wb ∨ j = gA ∨ (j = b ∨ j = g)) hF fun _ e => e.elim Or.inl fun e => Or.inr (Or.inl e)))
    clear hIs hob hoA2 hoL2 hF p0 p1 p2 p3 p4 z0 z1 z2 z3 z4
    go_wp2_with fail
    have hgt' : (x : Int) < c := hgt
    go_region_held3 (fun W => W.cell? ⟨wb, 0, none⟩ = some (.pointer (some ⟨p, 0, none⟩)) ∧ W.cell? ⟨wb, 2, none⟩ = some (.int .i64 root) ∧ Fr (fun _ => False) wc W)
      ((go_split_ands; refine (fun hF => ⟨Fr.cell hF k0 id, Fr.cell hF k2 id, hF⟩ : Fr (fun _ => False) wc _ → _) ?_; repeat' first | exact Fr.refl _ _ | assumption | apply Fr.drew | apply Fr.alloc))
      (first | (go_at_call 27; go_split_ands; refine (HIS.out _ (Mat.drew S2.out.mat)).mono ?_; rintro e w3 ⟨rfl, hf⟩; have hf3 := Fr.undrew hf) | fail)
    all_goals
      go_wp2_with fail
      go_ret
      exact ⟨rfl, ⟨gA', cA', gL', cL', hf3.obj HO.out id, hAL', hf3.owns HA2.out (fun _ _ => id), hf3.owns HL2.out (fun _ _ => id)⟩, S2.out.fr hf3 id id id, F2.out.trans (Fr.some hf3 fun _ e => e.elim)⟩
end Go.Proofs.Ytajeiccfgnpbpaa.Mem
