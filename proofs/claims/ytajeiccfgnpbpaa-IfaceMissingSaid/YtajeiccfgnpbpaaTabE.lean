/- Contracts of package table: Put. -/
import Derived.Test.YtajeiccfgnpbpaaTabD
namespace Go.Proofs.Ytajeiccfgnpbpaa.Mem
open Go.RowKit

theorem size_of_info {P : Program} {t : TypeId} {n : Nat} (hi : (P.types[t]?).map (·.size) = some n) : ∀ h : t < P.types.size, (P.types[t]'h).size = n := by
  intro h
  rw [Array.getElem?_eq_getElem h] at hi
  simpa using hi

theorem run_index3 (x0 x1 x2 : Value) (i : Nat) (hi : i < 3) (w : World) : (Instr.index 122 (.agg #[x0, x1, x2]) (.int .i64 (i : Int))).run Try.prog w = .ok (#[x0, x1, x2][i]'hi) w := by
  have hsz := size_of_info (P := Try.prog) (t := 2) (n := 1) (by kernel_rfl)
  simp [Instr.index, run_underlying Try.underlying122, go_sem]
  rw [if_pos hi, List.getElem?_eq_getElem (by simpa using hi)]
  rfl

set_option maxRecDepth 100000 in
set_option maxHeartbeats 4000000 in
theorem put_any (p g : Nat) (bs : List UInt8) (t : Int) (x : Ent) (w : World) (h : Mat 108 w p g bs) :
    Calls Try.prog 19 #[.pointer (some ⟨p, 0, none⟩), .int .i64 t, entv x] w fun e w' => e = .returned (.int .i64 (putc bs t x)) ∧ Mat 108 w' p g (putb bs t x) ∧ Only g w w' := by
  have HS := Lib.hid (fun w h => search_any p g bs t x.sel w h)
  have HN := Lib.hid (fun w h => slots_any p g bs t w h)
  have H := Lib.hid h
  have HH := Lib.hid (h.fr (Fr.alloc (S := fun _ => False) (Fr.refl _ w) (.cells #[.int .i64 x.sel, .int .i64 x.xt, .int .i64 x.cls] 38)) id id)
  have hpl := @search_place bs t x.sel
  have hbl := h.2.2.2
  unfold putc putb entv
  obtain ⟨x0, x1, x2⟩ := x
  dsimp only at *
  have i0 : ∀ w, (Instr.index 122 (.agg #[.int .i64 x0, .int .i64 x1, .int .i64 x2]) (.int .i64 0)).run Try.prog w = .ok (.int .i64 x0) w := fun w => run_index3 _ _ _ 0 (by decide) w
  have i1 : ∀ w, (Instr.index 122 (.agg #[.int .i64 x0, .int .i64 x1, .int .i64 x2]) (.int .i64 1)).run Try.prog w = .ok (.int .i64 x1) w := fun w => run_index3 _ _ _ 1 (by decide) w
  have i2 : ∀ w, (Instr.index 122 (.agg #[.int .i64 x0, .int .i64 x1, .int .i64 x2]) (.int .i64 2)).run Try.prog w = .ok (.int .i64 x2) w := fun w => run_index3 _ _ _ 2 (by decide) w
  by_cases h1 : x0 < 1
  · rw [if_pos (.inl h1), if_pos (.inl h1)]
    clear hpl h
    go_enter Try.func19, Try.ntmps19
    go_wp2
    go_ret
    exact ⟨rfl, HH.out, Fr.alloc (Fr.refl _ _) _⟩
  · obtain ⟨s, hs⟩ : ∃ s, slots bs t = s := ⟨_, rfl⟩
    rw [hs] at HN ⊢
    by_cases h2 : s = 0
    · subst h2
      rw [if_pos (.inr rfl), if_pos (.inr rfl)]
      clear hpl h hs
      go_enter Try.func19, Try.ntmps19
      go_wp2_with (go_at_call 50; refine (HN.out _ HH.out).mono ?_; rintro e w' ⟨rfl, h0⟩; obtain rfl := h0.symm)
      go_ret
      exact ⟨rfl, HH.out, Fr.alloc (Fr.refl _ _) _⟩
    · have hc : ¬ (x0 < 1 ∨ s = 0) := by omega
      rw [if_neg hc, if_neg hc]
      have h2' : (s == 0) = false := by simp [h2]
      obtain ⟨⟨a, fo, em, n⟩, hh⟩ : ∃ r, search bs t x0 = r := ⟨_, rfl⟩
      rw [hh] at HS hpl ⊢
      simp only [hitv] at HS hpl ⊢
      by_cases h3 : fo = false ∧ em = false
      · rw [if_pos h3, if_pos h3]
        obtain ⟨rfl, rfl⟩ := h3
        clear hpl h hs hh h2
        go_enter Try.func19, Try.ntmps19
        go_wp2_with (first | (go_at_call 50; refine (HN.out _ HH.out).mono ?_; rintro e w' ⟨rfl, h0⟩; obtain rfl := h0.symm) | (go_at_call 63; refine (HS.out _ HH.out).mono ?_; rintro e w1 ⟨rfl, hf⟩; have HF1 := Lib.hid ((Fr.alloc (S := fun _ => False) (Fr.refl _ _) _).trans hf); clear hf))
        go_ret
        exact ⟨rfl, H.out.fr (HF1.out.alloc _) id id, Fr.some (HF1.out.alloc _) fun _ e => e.elim⟩
      · rw [if_neg h3, if_neg h3]
        have hpb := hpl (by cases fo <;> cases em <;> simp at h3 ⊢)
        have HC := Lib.hid (fun cs a n w h => setCell_any p g cs a n w h)
        have HG := Lib.hid h.lt.2
        have hab : 0 ≤ a ∧ a ≤ 1048576 ∧ 0 ≤ t ∧ t ≤ 1048576 := by omega
        clear hpl h hs hh h2 hpb
        cases em with
        | false =>
          obtain rfl : fo = true := by cases fo <;> simp at h3 ⊢
          clear h3
          rw [if_neg (by decide)]
          go_enter Try.func19, Try.ntmps19
          go_wp2_with (first | (go_at_call 50; refine (HN.out _ HH.out).mono ?_; rintro e w' ⟨rfl, h0⟩; obtain rfl := h0.symm) | (go_at_call 63; refine (HS.out _ HH.out).mono ?_; rintro e w1 ⟨rfl, hf⟩; obtain ⟨q0, q1, q2, _, _, _, hl1⟩ := three_cells (hf.obj (heap_alloc_last _ _) id); have HF1 := Lib.hid ((Fr.alloc (S := fun _ => False) (Fr.refl _ _) _).trans hf); clear hf))
          have hW : ∀ wr, Only g (w1.alloc (.cells #[.int .i64 a, .bool true, .bool false, .int .i64 n] 120)) wr → wr.cell? ⟨w1.heap.size, 0, none⟩ = some (.int .i64 a) ∧ wr.cell? ⟨w1.heap.size, 2, none⟩ = some (.bool false) := fun wr hF => by
            have ho := hF.obj (heap_alloc_last w1 _) (by have := HG.out; omega)
            exact ⟨by rw [cell_of_row wr _ _ _ _ _ ho]; rfl, by rw [cell_of_row wr _ _ _ _ _ ho]; rfl⟩
          have HW := Lib.hid hW
          clear hW q0 q1 q2
          go_loopw [41] (fun iv wr => ∃ k : Nat, k ≤ 3 ∧ iv = .int .i64 k ∧ Mat 108 wr p g (put3 bs a ⟨x0, x1, x2⟩ k) ∧ Only g (w1.alloc (.cells #[.int .i64 a, .bool true, .bool false, .int .i64 n] 120)) wr) (fun iv _ => 3 - (intOf iv).toNat)
          case atStart => exact ⟨0, by omega, rfl, H.out.fr (HF1.out.alloc _) id id, Fr.refl _ _⟩
          case round =>
            obtain ⟨k, hk, hiv, hM, hF⟩ := hrel
            obtain ⟨k0, k2⟩ := HW.out _ hF
            have HM := Lib.hid hM
            have HF := Lib.hid hF
            clear hM hF
            rcases (by omega : k = 0 ∨ k = 1 ∨ k = 2 ∨ k = 3) with rfl | rfl | rfl | rfl
            · have hiv : u41 = .int .i64 0 := hiv
              subst hiv
              go_wp2_with (go_at_call 15; refine (HC.out _ _ _ _ HM.out).mono ?_; rintro e w2 ⟨rfl, hm, hf⟩; have HM2 := Lib.hid hm; have HF2 := Lib.hid hf; clear hm hf)
              go_roundw
              case rel => exact ⟨1, by omega, by go_num, HM2.out, HF.out.trans HF2.out⟩
              case measure => simp [intOf]
            · have hiv : u41 = .int .i64 1 := hiv
              subst hiv
              go_wp2_with (go_at_call 15; refine (HC.out _ _ _ _ HM.out).mono ?_; rintro e w2 ⟨rfl, hm, hf⟩; have HM2 := Lib.hid hm; have HF2 := Lib.hid hf; clear hm hf)
              go_roundw
              case rel => exact ⟨2, by omega, by go_num, HM2.out, HF.out.trans HF2.out⟩
              case measure => simp [intOf]
            · have hiv : u41 = .int .i64 2 := hiv
              subst hiv
              go_wp2_with (go_at_call 15; refine (HC.out _ _ _ _ HM.out).mono ?_; rintro e w2 ⟨rfl, hm, hf⟩; have HM2 := Lib.hid hm; have HF2 := Lib.hid hf; clear hm hf)
              go_roundw
              case rel => exact ⟨3, by omega, by go_num, HM2.out, HF.out.trans HF2.out⟩
              case measure => simp [intOf]
            · have hiv : u41 = .int .i64 3 := hiv
              subst hiv
              go_wp2
              go_ret
              exact ⟨rfl, HM.out, Fr.trans (Fr.some (HF1.out.alloc _) fun _ e => e.elim) HF.out⟩
        | true =>
          rw [if_pos rfl]
          clear h3
          obtain ⟨c, hc2⟩ : ∃ c, cell (put3 bs a ⟨x0, x1, x2⟩ 3) (t + 8) = c := ⟨_, rfl⟩
          have HG2 := Lib.hid (fun w h => cell_any p g (put3 bs a ⟨x0, x1, x2⟩ 3) (t + 8) w h)
          rw [hc2] at HG2 ⊢
          clear hc2
          cases fo
          · go_enter Try.func19, Try.ntmps19
            go_wp2_with (first | (go_at_call 50; refine (HN.out _ HH.out).mono ?_; rintro e w' ⟨rfl, h0⟩; obtain rfl := h0.symm) | (go_at_call 63; refine (HS.out _ HH.out).mono ?_; rintro e w1 ⟨rfl, hf⟩; obtain ⟨q0, q1, q2, _, _, _, hl1⟩ := three_cells (hf.obj (heap_alloc_last _ _) id); have HF1 := Lib.hid ((Fr.alloc (S := fun _ => False) (Fr.refl _ _) _).trans hf); clear hf))
            have hW : ∀ wr, Only g (w1.alloc (.cells #[.int .i64 a, .bool false, .bool true, .int .i64 n] 120)) wr → wr.cell? ⟨w1.heap.size, 0, none⟩ = some (.int .i64 a) ∧ wr.cell? ⟨w1.heap.size, 2, none⟩ = some (.bool true) := fun wr hF => by
              have ho := hF.obj (heap_alloc_last w1 _) (by have := HG.out; omega)
              exact ⟨by rw [cell_of_row wr _ _ _ _ _ ho]; rfl, by rw [cell_of_row wr _ _ _ _ _ ho]; rfl⟩
            have HW := Lib.hid hW
            clear hW q0 q1 q2
            go_loopw [41] (fun iv wr => ∃ k : Nat, k ≤ 3 ∧ iv = .int .i64 k ∧ Mat 108 wr p g (put3 bs a ⟨x0, x1, x2⟩ k) ∧ Only g (w1.alloc (.cells #[.int .i64 a, .bool false, .bool true, .int .i64 n] 120)) wr) (fun iv _ => 3 - (intOf iv).toNat)
            case atStart => exact ⟨0, by omega, rfl, H.out.fr (HF1.out.alloc _) id id, Fr.refl _ _⟩
            case round =>
              obtain ⟨k, hk, hiv, hM, hF⟩ := hrel
              obtain ⟨k0, k2⟩ := HW.out _ hF
              have HM := Lib.hid hM
              have HF := Lib.hid hF
              clear hM hF
              rcases (by omega : k = 0 ∨ k = 1 ∨ k = 2 ∨ k = 3) with rfl | rfl | rfl | rfl
              · have hiv : u41 = .int .i64 0 := hiv
                subst hiv
                go_wp2_with (go_at_call 15; refine (HC.out _ _ _ _ HM.out).mono ?_; rintro e w2 ⟨rfl, hm, hf⟩; have HM2 := Lib.hid hm; have HF2 := Lib.hid hf; clear hm hf)
                go_roundw
                case rel => exact ⟨1, by omega, by go_num, HM2.out, HF.out.trans HF2.out⟩
                case measure => simp [intOf]
              · have hiv : u41 = .int .i64 1 := hiv
                subst hiv
                go_wp2_with (go_at_call 15; refine (HC.out _ _ _ _ HM.out).mono ?_; rintro e w2 ⟨rfl, hm, hf⟩; have HM2 := Lib.hid hm; have HF2 := Lib.hid hf; clear hm hf)
                go_roundw
                case rel => exact ⟨2, by omega, by go_num, HM2.out, HF.out.trans HF2.out⟩
                case measure => simp [intOf]
              · have hiv : u41 = .int .i64 2 := hiv
                subst hiv
                go_wp2_with (go_at_call 15; refine (HC.out _ _ _ _ HM.out).mono ?_; rintro e w2 ⟨rfl, hm, hf⟩; have HM2 := Lib.hid hm; have HF2 := Lib.hid hf; clear hm hf)
                go_roundw
                case rel => exact ⟨3, by omega, by go_num, HM2.out, HF.out.trans HF2.out⟩
                case measure => simp [intOf]
              · have hiv : u41 = .int .i64 3 := hiv
                subst hiv
                go_wp2_with (first | (go_at_call 46; refine (HG2.out _ HM.out).mono ?_; rintro e w' ⟨rfl, h0⟩; obtain rfl := h0.symm) | (go_at_call 15; refine (HC.out _ _ _ _ HM.out).mono ?_; rintro e w2 ⟨rfl, hm, hf⟩; have HM2 := Lib.hid hm; have HF2 := Lib.hid hf; clear hm hf))
                go_ret
                exact ⟨rfl, HM2.out, Fr.trans (Fr.some (HF1.out.alloc _) fun _ e => e.elim) (HF.out.trans HF2.out)⟩
          · go_enter Try.func19, Try.ntmps19
            go_wp2_with (first | (go_at_call 50; refine (HN.out _ HH.out).mono ?_; rintro e w' ⟨rfl, h0⟩; obtain rfl := h0.symm) | (go_at_call 63; refine (HS.out _ HH.out).mono ?_; rintro e w1 ⟨rfl, hf⟩; obtain ⟨q0, q1, q2, _, _, _, hl1⟩ := three_cells (hf.obj (heap_alloc_last _ _) id); have HF1 := Lib.hid ((Fr.alloc (S := fun _ => False) (Fr.refl _ _) _).trans hf); clear hf))
            have hW : ∀ wr, Only g (w1.alloc (.cells #[.int .i64 a, .bool true, .bool true, .int .i64 n] 120)) wr → wr.cell? ⟨w1.heap.size, 0, none⟩ = some (.int .i64 a) ∧ wr.cell? ⟨w1.heap.size, 2, none⟩ = some (.bool true) := fun wr hF => by
              have ho := hF.obj (heap_alloc_last w1 _) (by have := HG.out; omega)
              exact ⟨by rw [cell_of_row wr _ _ _ _ _ ho]; rfl, by rw [cell_of_row wr _ _ _ _ _ ho]; rfl⟩
            have HW := Lib.hid hW
            clear hW q0 q1 q2
            go_loopw [41] (fun iv wr => ∃ k : Nat, k ≤ 3 ∧ iv = .int .i64 k ∧ Mat 108 wr p g (put3 bs a ⟨x0, x1, x2⟩ k) ∧ Only g (w1.alloc (.cells #[.int .i64 a, .bool true, .bool true, .int .i64 n] 120)) wr) (fun iv _ => 3 - (intOf iv).toNat)
            case atStart => exact ⟨0, by omega, rfl, H.out.fr (HF1.out.alloc _) id id, Fr.refl _ _⟩
            case round =>
              obtain ⟨k, hk, hiv, hM, hF⟩ := hrel
              obtain ⟨k0, k2⟩ := HW.out _ hF
              have HM := Lib.hid hM
              have HF := Lib.hid hF
              clear hM hF
              rcases (by omega : k = 0 ∨ k = 1 ∨ k = 2 ∨ k = 3) with rfl | rfl | rfl | rfl
              · have hiv : u41 = .int .i64 0 := hiv
                subst hiv
                go_wp2_with (go_at_call 15; refine (HC.out _ _ _ _ HM.out).mono ?_; rintro e w2 ⟨rfl, hm, hf⟩; have HM2 := Lib.hid hm; have HF2 := Lib.hid hf; clear hm hf)
                go_roundw
                case rel => exact ⟨1, by omega, by go_num, HM2.out, HF.out.trans HF2.out⟩
                case measure => simp [intOf]
              · have hiv : u41 = .int .i64 1 := hiv
                subst hiv
                go_wp2_with (go_at_call 15; refine (HC.out _ _ _ _ HM.out).mono ?_; rintro e w2 ⟨rfl, hm, hf⟩; have HM2 := Lib.hid hm; have HF2 := Lib.hid hf; clear hm hf)
                go_roundw
                case rel => exact ⟨2, by omega, by go_num, HM2.out, HF.out.trans HF2.out⟩
                case measure => simp [intOf]
              · have hiv : u41 = .int .i64 2 := hiv
                subst hiv
                go_wp2_with (go_at_call 15; refine (HC.out _ _ _ _ HM.out).mono ?_; rintro e w2 ⟨rfl, hm, hf⟩; have HM2 := Lib.hid hm; have HF2 := Lib.hid hf; clear hm hf)
                go_roundw
                case rel => exact ⟨3, by omega, by go_num, HM2.out, HF.out.trans HF2.out⟩
                case measure => simp [intOf]
              · have hiv : u41 = .int .i64 3 := hiv
                subst hiv
                go_wp2_with (first | (go_at_call 46; refine (HG2.out _ HM.out).mono ?_; rintro e w' ⟨rfl, h0⟩; obtain rfl := h0.symm) | (go_at_call 15; refine (HC.out _ _ _ _ HM.out).mono ?_; rintro e w2 ⟨rfl, hm, hf⟩; have HM2 := Lib.hid hm; have HF2 := Lib.hid hf; clear hm hf))
                go_ret
                exact ⟨rfl, HM2.out, Fr.trans (Fr.some (HF1.out.alloc _) fun _ e => e.elim) (HF.out.trans HF2.out)⟩
end Go.Proofs.Ytajeiccfgnpbpaa.Mem
