/- Contracts of the document's answers for tables: Put. -/
import Derived.Test.YtajeiccfgnpbpaaRefF
namespace Go.Proofs.Ytajeiccfgnpbpaa.Mem
open Go.RowKit

set_option maxRecDepth 100000 in
set_option maxHeartbeats 4000000 in
theorem rput_any (p g : Nat) (bs : List UInt8) (t : Int) (x : Ent) (w : World) (h : Mat 112 w p g bs) :
    Calls Try.prog 20 #[.pointer (some ⟨p, 0, none⟩), .int .i64 t, entv x] w fun e w' => e = .returned (.int .i64 (putc bs t x)) ∧ Mat 112 w' p g (putb bs t x) ∧ Only g w w' := by
  rw [← putl_eq, putc_look]
  have HL := Lib.hid (fun w h => look_any p g bs t x.sel w h)
  have HN := Lib.hid (fun w h => rslots_any p g bs t w h)
  have HR := fun i w h hi => rread_any p g bs t i w h hi
  have H := Lib.hid h
  have HH := Lib.hid (h.fr (Fr.alloc (S := fun _ => False) (Fr.refl _ w) (.cells #[.int .i64 x.sel, .int .i64 x.xt, .int .i64 x.cls] 48)) id id)
  have hst := @look_stops bs t x.sel
  have hin := @slots_in bs t
  have hbl := h.2.2.2
  have hsb := slots_bd bs t
  unfold putl entv
  obtain ⟨x0, x1, x2⟩ := x
  dsimp only at *
  have hw0 := heap_alloc_last w (.cells #[.int .i64 x0, .int .i64 x1, .int .i64 x2] 48)
  have HW0 := Lib.hid hw0
  have HG := Lib.hid h.lt
  clear hw0
  by_cases h1 : x0 < 1
  · rw [if_pos (.inl h1), if_pos (.inl h1)]
    clear h hst hin hbl hsb HR
    go_enter Try.func20, Try.ntmps20
    go_wp2
    go_ret
    exact ⟨rfl, HH.out, Fr.alloc (Fr.refl _ _) _⟩
  · obtain ⟨s, hs⟩ : ∃ s, slots bs t = s := ⟨_, rfl⟩
    rw [hs] at HN hst hin hsb ⊢
    by_cases h2 : s = 0
    · subst h2
      rw [if_pos (.inr rfl), if_pos (.inr rfl)]
      clear h hs hst hin hbl hsb HR
      go_enter Try.func20, Try.ntmps20
      go_wp2_with (go_at_call 54; refine (HN.out _ HH.out).mono ?_; rintro e w' ⟨rfl, h0⟩; obtain rfl := h0.symm)
      go_ret
      exact ⟨rfl, HH.out, Fr.alloc (Fr.refl _ _) _⟩
    · have hc : ¬ (x0 < 1 ∨ s = 0) := by omega
      rw [if_neg hc, if_neg hc]
      have h2' : (s == 0) = false := by simp [h2]
      obtain ⟨⟨k, n⟩, hk⟩ : ∃ r, look bs t x0 = r := ⟨_, rfl⟩
      rw [hk] at HL hst ⊢
      dsimp only at *
      by_cases h3 : k < 0
      · rw [if_pos h3, if_pos h3]
        clear h hst hin hbl hsb HR hs hk h2 hc
        go_enter Try.func20, Try.ntmps20
        go_wp2_with (first | (go_at_call 54; refine (HN.out _ HH.out).mono ?_; rintro e w' ⟨rfl, h0⟩; obtain rfl := h0.symm) | (go_at_call 64; refine (HL.out _ HH.out).mono ?_; rintro e w1 ⟨rfl, hf⟩; have HF1 := Lib.hid ((Fr.alloc (S := fun _ => False) (Fr.refl _ _) _).trans hf); clear hf))
        go_ret
        exact ⟨rfl, H.out.fr HF1.out id id, Fr.some HF1.out fun _ e => e.elim⟩
      · rw [if_neg h3, if_neg h3]
        obtain ⟨_, hks, _⟩ := hst (by omega)
        obtain ⟨ht0, ht8, htl, _⟩ := hin h2
        have hsl : slotAt t k = t + 16 + 24 * k := by unfold slotAt; omega
        have HR2 := Lib.hid (fun w h => HR k w h (by omega))
        have HC := Lib.hid (fun cs a n w h => rsetCell_any p g cs a n w h)
        rw [hsl] at HR2 ⊢
        obtain ⟨⟨r0, r1, r2⟩, hr⟩ : ∃ r, read bs (t + 16 + 24 * k) = r := ⟨_, rfl⟩
        rw [hr] at HR2 ⊢
        simp only [entv] at HR2 ⊢
        have hbd : 0 ≤ t ∧ t ≤ 1048576 ∧ 0 ≤ k ∧ k ≤ 1048576 := by omega
        have hts : t + 16 + 24 * k + 24 ≤ bs.length := by omega
        have hbd2 : 16 ≤ t + 16 + 24 * k ∧ t + 16 + 24 * k ≤ 1048576 := by omega
        have HG8 := Lib.hid (fun w h => rcell_any p g bs (t + 8) w h)
        obtain ⟨⟨c, d⟩, hc8⟩ : ∃ c, cell bs (t + 8) = c := ⟨_, rfl⟩
        rw [hc8] at HG8 ⊢
        simp only [put3]
        clear h hst hin hbl hsb HR hs hk h2 hc hsl hr hks ht0 ht8 htl hts hc8
        by_cases hz : r0 = 0
        · subst hz
          rw [if_pos rfl]
          go_enter Try.func20, Try.ntmps20
          go_wp2_with (first | (go_at_call 54; refine (HN.out _ HH.out).mono ?_; rintro e w' ⟨rfl, h0⟩; obtain rfl := h0.symm) | (go_at_call 64; refine (HL.out _ HH.out).mono ?_; rintro e w1 ⟨rfl, hf⟩; have HO1 := Lib.hid (hf.obj HW0.out id); have HF1 := Lib.hid ((Fr.alloc (S := fun _ => False) (Fr.refl _ _) _).trans hf); clear hf) | (go_at_call 65; refine (HR2.out _ (H.out.fr HF1.out id id)).mono ?_; rintro e w2 ⟨rfl, hf⟩; have hob := hf.obj HO1.out id; obtain ⟨y0, y1, y2, _, _, _, hlt⟩ := three_cells hob; have HO2 := Lib.hid hob; have HF2 := Lib.hid (HF1.out.trans hf); clear hf hob) | (go_at_call 66; refine (HG8.out _ (H.out.fr (HF2.out.alloc _) id id)).mono ?_; rintro e w' ⟨rfl, h0⟩; obtain rfl := h0.symm))
          have hO3 := (Below.heap_alloc w2 (.cells #[.int .i64 0, .int .i64 r1, .int .i64 r2] 48) _ (three_cells HO2.out).2.2.2.2.2.2).trans HO2.out
          have HM3 := Lib.hid (H.out.fr (HF2.out.alloc (.cells #[.int .i64 0, .int .i64 r1, .int .i64 r2] 48)) id id)
          have HF3 := Lib.hid (Fr.some (T := fun j => j = g) (HF2.out.alloc (.cells #[.int .i64 0, .int .i64 r1, .int .i64 r2] 48)) fun _ e => e.elim)
          have HNE := Lib.hid (show w.heap.size ≠ g by have := HG.out.2; omega)
          refine (HC.out _ _ _ _ HM3.out).mono ?_
          rintro e w4 ⟨rfl, hm, hf⟩
          have HM4 := Lib.hid hm
          have HF4 := Lib.hid (HF3.out.trans hf)
          have hO4 := hf.obj hO3 HNE.out
          obtain ⟨u0, u1, u2, _, _, _, ult⟩ := three_cells hO4
          have HO4 := Lib.hid hO4
          clear hm hf hO3 hO4
          go_wp2_with fail
          have hO4 := HO4.out
          clear u0 u1 u2 ult
          refine (HC.out _ _ _ _ HM4.out).mono ?_
          rintro e w5 ⟨rfl, hm, hf⟩
          have HM5 := Lib.hid hm
          have HF5 := Lib.hid (HF4.out.trans hf)
          have hO5 := hf.obj hO4 HNE.out
          obtain ⟨u0, u1, u2, _, _, _, ult⟩ := three_cells hO5
          have HO5 := Lib.hid hO5
          clear hm hf hO4 hO5
          go_wp2_with fail
          have hO5 := HO5.out
          clear u0 u1 u2 ult
          refine (HC.out _ _ _ _ HM5.out).mono ?_
          rintro e w6 ⟨rfl, hm, hf⟩
          have HM6 := Lib.hid hm
          have HF6 := Lib.hid (HF5.out.trans hf)
          have hO6 := hf.obj hO5 HNE.out
          obtain ⟨u0, u1, u2, _, _, _, ult⟩ := three_cells hO6
          have HO6 := Lib.hid hO6
          clear hm hf hO5 hO6
          go_wp2_with fail
          have hO6 := HO6.out
          clear u0 u1 u2 ult
          refine (HC.out _ _ _ _ HM6.out).mono ?_
          rintro e w7 ⟨rfl, hm, hf⟩
          have HM7 := Lib.hid hm
          have HF7 := Lib.hid (HF6.out.trans hf)
          clear hm hf hO6
          go_wp2
          go_ret
          exact ⟨rfl, HM7.out, HF7.out⟩
        · have hz' : (r0 == 0) = false := by simp [hz]
          rw [if_neg hz]
          go_enter Try.func20, Try.ntmps20
          go_wp2_with (first | (go_at_call 54; refine (HN.out _ HH.out).mono ?_; rintro e w' ⟨rfl, h0⟩; obtain rfl := h0.symm) | (go_at_call 64; refine (HL.out _ HH.out).mono ?_; rintro e w1 ⟨rfl, hf⟩; have HO1 := Lib.hid (hf.obj HW0.out id); have HF1 := Lib.hid ((Fr.alloc (S := fun _ => False) (Fr.refl _ _) _).trans hf); clear hf) | (go_at_call 65; refine (HR2.out _ (H.out.fr HF1.out id id)).mono ?_; rintro e w2 ⟨rfl, hf⟩; have hob := hf.obj HO1.out id; obtain ⟨y0, y1, y2, _, _, _, hlt⟩ := three_cells hob; have HO2 := Lib.hid hob; have HF2 := Lib.hid (HF1.out.trans hf); clear hf hob) | (go_at_call 66; refine (HG8.out _ (H.out.fr (HF2.out.alloc _) id id)).mono ?_; rintro e w' ⟨rfl, h0⟩; obtain rfl := h0.symm))
          have hO3 := (Below.heap_alloc w2 (.cells #[.int .i64 r0, .int .i64 r1, .int .i64 r2] 48) _ (three_cells HO2.out).2.2.2.2.2.2).trans HO2.out
          have HM3 := Lib.hid (H.out.fr (HF2.out.alloc (.cells #[.int .i64 r0, .int .i64 r1, .int .i64 r2] 48)) id id)
          have HF3 := Lib.hid (Fr.some (T := fun j => j = g) (HF2.out.alloc (.cells #[.int .i64 r0, .int .i64 r1, .int .i64 r2] 48)) fun _ e => e.elim)
          have HNE := Lib.hid (show w.heap.size ≠ g by have := HG.out.2; omega)
          refine (HC.out _ _ _ _ HM3.out).mono ?_
          rintro e w4 ⟨rfl, hm, hf⟩
          have HM4 := Lib.hid hm
          have HF4 := Lib.hid (HF3.out.trans hf)
          have hO4 := hf.obj hO3 HNE.out
          obtain ⟨u0, u1, u2, _, _, _, ult⟩ := three_cells hO4
          have HO4 := Lib.hid hO4
          clear hm hf hO3 hO4
          go_wp2_with fail
          have hO4 := HO4.out
          clear u0 u1 u2 ult
          refine (HC.out _ _ _ _ HM4.out).mono ?_
          rintro e w5 ⟨rfl, hm, hf⟩
          have HM5 := Lib.hid hm
          have HF5 := Lib.hid (HF4.out.trans hf)
          have hO5 := hf.obj hO4 HNE.out
          obtain ⟨u0, u1, u2, _, _, _, ult⟩ := three_cells hO5
          have HO5 := Lib.hid hO5
          clear hm hf hO4 hO5
          go_wp2_with fail
          have hO5 := HO5.out
          clear u0 u1 u2 ult
          refine (HC.out _ _ _ _ HM5.out).mono ?_
          rintro e w6 ⟨rfl, hm, hf⟩
          have HM6 := Lib.hid hm
          have HF6 := Lib.hid (HF5.out.trans hf)
          clear hm hf hO5
          go_wp2
          go_ret
          exact ⟨rfl, HM6.out, HF6.out⟩
end Go.Proofs.Ytajeiccfgnpbpaa.Mem
