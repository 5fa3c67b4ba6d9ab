/- Contracts of the document's answers for tables: Get. -/
import Derived.Test.YtajeiccfgnpbpaaRefE
namespace Go.Proofs.Ytajeiccfgnpbpaa.Mem
open Go.RowKit

set_option maxRecDepth 100000 in
set_option maxHeartbeats 2000000 in
theorem rget_any (p g : Nat) (bs : List UInt8) (t sel : Int) (w : World) (h : Mat 112 w p g bs) :
    Calls Try.prog 68 #[.pointer (some ⟨p, 0, none⟩), .int .i64 t, .int .i64 sel] w fun e w' => e = .returned (.tuple #[entv (getl bs t sel).1, .int .i64 (getl bs t sel).2.1, .bool (getl bs t sel).2.2]) ∧ Fr (fun _ => False) w w' := by
  have HL := Lib.hid (fun w h => look_any p g bs t sel w h)
  have HR := fun i w h hi => rread_any p g bs t i w h hi
  have H := Lib.hid h
  have hst := @look_stops bs t sel
  have hin := @slots_in bs t
  have hsb := slots_bd bs t
  have hbl := h.2.2.2
  unfold getl
  obtain ⟨⟨k, n⟩, hk⟩ : ∃ r, look bs t sel = r := ⟨_, rfl⟩
  rw [hk] at HL hst ⊢
  dsimp only at *
  by_cases h1 : k < 0 ∨ sel < 1
  · rw [if_pos h1]
    clear h hk hst hin hsb hbl HR
    unfold entv
    have h1' : k < 0 ∨ (¬ k < 0 ∧ sel < 1) := by omega
    clear h1
    rcases h1' with h1 | ⟨h1, h2⟩
    all_goals
      go_enter Try.func68, Try.ntmps68
      go_wp2_with (go_at_call 64; refine (HL.out _ (H.out.fr (Fr.alloc (S := fun _ => False) (Fr.refl _ _) _) id id)).mono ?_; rintro e w' ⟨rfl, hf⟩; have hob := hf.obj (heap_alloc_last _ _) id; obtain ⟨hr0, hr1, hr2, hz0, hz1, hz2, hlt⟩ := three_cells hob; have HOb := Lib.hid hob; have HF := Lib.hid hf; clear hf hob)
      refine bodyPost_ret (results_cell2 rfl _ _ w.heap.size 48 _ (0, 0) _ rfl (three_set HOb.out _ _ _) Try.underlying48 rfl (by kernel_rfl)) rfl ⟨rfl, ?_⟩
      exact ((((Fr.alloc (S := fun _ => False) (Fr.refl _ _) _).trans HF.out).setCell (.inl (Nat.le_refl _)) _).setCell (.inl (Nat.le_refl _)) _ |>.setCell (.inl (Nat.le_refl _)) _)
  · rw [if_neg h1]
    obtain ⟨hz, hkn, _⟩ := hst (by omega)
    have hti := hin hz
    have HR2 := Lib.hid (fun w h => HR k w h (by omega))
    obtain ⟨⟨r0, r1, r2⟩, hr⟩ : ∃ r, read bs (slotAt t k) = r := ⟨_, rfl⟩
    rw [hr] at HR2 ⊢
    simp only [entv] at HR2 ⊢
    have h2 : ¬ k < 0 := by omega
    have h3 : ¬ sel < 1 := by omega
    clear h hk hst hin hsb hbl HR h1 hz hkn hti hr
    by_cases hc : r0 = sel
    all_goals
      first | subst hc | have hc' : (r0 != sel) = true := by simp [hc]
      first | rw [if_pos rfl] | rw [if_neg hc]
      go_enter Try.func68, Try.ntmps68
      go_wp2_with fail
      refine (HL.out _ (H.out.fr (Fr.alloc (S := fun _ => False) (Fr.refl _ _) _) id id)).mono ?_
      rintro e w1 ⟨rfl, hf⟩
      have hob := hf.obj (heap_alloc_last _ _) id
      have HOb := Lib.hid hob
      have HF := Lib.hid ((Fr.alloc (S := fun _ => False) (Fr.refl _ _) _).trans hf)
      clear hf hob
      go_wp2_with fail
      refine (HR2.out _ (H.out.fr HF.out id id)).mono ?_
      rintro e w2 ⟨rfl, hf⟩
      have hob := hf.obj HOb.out id
      obtain ⟨hr0, hr1, hr2, hz0, hz1, hz2, hlt⟩ := three_cells hob
      have HO2 := Lib.hid hob
      have HF2 := Lib.hid (HF.out.trans hf)
      have HX := Lib.hid hlt
      clear hf hob HF HOb
      go_wp2
      refine bodyPost_ret (results_cell2 rfl _ _ w.heap.size 48 _ (0, 0) _ rfl ((Below.heap_alloc _ _ _ (by simpa [World.setCell] using HX.out)).trans (three_set HO2.out _ _ _)) Try.underlying48 rfl (by kernel_rfl)) rfl ⟨rfl, ?_⟩
      exact (((HF2.out.setCell (.inl (Nat.le_refl _)) _).setCell (.inl (Nat.le_refl _)) _ |>.setCell (.inl (Nat.le_refl _)) _).alloc _)
end Go.Proofs.Ytajeiccfgnpbpaa.Mem
