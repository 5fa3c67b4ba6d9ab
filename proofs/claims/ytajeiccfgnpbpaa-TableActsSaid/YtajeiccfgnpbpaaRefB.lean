/- Contracts of the document's answers for tables: what reads. -/
import Derived.Test.YtajeiccfgnpbpaaRefA
namespace Go.Proofs.Ytajeiccfgnpbpaa.Mem
open Go.RowKit

set_option maxRecDepth 100000 in
set_option maxHeartbeats 1000000 in
theorem rslots_any (p g : Nat) (bs : List UInt8) (t : Int) (w : World) (h : Mat 112 w p g bs) :
    Calls Try.prog 54 #[.pointer (some ⟨p, 0, none⟩), .int .i64 t] w fun e w' => e = .returned (.int .i64 (slots bs t)) ∧ w' = w := by
  have HC := Lib.hid (rcell_any p g bs t w h)
  have H := Lib.hid h
  have hb := cell_bd bs t
  obtain ⟨c, d, hcd⟩ : ∃ c d, cell bs t = (c, d) := ⟨_, _, rfl⟩
  rw [hcd] at HC hb
  unfold slots
  rw [hcd]
  by_cases h1 : d = 0
  · have h1' : (d != 0) = false := by simp [h1]
    by_cases h2 : 1 ≤ c
    · by_cases h3 : c ≤ 1024
      · have HT := Lib.hid (rhas_any p g bs t (16 + 24 * c) w h)
        clear h hcd
        subst h1
        by_cases h4 : has bs.length t (16 + 24 * c) = true
        · rw [h4] at HT
          rw [if_pos ⟨rfl, h2, h3, h4⟩]
          clear h4 h1'
          go_enter Try.func54, Try.ntmps54
          go_wp2_with (first | (go_at_call 66; refine HC.out.mono ?_; rintro e w' ⟨rfl, h0⟩; obtain rfl := h0.symm) | (go_at_call 100; refine HT.out.mono ?_; rintro e w' ⟨rfl, h0⟩; obtain rfl := h0.symm))
          go_ret
          exact ⟨rfl, rfl⟩
        · have h4' : has bs.length t (16 + 24 * c) = false := by simpa using h4
          rw [h4'] at HT
          rw [if_neg (fun e => h4 e.2.2.2)]
          clear h4 h4' h1'
          go_enter Try.func54, Try.ntmps54
          go_wp2_with (first | (go_at_call 66; refine HC.out.mono ?_; rintro e w' ⟨rfl, h0⟩; obtain rfl := h0.symm) | (go_at_call 100; refine HT.out.mono ?_; rintro e w' ⟨rfl, h0⟩; obtain rfl := h0.symm))
          go_ret
          exact ⟨rfl, rfl⟩
      · rw [if_neg (fun e => h3 e.2.2.1)]
        clear h hcd
        go_enter Try.func54, Try.ntmps54
        go_wp2_with (go_at_call 66; refine HC.out.mono ?_; rintro e w' ⟨rfl, h0⟩; obtain rfl := h0.symm)
        go_ret
        exact ⟨rfl, rfl⟩
    · rw [if_neg (fun e => h2 e.2.1)]
      clear h hcd
      go_enter Try.func54, Try.ntmps54
      go_wp2_with (go_at_call 66; refine HC.out.mono ?_; rintro e w' ⟨rfl, h0⟩; obtain rfl := h0.symm)
      go_ret
      exact ⟨rfl, rfl⟩
  · have h1' : (d != 0) = true := by simp [h1]
    rw [if_neg (fun e => h1 e.1)]
    clear h hcd h1
    go_enter Try.func54, Try.ntmps54
    go_wp2_with (go_at_call 66; refine HC.out.mono ?_; rintro e w' ⟨rfl, h0⟩; obtain rfl := h0.symm)
    go_ret
    exact ⟨rfl, rfl⟩

set_option maxRecDepth 100000 in
set_option maxHeartbeats 1000000 in
theorem rread_any (p g : Nat) (bs : List UInt8) (t i : Int) (w : World) (h : Mat 112 w p g bs) (ha : 0 ≤ t ∧ t ≤ 1048576 ∧ 0 ≤ i ∧ i ≤ 1048576) :
    Calls Try.prog 65 #[.pointer (some ⟨p, 0, none⟩), .int .i64 t, .int .i64 i] w fun e w' => e = .returned (entv (read bs (slotAt t i))) ∧ Fr (fun _ => False) w w' := by
  have HC := Lib.hid (fun a w h => rcell_any p g bs a w h)
  have H := Lib.hid h
  clear h
  have hs : slotAt t i = t + 16 + 24 * i := by unfold slotAt; omega
  rw [hs]
  unfold read entv
  clear hs
  go_enter Try.func65, Try.ntmps65
  go_wp2_with (go_at_call 66; refine (HC.out _ _ (H.out.fr (S := fun _ => False) (Fr.alloc (Fr.alloc (Fr.refl _ _) _) _) id id)).mono ?_; rintro e w' ⟨rfl, rfl⟩)
  refine bodyPost_ret (v := .agg #[.int .i64 (cell bs (t + 16 + 24 * i)).1, .int .i64 (cell bs (t + 16 + 24 * i + 8)).1, .int .i64 (cell bs (t + 16 + 24 * i + 16)).1]) (by simp [results, Try.results65, go_sem]) rfl ⟨rfl, ?_⟩
  exact Fr.alloc (Fr.alloc (Fr.refl _ _) _) _
end Go.Proofs.Ytajeiccfgnpbpaa.Mem
