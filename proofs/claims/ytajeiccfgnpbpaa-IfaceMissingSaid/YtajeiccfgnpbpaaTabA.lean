/- Contracts of package table: what reads. -/
import Derived.Test.YtajeiccfgnpbpaaTabP
import Derived.Test.YtajeiccfgnpbpaaSpB
namespace Go.Proofs.Ytajeiccfgnpbpaa.Mem
open Go.RowKit

set_option maxHeartbeats 400000 in
theorem tsize_any (n : Int) (h : 0 ≤ n ∧ n ≤ 1048576) (w : World) :
    Calls Try.prog 53 #[.int .i64 n] w fun e w' => e = .returned (.int .i64 (16 + n * 24)) ∧ w' = w := by
  go_enter Try.func53, Try.ntmps53
  go_wp2
  go_ret
  exact ⟨rfl, rfl⟩

set_option maxHeartbeats 400000 in
theorem slot_any (t i : Int) (h : 0 ≤ t ∧ t ≤ 1048576 ∧ 0 ≤ i ∧ i ≤ 1048576) (w : World) :
    Calls Try.prog 105 #[.int .i64 t, .int .i64 i] w fun e w' => e = .returned (.int .i64 (slotAt t i)) ∧ w' = w := by
  unfold slotAt
  go_enter Try.func105, Try.ntmps105
  go_wp2
  go_ret
  exact ⟨rfl, rfl⟩

theorem cell_bd (bs : List UInt8) (a : Int) : -9223372036854775808 ≤ (cell bs a).1 ∧ (cell bs a).1 ≤ 9223372036854775807 := by
  unfold cell; split
  · simp only [cellv, wrap64]; omega
  · simp

set_option maxRecDepth 100000 in
set_option maxHeartbeats 1000000 in
theorem slots_any (p g : Nat) (bs : List UInt8) (t : Int) (w : World) (h : Mat 108 w p g bs) :
    Calls Try.prog 50 #[.pointer (some ⟨p, 0, none⟩), .int .i64 t] w fun e w' => e = .returned (.int .i64 (slots bs t)) ∧ w' = w := by
  have HC := Lib.hid (cell_any p g bs t w h)
  have H := Lib.hid h
  have hb := cell_bd bs t
  obtain ⟨c, d, hcd⟩ : ∃ c d, cell bs t = (c, d) := ⟨_, _, rfl⟩
  rw [hcd] at HC hb
  unfold slots
  rw [hcd]
  by_cases h1 : d = 0
  · have h1' : (d != 0) = false := by simp [h1]
    by_cases h2 : 1 ≤ c
    · by_cases h3 : c ≤ 1024
      · have HS := Lib.hid (fun w => tsize_any c (by omega) w)
        have HT := Lib.hid (fun w h => text_any p g bs t (16 + c * 24) w h (by omega) (by omega))
        clear h hcd
        subst h1
        by_cases h4 : has bs.length t (16 + 24 * c) = true
        · have ht2 : (txt bs t (16 + c * 24)).2 = 0 := by unfold txt; rw [if_pos (by rw [Int.mul_comm]; exact h4)]
          rw [ht2] at HT
          obtain ⟨s, hs⟩ : ∃ s : ByteArray, ⟨(txt bs t (16 + c * 24)).1.toArray⟩ = s := ⟨_, rfl⟩
          rw [hs] at HT
          rw [if_pos ⟨rfl, h2, h3, h4⟩]
          clear ht2 hs h4 h1'
          go_enter Try.func50, Try.ntmps50
          go_wp2_with (first | (go_at_call 46; refine HC.out.mono ?_; rintro e w' ⟨rfl, rfl⟩) | (go_at_call 53; refine (HS.out _).mono ?_; rintro e w' ⟨rfl, rfl⟩) | (go_at_call 52; refine (HT.out _ H.out).mono ?_; rintro e w' ⟨rfl, rfl⟩))
          go_ret
          exact ⟨rfl, rfl⟩
        · have ht2 : txt bs t (16 + c * 24) = ([], -9) := by unfold txt; rw [if_neg (by rw [Int.mul_comm]; exact h4)]
          rw [ht2] at HT
          rw [if_neg (fun e => h4 e.2.2.2)]
          clear ht2 h4 h1'
          go_enter Try.func50, Try.ntmps50
          go_wp2_with (first | (go_at_call 46; refine HC.out.mono ?_; rintro e w' ⟨rfl, rfl⟩) | (go_at_call 53; refine (HS.out _).mono ?_; rintro e w' ⟨rfl, rfl⟩) | (go_at_call 52; refine (HT.out _ H.out).mono ?_; rintro e w' ⟨rfl, rfl⟩))
          go_ret
          exact ⟨rfl, rfl⟩
      · rw [if_neg (fun e => h3 e.2.2.1)]
        clear h hcd
        go_enter Try.func50, Try.ntmps50
        go_wp2_with (go_at_call 46; refine HC.out.mono ?_; rintro e w' ⟨rfl, rfl⟩)
        go_ret
        exact ⟨rfl, rfl⟩
    · rw [if_neg (fun e => h2 e.2.1)]
      clear h hcd
      go_enter Try.func50, Try.ntmps50
      go_wp2_with (go_at_call 46; refine HC.out.mono ?_; rintro e w' ⟨rfl, rfl⟩)
      go_ret
      exact ⟨rfl, rfl⟩
  · have h1' : (d != 0) = true := by simp [h1]
    rw [if_neg (fun e => h1 e.1)]
    clear h hcd h1
    go_enter Try.func50, Try.ntmps50
    go_wp2_with (go_at_call 46; refine HC.out.mono ?_; rintro e w' ⟨rfl, rfl⟩)
    go_ret
    exact ⟨rfl, rfl⟩

set_option maxRecDepth 100000 in
set_option maxHeartbeats 1000000 in
theorem read_any (p g : Nat) (bs : List UInt8) (a : Int) (w : World) (h : Mat 108 w p g bs) (ha : 0 ≤ a ∧ a ≤ 1048576000) :
    Calls Try.prog 106 #[.pointer (some ⟨p, 0, none⟩), .int .i64 a] w fun e w' => e = .returned (.agg #[.int .i64 (read bs a).sel, .int .i64 (read bs a).xt, .int .i64 (read bs a).cls]) ∧ Fr (fun _ => False) w w' := by
  have HC := Lib.hid (fun a w h => cell_any p g bs a w h)
  have H := Lib.hid h
  clear h
  unfold read
  go_enter Try.func106, Try.ntmps106
  go_wp2_with (go_at_call 46; refine (HC.out _ _ (H.out.fr (Fr.alloc (S := fun _ => False) (Fr.refl _ _) _) id id)).mono ?_; rintro e w' ⟨rfl, rfl⟩)
  refine bodyPost_ret (v := .agg #[.int .i64 (cell bs a).1, .int .i64 (cell bs (a + 8)).1, .int .i64 (cell bs (a + 16)).1]) (by simp [results, Try.results106, go_sem]) rfl ⟨rfl, ?_⟩
  exact Fr.alloc (Fr.refl _ _) _
end Go.Proofs.Ytajeiccfgnpbpaa.Mem
