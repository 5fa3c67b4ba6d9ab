/- Contracts of the document's answers for tables: May. -/
import Derived.Test.YtajeiccfgnpbpaaRefC
namespace Go.Proofs.Ytajeiccfgnpbpaa.Mem
open Go.RowKit

theorem may_look (bs : List UInt8) (t sel : Int) : may bs t sel = (decide (0 ≤ (look bs t sel).1) && decide (1 ≤ sel)) := by
  obtain ⟨_, _, h⟩ := search_look bs t sel
  unfold may
  rw [h]
  by_cases hk : (look bs t sel).1 < 0
  · rw [if_pos hk, decide_eq_false (show ¬ 0 ≤ (look bs t sel).1 by omega)]
    simp
  · rw [if_neg hk, decide_eq_true (show 0 ≤ (look bs t sel).1 by omega)]
    by_cases hc : (cell bs (slotAt t (look bs t sel).1)).1 = 0 <;> simp [hc]

set_option maxRecDepth 100000 in
set_option maxHeartbeats 1000000 in
theorem rmay_any (p g : Nat) (bs : List UInt8) (t sel : Int) (w : World) (h : Mat 112 w p g bs) :
    Calls Try.prog 70 #[.pointer (some ⟨p, 0, none⟩), .int .i64 t, .int .i64 sel] w fun e w' => e = .returned (.bool (may bs t sel)) ∧ Fr (fun _ => False) w w' := by
  have HL := Lib.hid (look_any p g bs t sel w h)
  rw [may_look]
  obtain ⟨⟨k, n⟩, hk⟩ : ∃ r, look bs t sel = r := ⟨_, rfl⟩
  rw [hk] at HL ⊢
  dsimp only at *
  clear h hk
  by_cases h1 : 0 ≤ k
  · by_cases h2 : 1 ≤ sel
    all_goals
      go_enter Try.func70, Try.ntmps70
      go_wp2_with (go_at_call 64; refine HL.out.mono ?_; rintro e w1 ⟨rfl, hf⟩; have HF1 := Lib.hid hf; clear hf)
      go_ret
      exact ⟨by first | rfl | simp [h1, h2], HF1.out⟩
  · go_enter Try.func70, Try.ntmps70
    go_wp2_with (go_at_call 64; refine HL.out.mono ?_; rintro e w1 ⟨rfl, hf⟩; have HF1 := Lib.hid hf; clear hf)
    go_ret
    exact ⟨by first | rfl | (simp; omega), HF1.out⟩
end Go.Proofs.Ytajeiccfgnpbpaa.Mem
