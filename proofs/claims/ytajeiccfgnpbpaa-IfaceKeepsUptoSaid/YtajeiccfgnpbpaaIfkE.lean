/- The statement IfaceKeeps: too many selectors; and all together. -/
import Derived.Test.YtajeiccfgnpbpaaIfkA
namespace Go.Proofs.Ytajeiccfgnpbpaa.Mem
open Go.RowKit

set_option maxRecDepth 100000 in
set_option maxHeartbeats 1000000 in
theorem keepsLong_any (a : Option Addr) (n c : Nat) (V : Nat → Value) (L : Nat → List Int) (r : Nat) (w : World) (h : IsRows w a n V L) (ht : tot L n ≤ 1048576) (hlong : 1000 < tot L n) :
    Calls Try.prog 5 #[.slice a n c, .int .u16 r] w fun e w' => e = .returned (.bool true) ∧ Fr (fun _ => False) w w' := by
  have hn : n ≤ 1048576 := Nat.le_trans (tot_ge L n) ht
  have HT := Lib.hid ht
  have HLG := Lib.hid hlong
  clear ht hlong
  go_enter Try.func5, Try.ntmps5
  go_wp2_with fail
  go_loop [5, 37] (fun v iv => ∃ k : Nat, k ≤ n ∧ iv = .int .i64 k ∧ v = .int .i64 (tot L k : Nat)) (fun _ iv => n - (intOf iv).toNat)
  case atStart => exact ⟨0, Nat.zero_le _, rfl, rfl⟩
  case round =>
    obtain ⟨k, hk, rfl, rfl⟩ := hrel
    by_cases hlt : k < n
    · obtain ⟨bb, o, rfl, hbb, hc⟩ := h.resolve_left (by omega)
      obtain ⟨hc1, o2, c2, hv2, _, _⟩ := hc k hlt
      have hts : tot L (k + 1) = tot L k + (1 + (L k).length) := rfl
      have htk : tot L (k + 1) ≤ 1048576 := Nat.le_trans (tot_le L (by omega)) HT.out
      rw [hts] at htk
      rw [hv2] at hc1
      obtain ⟨m, hm⟩ : ∃ m, (L k).length = m := ⟨_, rfl⟩
      obtain ⟨T, hT⟩ : ∃ T, tot L k = T := ⟨_, rfl⟩
      rw [hm] at hc1 htk hts
      rw [hT] at htk hts ⊢
      have HTS := Lib.hid hts
      clear hc hv2 hm hts hT
      go_wp2_with fail
      go_round
      case rel => exact ⟨k + 1, by omega, by go_num, by rw [HTS.out]; go_num⟩
      case measure => simp [intOf]; omega
    · obtain rfl : n = k := by omega
      obtain ⟨T, hT⟩ : ∃ T, tot L n = T := ⟨_, rfl⟩
      have hT1 : 1000 < T := by rw [← hT]; exact HLG.out
      rw [hT]
      clear hT
      have d1 : decide ((1000 : Int) < (T : Int)) = true := by simp; omega
      have hT2 : (1000 : Int) < (T : Int) := by omega
      go_wp2_with fail
      refine (lives12_any w).mono ?_
      rintro e w1 ⟨rfl, hf⟩
      have F1 := Lib.hid hf
      clear hf
      go_wp2_with fail
      refine (lives12_any w1).mono ?_
      rintro e w2 ⟨rfl, hf⟩
      have F2 := Lib.hid (F1.out.trans hf)
      clear hf
      go_wp2_with fail
      go_ret
      exact ⟨rfl, F2.out⟩

theorem ifaceKeeps_any (a : Option Addr) (n c : Nat) (V : Nat → Value) (L : Nat → List Int) (r : Nat) (w : World) (h : IsRows w a n V L) (ht : tot L n ≤ 1048576) (hr : r ≤ 65535) :
    Calls Try.prog 5 #[.slice a n c, .int .u16 r] w fun e w' => e = .returned (.bool true) ∧ Below w.heap.size w w' := by
  by_cases hn : 1000 < tot L n
  · exact (keepsLong_any a n c V L r w h ht hn).mono fun _ _ ⟨h1, h2⟩ => ⟨h1, h2.below (fun _ _ => id)⟩
  · exact (keepsLoop_any a n c V L r w h (Nat.not_lt.1 hn) hr).mono fun _ _ ⟨h1, h2⟩ => ⟨h1, h2.below (fun _ _ => id)⟩
end Go.Proofs.Ytajeiccfgnpbpaa.Mem
