/- The statement TableActs: its example. -/
import Derived.Test.YtajeiccfgnpbpaaTlaB
namespace Go.Proofs.Ytajeiccfgnpbpaa.Mem
open Go.RowKit

/-- The example's bytes: a new table of four slots, and k entries in it. -/
def lv : Nat → List UInt8
  | 0 => (newv 512 0 (List.replicate 512 0) 4).2.2
  | k + 1 => putb (lv k) 0 ⟨k + 1, 8, 16⟩
theorem lv_new : newv 512 0 (List.replicate 512 0) 4 = ((0, 0), 112, lv 0) := by
  have h0 : (newv 512 0 (List.replicate 512 0) 4).1 = (0, 0) := by decide +kernel
  have h1 : (newv 512 0 (List.replicate 512 0) 4).2.1 = 112 := by decide +kernel
  exact Prod.ext h0 (Prod.ext h1 rfl)
theorem lv_put : ∀ k : Nat, k < 4 → putc (lv k) 0 ⟨k + 1, 8, 16⟩ = 0
  | 0, _ => by decide +kernel
  | 1, _ => by decide +kernel
  | 2, _ => by decide +kernel
  | 3, _ => by decide +kernel
theorem lv_full : putc (lv 4) 0 ⟨5, 0, 0⟩ = -2051 := by decide +kernel
theorem lv_slots : slots (putb (lv 4) 0 ⟨5, 0, 0⟩) 0 = 4 := by decide +kernel

set_option maxRecDepth 100000 in
set_option maxHeartbeats 2000000 in
theorem lives_any (w : World) : Calls Try.prog 9 #[] w fun e w' => e = .returned (.bool true) ∧ Fr (fun _ => False) w w' := by
  have HP := Lib.hid (fun p g (k : Nat) (hk : k < 4) w h => put_any p g (lv k) 0 ⟨k + 1, 8, 16⟩ w h)
  have HQ := Lib.hid (fun p g w h => put_any p g (lv 4) 0 ⟨5, 0, 0⟩ w h)
  have HS := Lib.hid (fun p g w h => slots_any p g (putb (lv 4) 0 ⟨5, 0, 0⟩) 0 w h)
  rw [lv_full] at HQ
  rw [lv_slots] at HS
  simp only [entv] at HP HQ
  go_enter Try.func9, Try.ntmps9
  go_wp2_with fail
  refine (new_ok 512 _ (by omega) (by omega)).mono ?_
  rintro e w1 ⟨rfl, hm, hf⟩
  have M1 := Lib.hid hm
  have F1 := Lib.hid hf
  clear hm hf
  go_wp2_with fail
  refine (snew_ok (w.heap.size + 1) w.heap.size 0 512 _ _ M1.out (by omega) (by simp)).mono ?_
  rintro e w2 ⟨rfl, hs, hf⟩
  have S2 := Lib.hid hs
  have F2 := Lib.hid (F1.out.trans hf)
  have hlt : w.heap.size < w1.heap.size := M1.out.lt.2
  clear hs hf
  go_wp2_with fail
  have hN := tnew_any w1.heap.size (w.heap.size + 1) w.heap.size 0 512 0 4 _ w2 S2.out (by omega)
  rw [lv_new] at hN
  refine hN.mono ?_
  rintro e w3 ⟨rfl, hs, hf⟩
  have S3 := Lib.hid hs
  have F3 := Lib.hid (F2.out.after hf (fun k hk h => by omega))
  clear hs hf hN
  go_wp2_with fail
  go_loopw [22] (fun iv wr => ∃ k : Nat, k ≤ 4 ∧ iv = .int .i64 k ∧ Mat 108 wr (w.heap.size + 1) w.heap.size (lv k) ∧ Fr (fun _ => False) w wr) (fun iv _ => 4 - (intOf iv).toNat)
  case atStart => exact ⟨0, by omega, rfl, S3.out.mat, F3.out⟩
  case round =>
    obtain ⟨k, hk, rfl, hM, hF⟩ := hrel
    have HM := Lib.hid hM
    have HF := Lib.hid hF
    clear hM hF
    by_cases hlt : k < 4
    · have hp := HP.out _ _ k hlt _ HM.out
      rw [lv_put k hlt] at hp
      have HPP := Lib.hid hp
      clear hp
      go_wp2_with fail
      refine HPP.out.mono ?_
      rintro e w4 ⟨rfl, hm, hf⟩
      have M4 := Lib.hid hm
      have F4 := Lib.hid (HF.out.after hf (fun k hk h => by omega))
      clear hm hf
      go_wp2_with fail
      go_roundw
      case rel => exact ⟨k + 1, by omega, by go_num, M4.out, F4.out⟩
      case measure => simp only [intOf]; omega
    · obtain rfl : k = 4 := by omega
      go_wp2_with fail
      refine (HQ.out _ _ _ HM.out).mono ?_
      rintro e w4 ⟨rfl, hm, hf⟩
      have M4 := Lib.hid hm
      have F4 := Lib.hid (HF.out.after hf (fun k hk h => by omega))
      clear hm hf
      go_wp2_with fail
      refine (HS.out _ _ _ M4.out).mono ?_
      rintro e w5 ⟨rfl, h0⟩
      obtain rfl := h0.symm
      go_wp2_with fail
      go_ret
      exact ⟨rfl, F4.out⟩
end Go.Proofs.Ytajeiccfgnpbpaa.Mem
