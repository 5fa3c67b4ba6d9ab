/- The statement ClassIs: too many bytes; and all together. -/
import Derived.Test.YtajeiccfgnpbpaaCisC
namespace Go.Proofs.Ytajeiccfgnpbpaa.Mem
open Go.RowKit

set_option maxRecDepth 100000 in
set_option maxHeartbeats 1000000 in
theorem cisLong_any (a : Option Addr) (n c : Nat) (at_ off : Int) (w : World) (hn : 40 < n) :
    Calls Try.prog 4 #[.slice a n c, .int .i64 at_, .int .i16 off] w fun e w' => e = .returned (.bool true) ∧ Fr (fun _ => False) w w' := by
  have d40 : decide ((40 : Int) < n) = true := by simp; omega
  have hn' : (40 : Int) < n := by omega
  go_enter Try.func4, Try.ntmps4
  go_wp2_with fail
  refine (lives11_any _).mono ?_
  rintro e w1 ⟨rfl, hf⟩
  have F1 := Lib.hid hf
  clear hf
  go_wp2_with fail
  refine (lives11_any _).mono ?_
  rintro e w2 ⟨rfl, hf⟩
  have F2 := Lib.hid (F1.out.trans hf)
  clear hf
  go_wp2_with fail
  go_ret
  exact ⟨rfl, F2.out⟩

theorem classIs_any (a : Option Addr) (n c : Nat) (L : Nat → Nat) (at_ off : Int) (w : World) (h : IsBytes w a n L) (hoff : -32768 ≤ off ∧ off ≤ 32767) :
    Calls Try.prog 4 #[.slice a n c, .int .i64 at_, .int .i16 off] w fun e w' => e = .returned (.bool true) ∧ Below w.heap.size w w' := by
  by_cases hn : 40 < n
  · exact (cisLong_any a n c at_ off w hn).mono fun _ _ ⟨h1, h2⟩ => ⟨h1, h2.below (fun _ _ => id)⟩
  · exact (cisLoop_any a n c L at_ off w h (by omega) hoff).mono fun _ _ ⟨h1, h2⟩ => ⟨h1, h2.below (fun _ _ => id)⟩
end Go.Proofs.Ytajeiccfgnpbpaa.Mem
