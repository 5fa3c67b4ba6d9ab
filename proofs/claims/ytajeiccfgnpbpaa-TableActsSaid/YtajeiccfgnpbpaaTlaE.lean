/- The statement TableActs: too many acts; and all together. -/
import Derived.Test.YtajeiccfgnpbpaaTlaD
namespace Go.Proofs.Ytajeiccfgnpbpaa.Mem
open Go.RowKit

set_option maxRecDepth 100000 in
set_option maxHeartbeats 1000000 in
theorem long_any (a : Option Addr) (n c : Nat) (sel : Int) (w : World) (hn : 60 < n) :
    Calls Try.prog 3 #[.slice a n c, .int .i64 sel] w fun e w' => e = .returned (.bool true) ∧ Fr (fun _ => False) w w' := by
  have d60 : decide ((60 : Int) < n) = true := by simp; omega
  have hn' : (60 : Int) < n := by omega
  go_enter Try.func3, Try.ntmps3
  go_wp2_with fail
  refine (lives_any _).mono ?_
  rintro e w1 ⟨rfl, hf⟩
  have F1 := Lib.hid hf
  clear hf
  go_wp2_with fail
  refine (lives_any _).mono ?_
  rintro e w2 ⟨rfl, hf⟩
  have F2 := Lib.hid (F1.out.trans hf)
  clear hf
  go_wp2_with fail
  go_ret
  exact ⟨rfl, F2.out⟩

theorem tableActs_any (a : Option Addr) (n c : Nat) (L : Nat → ActV) (sel : Int) (w : World) (h : IsActs w a n L) :
    Calls Try.prog 3 #[.slice a n c, .int .i64 sel] w fun e w' => e = .returned (.bool true) ∧ Below w.heap.size w w' := by
  by_cases hn : 60 < n
  · exact (long_any a n c sel w hn).mono fun _ _ ⟨h1, h2⟩ => ⟨h1, h2.below (fun _ _ => id)⟩
  · exact (loop_any a n c L sel w h (by omega)).mono fun _ _ ⟨h1, h2⟩ => ⟨h1, h2.below (fun _ _ => id)⟩
end Go.Proofs.Ytajeiccfgnpbpaa.Mem
