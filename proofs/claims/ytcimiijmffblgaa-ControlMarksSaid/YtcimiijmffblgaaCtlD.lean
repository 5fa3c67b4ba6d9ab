/- The statement ControlMarks: where there are no marks, or too many; and all together. -/
import Derived.Test.YtcimiijmffblgaaCtlC
namespace Go.Proofs.Ytcimiijmffblgaa.Ctl
open Go.RowKit

set_option maxRecDepth 100000 in
set_option maxHeartbeats 1000000 in
theorem long_any (a : Option Addr) (n c : Nat) (v2 : Value) (w : World) (hn : 300 < n) :
    Calls Try.prog 10 #[.slice a n c, v2] w fun e w' => e = .returned (.bool true) ∧ Below w.heap.size w w' := by
  have d300 : decide ((300 : Int) < n) = true := by simp; omega
  have hn' : (300 : Int) < n := by omega
  go_enter Try.func10, Try.ntmps10
  go_wp2_with fail
  refine (lives_any _).mono ?_
  rintro e w1 ⟨rfl, b1⟩
  go_wp2_with fail
  refine (lives_any _).mono ?_
  rintro e w2 ⟨rfl, b2⟩
  go_wp2_with fail
  go_ret
  exact ⟨rfl, b1.trans (b2.mono b1.size)⟩

set_option maxRecDepth 100000 in
set_option maxHeartbeats 1000000 in
theorem nil_any (a : Option Addr) (c : Nat) (v2 : Value) (w : World) :
    Calls Try.prog 10 #[.slice a 0 c, v2] w fun e w' => e = .returned (.bool true) ∧ Below w.heap.size w w' := by
  go_enter Try.func10, Try.ntmps10
  go_wp2_with fail
  refine (lives_any _).mono ?_
  rintro e w1 ⟨rfl, b1⟩
  go_wp2_with fail
  refine wp_loop_rounds 1 ?_
  rw [rounds_succ]
  go_wp2_with (first | (go_at_call 56; refine (close_none _ _).mono ?_; rintro e w' ⟨rfl, rfl⟩) | (go_at_call 57; refine (open_none _ _ _).mono ?_; rintro e w' ⟨rfl, rfl⟩) | (go_at_call 59; refine (closed_none _).mono ?_; rintro e w' ⟨rfl, rfl⟩))
  go_ret
  exact ⟨rfl, b1.alloc b1.size _⟩

theorem law (a : Option Addr) (n c : Nat) (L : List (Int × Int)) (a2 : Option Addr) (n2 c2 : Nat) (bs : List Bool) (w : World) (h1 : IsMarks w a n L) (h2 : IsBools w a2 n2 bs) :
    Calls Try.prog 10 #[.slice a n c, .slice a2 n2 c2] w fun e w' => e = .returned (.bool true) ∧ Below w.heap.size w w' := by
  by_cases hn : 300 < n
  · exact long_any a n c _ w hn
  · rcases h1 with rfl | ⟨b, off, rfl, _, hb, hM⟩
    · exact nil_any a c _ w
    · exact loop_any b off n c L a2 n2 c2 bs w (by omega) hb hM h2
end Go.Proofs.Ytcimiijmffblgaa.Ctl
