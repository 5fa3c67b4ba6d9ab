/- The statement IfaceMissing: too many acts or selectors; and all together. -/
import Derived.Test.YtajeiccfgnpbpaaImB
namespace Go.Proofs.Ytajeiccfgnpbpaa.Mem
open Go.RowKit

set_option maxRecDepth 100000 in
set_option maxHeartbeats 1000000 in
theorem imLong_any (a : Option Addr) (n c : Nat) (a2 : Option Addr) (n2 c2 : Nat) (which : Int) (w : World) (hn : 40 < n ∨ 100 < n2) :
    Calls Try.prog 6 #[.slice a n c, .slice a2 n2 c2, .int .u8 which] w (fun e w' => e = .returned (.bool true) ∧ Fr (fun _ => False) w w') := by
  by_cases h1 : 40 < n
  · have d40 : decide ((40 : Int) < n) = true := by simp; omega
    have h1' : (40 : Int) < n := by omega
    go_enter Try.func6, Try.ntmps6
    go_wp2_with fail
    refine (lives12_any _).mono ?_
    rintro e w1 ⟨rfl, hf⟩
    have F1 := Lib.hid hf
    clear hf
    go_wp2_with fail
    refine (lives12_any _).mono ?_
    rintro e w2 ⟨rfl, hf⟩
    have F2 := Lib.hid (F1.out.trans hf)
    clear hf
    go_wp2_with fail
    go_ret
    exact ⟨rfl, F2.out⟩
  · have h2 : 100 < n2 := hn.resolve_left h1
    have d40 : decide ((40 : Int) < n) = false := by simp; omega
    have d100 : decide ((100 : Int) < n2) = true := by simp; omega
    have h2' : (100 : Int) < n2 := by omega
    have h1' : ¬ (40 : Int) < n := by omega
    clear hn
    go_enter Try.func6, Try.ntmps6
    go_wp2_with fail
    refine (lives12_any _).mono ?_
    rintro e w1 ⟨rfl, hf⟩
    have F1 := Lib.hid hf
    clear hf
    go_wp2_with fail
    refine (lives12_any _).mono ?_
    rintro e w2 ⟨rfl, hf⟩
    have F2 := Lib.hid (F1.out.trans hf)
    clear hf
    go_wp2_with fail
    go_ret
    exact ⟨rfl, F2.out⟩

theorem ifaceMissing_any (a : Option Addr) (n c : Nat) (Q : Nat → Act5) (a2 : Option Addr) (n2 c2 : Nat) (N : Nat → Int) (which : Nat) (w : World) (h : IsActs5 w a n Q) (h2 : IsI16s w a2 n2 N) (hwh : which ≤ 255) :
    Calls Try.prog 6 #[.slice a n c, .slice a2 n2 c2, .int .u8 which] w (fun e w' => e = .returned (.bool true) ∧ Below w.heap.size w w') := by
  by_cases hn : 40 < n ∨ 100 < n2
  · exact (imLong_any a n c a2 n2 c2 which w hn).mono fun _ _ ⟨h1, h2⟩ => ⟨h1, h2.below (fun _ _ => id)⟩
  · exact (imLoop_any a n c Q a2 n2 c2 N which w h (by omega) h2 (by omega) hwh).mono fun _ _ ⟨h1, h2⟩ => ⟨h1, h2.below (fun _ _ => id)⟩
end Go.Proofs.Ytajeiccfgnpbpaa.Mem
