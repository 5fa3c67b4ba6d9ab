/- The statement NumberParses: what the code and the document's answer both do. -/
import Derived.Test.YtcimiijmffblgaaNumA
import Derived.Test.YtcimiijmffblgaaNumB
import Derived.Test.YtcimiijmffblgaaNumC
namespace Go.Proofs.Ytcimiijmffblgaa.Num
open Go.RowKit

set_option maxHeartbeats 400000 in
theorem refparse_quoted (s : ByteArray) (b : Int) (w : World) (h3 : s.size = 3) (h0 : ((s[0].toNat : Int) == 39) = true) (h2 : ((s[2].toNat : Int) == 39) = true) :
    Calls Try.prog 13 #[.string s, .int .i64 b] w fun e w' => e = .returned (.tuple #[.int .i64 (pars s b).1, .bool (pars s b).2]) ∧ w' = w := by
  have e3 : ((s.size : Int) == 3) = true := by simp [h3]
  have l3 : 2 < s.size := by omega
  have hb : (s[1].toNat : Int) ≤ 255 := by have := s[1].toNat_lt; omega
  have HP := Lib.hid (pars_quoted s b h3 h0 h2)
  go_enter Try.func13, Try.ntmps13
  go_wp2_with fail
  go_ret2
  rw [HP.out]
  exact ⟨rfl, rfl⟩

theorem refparse_any (s : ByteArray) (b : Int) (w : World) (hs : s.size ≤ maxLen) (hb0 : -9223372036854775808 ≤ b) (hb1 : b ≤ 9223372036854775807) :
    Calls Try.prog 13 #[.string s, .int .i64 b] w fun e w' => e = .returned (.tuple #[.int .i64 (pars s b).1, .bool (pars s b).2]) ∧ w' = w := by
  by_cases hq : quoted s = true
  · have h3 : s.size = 3 := by
      apply Decidable.byContradiction
      intro h
      rw [quoted_size s h] at hq
      cases hq
    rw [quoted3 s h3, Bool.and_eq_true] at hq
    exact refparse_quoted s b w h3 hq.1 hq.2
  · exact refparse_rest s b w hs hb0 hb1 (by simpa using hq)

theorem dig_ff : (⟨(udig 16 255).toArray⟩ : ByteArray) = ⟨#[70, 70]⟩ := by
  rw [udig_more (by omega) (by decide), udig_last (by omega) (by decide)]
  decide

theorem pars_1f : pars ⟨#[36, 45, 49, 70]⟩ 10 = (-31, true) := by decide +kernel

set_option maxHeartbeats 400000 in
theorem lives_any (w : World) : Calls Try.prog 11 #[] w fun e w' => e = .returned (.bool true) ∧ Below w.heap.size w w' := by
  have hA := fun w : World => parse_any ⟨#[36, 45, 49, 70]⟩ 10 w (by decide) (by omega) (by omega)
  rw [pars_1f] at hA
  have HA := Lib.hid hA
  have hB := fun w : World => show_pos 255 16 w (by omega) (by omega) (by omega)
  rw [dig_ff] at hB
  have HB := Lib.hid hB
  clear hA hB
  go_enter Try.func11, Try.ntmps11
  go_wp2_with (go_at_call 12; refine (HA.out _).mono ?_; rintro e w' ⟨rfl, rfl⟩)
  refine (HB.out _).mono ?_
  rintro e w' ⟨rfl, hbel⟩
  go_wp2_with fail
  go_ret
  exact ⟨rfl, hbel⟩

set_option maxHeartbeats 400000 in
theorem law (s : ByteArray) (b : Int) (w : World) (hs : s.size ≤ maxLen) (hb0 : -9223372036854775808 ≤ b) (hb1 : b ≤ 9223372036854775807) :
    Calls Try.prog 3 #[.string s, .int .i64 b] w fun e w' => e = .returned (.bool true) ∧ Below w.heap.size w w' := by
  have HA := Lib.hid (fun w : World => parse_any s b w hs hb0 hb1)
  have HB := Lib.hid (fun w : World => refparse_any s b w hs hb0 hb1)
  unfold maxLen at hs
  by_cases hl : 1000 < s.size
  · go_enter Try.func3, Try.ntmps3
    go_wp2_with fail
    refine (lives_any _).mono ?_
    rintro e w1 ⟨rfl, b1⟩
    go_wp2_with fail
    refine (lives_any _).mono ?_
    rintro e w2 ⟨rfl, b2⟩
    go_wp2_with fail
    go_ret
    exact ⟨rfl, b1.trans (b2.mono b1.size)⟩
  · go_enter Try.func3, Try.ntmps3
    go_wp2_with fail
    refine (lives_any _).mono ?_
    rintro e w1 ⟨rfl, b1⟩
    go_wp2_with (first | (go_at_call 12; refine (HA.out _).mono ?_; rintro e w' ⟨rfl, rfl⟩) | (go_at_call 13; refine (HB.out _).mono ?_; rintro e w' ⟨rfl, rfl⟩))
    go_ret
    exact ⟨rfl, b1⟩

end Go.Proofs.Ytcimiijmffblgaa.Num
