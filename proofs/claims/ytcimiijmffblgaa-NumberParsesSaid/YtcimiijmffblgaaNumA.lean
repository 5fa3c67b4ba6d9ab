/- Contracts of package number and of the document's answers for it: plain functions of strings and integers. -/
import Derived.Test.YtcimiijmffblgaaChecked
import Derived.Test.YtcimiijmffblgaaNumP
import Derived.WalkKit
import Derived.WalkSpells
import Derived.WalkLawsBesides
import Derived.Lib.Hide
import Derived.Lib.Strings
import Derived.BigQuiet
namespace Go.Proofs.Ytcimiijmffblgaa.Num
open Go.RowKit

set_option maxHeartbeats 400000 in
theorem right_any (b : Int) (w : World) :
    Calls Try.prog 116 #[.int .i64 b] w fun e w' => e = .returned (.bool (right b)) ∧ w' = w := by
  by_cases h1 : 2 ≤ b <;> by_cases h2 : b ≤ 36
  all_goals
    have e1 : right b = (decide (2 ≤ b) && decide (b ≤ 36)) := rfl
    simp only [h1, h2, decide_true, decide_false, Bool.and_true, Bool.and_false] at e1
    go_enter Try.func116, Try.ntmps116
    go_wp2
    go_ret
    exact ⟨by simp [e1], rfl⟩

set_option maxHeartbeats 400000 in
theorem value_any (c : Int) (h0 : 0 ≤ c) (h1 : c ≤ 255) (w : World) :
    Calls Try.prog 118 #[.int .u8 c] w fun e w' => e = .returned (.int .i64 (val c)) ∧ w' = w := by
  by_cases a1 : 48 ≤ c <;> by_cases a2 : c ≤ 57 <;> by_cases a3 : 65 ≤ c <;> by_cases a4 : c ≤ 90 <;> by_cases a5 : 97 ≤ c <;> by_cases a6 : c ≤ 122 <;> try omega
  all_goals
    go_enter Try.func118, Try.ntmps118
    go_wp2
    go_ret
    exact ⟨ret_int (by unfold val; split <;> (try split) <;> (try split) <;> omega), rfl⟩


set_option maxHeartbeats 400000 in
theorem prefix_any (s : ByteArray) (b : Int) (w : World) (hs : s.size ≤ maxLen) :
    Calls Try.prog 62 #[.string s, .int .i64 b] w fun e w' => e = .returned (.tuple #[.string (pre s b).1, .int .i64 (pre s b).2]) ∧ w' = w := by
  unfold maxLen at hs
  by_cases h0 : s.size = 0
  · obtain rfl := empty_of s h0
    have HP : Hid (pre ByteArray.empty b = (ByteArray.empty, b)) := Lib.hid rfl
    go_enter Try.func62, Try.ntmps62
    go_wp2
    go_ret2
    rw [HP.out]
    exact ⟨rfl, rfl⟩
  · have hp : 0 < s.size := by omega
    have hf := full_of hp
    go_enter Try.func62, Try.ntmps62
    go_wp2
    all_goals
      go_ret2
      have HP := pre_full s b hp
      simp only [*, if_true, if_false, Bool.false_eq_true] at HP
      rw [HP]
      exact ⟨rfl, rfl⟩

set_option maxHeartbeats 400000 in
theorem digits_any (s : ByteArray) (b : Int) (w : World) (hs : s.size ≤ maxLen) (hb0 : -9223372036854775808 ≤ b) (hb1 : b ≤ 9223372036854775807) :
    Calls Try.prog 63 #[.string s, .int .i64 b] w fun e w' => e = .returned (.tuple #[.int .u64 (digs s b).1, .bool (digs s b).2]) ∧ w' = w := by
  unfold maxLen at hs
  by_cases h0 : s.size = 0
  · obtain rfl := empty_of s h0
    have HP : Hid (digs ByteArray.empty b = (0, false)) := Lib.hid rfl
    go_enter Try.func63, Try.ntmps63
    go_wp2
    go_ret2
    rw [HP.out]
    exact ⟨rfl, rfl⟩
  · have hp : 0 < s.size := by omega
    have hf := full_of hp
    by_cases hr : right b = true
    · go_enter Try.func63, Try.ntmps63
      go_wp2_with (go_at_call 116; refine (right_any _ _).mono ?_; rintro e w' ⟨rfl, rfl⟩)
      have hbb : 2 ≤ b ∧ b ≤ 36 := by simpa [right] using hr
      obtain ⟨hb2, hb3⟩ := hbb
      go_loop [6, 18] (fun n i => ∃ k : Nat, k ≤ s.size ∧ i = .int .i64 k ∧ n = .int .u64 (m64 (dig b (s.data.toList.take k))) ∧ allDig b (s.data.toList.take k) = true) (fun _ i => s.size - (intOf i).toNat)
      case atStart => exact ⟨0, Nat.zero_le _, rfl, rfl, rfl⟩
      case round =>
        obtain ⟨k, hk, rfl, rfl, had⟩ := hrel
        have HAD := Lib.hid had
        clear had
        have hm := m64_bd (dig b (s.data.toList.take k))
        by_cases hlt : k < s.size
        · have hc0 : 0 ≤ (s[k].toNat : Int) := by omega
          have hc1 : (s[k].toNat : Int) ≤ 255 := by have := s[k].toNat_lt; omega
          have hv := val_bd (s[k].toNat : Int)
          by_cases hge : b ≤ val s[k].toNat
          · go_wp2_with (go_at_call 118; refine (value_any _ hc0 hc1 _).mono ?_; rintro e w' ⟨rfl, rfl⟩)
            go_ret2
            rw [digs_bad s b k hlt hge]
            exact ⟨rfl, rfl⟩
          · have hge' : ¬ b ≤ val s[k].toNat := hge
            go_wp2_with (go_at_call 118; refine (value_any _ hc0 hc1 _).mono ?_; rintro e w' ⟨rfl, rfl⟩)
            go_round
            case rel =>
              refine ⟨k + 1, by omega, by go_num, ?_, by rw [take_snoc s k hlt, allDig_snoc, HAD.out]; simpa using hge⟩
              rw [take_snoc s k hlt, dig_snoc, wrap_u64, wrap_u64, m64_step]
            case measure => simp [intOf]; omega
        · obtain rfl : k = s.size := by omega
          go_wp2
          go_ret2
          have HA := HAD.out
          rw [take_all] at HA
          rw [digs_good s b hp hr HA, take_all]
          exact ⟨rfl, rfl⟩
    · have hr' : right b = false := by simpa using hr
      have HR := Lib.hid (digs_right s b hr')
      clear hr
      go_enter Try.func63, Try.ntmps63
      go_wp2_with (go_at_call 116; refine (right_any _ _).mono ?_; rintro e w' ⟨rfl, rfl⟩)
      go_ret2
      rw [HR.out]
      exact ⟨rfl, rfl⟩

set_option maxHeartbeats 400000 in
theorem parse_quoted (s : ByteArray) (b : Int) (w : World) (h3 : s.size = 3) (h0 : ((s[0].toNat : Int) == 39) = true) (h2 : ((s[2].toNat : Int) == 39) = true) :
    Calls Try.prog 12 #[.string s, .int .i64 b] w fun e w' => e = .returned (.tuple #[.int .i64 (pars s b).1, .bool (pars s b).2]) ∧ w' = w := by
  have e3 : ((s.size : Int) == 3) = true := by simp [h3]
  have l3 : 2 < s.size := by omega
  have hb : (s[1].toNat : Int) ≤ 255 := by have := s[1].toNat_lt; omega
  have HP := Lib.hid (pars_quoted s b h3 h0 h2)
  go_enter Try.func12, Try.ntmps12
  go_wp2_with fail
  go_ret2
  rw [HP.out]
  exact ⟨rfl, rfl⟩

set_option maxHeartbeats 400000 in
theorem parse_any (s : ByteArray) (b : Int) (w : World) (hs : s.size ≤ maxLen) (hb0 : -9223372036854775808 ≤ b) (hb1 : b ≤ 9223372036854775807) :
    Calls Try.prog 12 #[.string s, .int .i64 b] w fun e w' => e = .returned (.tuple #[.int .i64 (pars s b).1, .bool (pars s b).2]) ∧ w' = w := by
  by_cases hq : quoted s = true
  · have h3 : s.size = 3 := by
      apply Decidable.byContradiction
      intro h
      rw [quoted_size s h] at hq
      cases hq
    rw [quoted3 s h3, Bool.and_eq_true] at hq
    exact parse_quoted s b w h3 hq.1 hq.2
  have hq : quoted s = false := by simpa using hq
  have hbd := pre_bd s b hb0 hb1
  obtain ⟨t, c, hp⟩ : ∃ t c, pre s b = (t, c) := ⟨_, _, rfl⟩
  have hcall := fun w : World => prefix_any s b w hs
  rw [hp] at hbd hcall
  simp only [] at hbd hcall
  have HC := Lib.hid hcall
  clear hcall
  have hts : t.size ≤ maxLen := Nat.le_trans hbd.1 hs
  obtain ⟨_, hc0, hc1⟩ := hbd
  unfold maxLen at hs hts
  by_cases ht : t.size = 0
  · obtain rfl := empty_of t ht
    have HE := Lib.hid (pars_empty s b hq c hp)
    have HD : Hid (digs ByteArray.empty c = (0, false)) := Lib.hid rfl
    have hdig := fun w : World => digits_any ByteArray.empty c w (by simp) hc0 hc1
    rw [HD.out] at hdig
    have HG := Lib.hid hdig
    have hw3 := not_quoted s hq
    clear hdig hp hq ht
    rcases hw3 with e3 | ⟨l3, e3, q0⟩ | ⟨l3, e3, q0, q2⟩
    all_goals
      go_enter Try.func12, Try.ntmps12
      go_wp2_with (first | (go_at_call 62; refine (HC.out _).mono ?_; rintro e w' ⟨rfl, rfl⟩) | (go_at_call 63; refine (HG.out _).mono ?_; rintro e w' ⟨rfl, rfl⟩))
      go_ret2
      rw [HE.out]
      exact ⟨rfl, rfl⟩
  · have ht : 0 < t.size := by omega
    have hf := full_of ht
    have hw3 := not_quoted s hq
    cases hm : ((t[0].toNat : Int) == 45) with
    | true =>
      have HE := Lib.hid (pars_minus s b hq t c hp ht hm)
      have hdig := fun w : World => digits_any (t.extract 1 t.size) c w (by unfold maxLen; simp; omega) hc0 hc1
      obtain ⟨n, ok, hd⟩ : ∃ n ok, digs (t.extract 1 t.size) c = (n, ok) := ⟨_, _, rfl⟩
      rw [hd] at hdig
      have HG := Lib.hid hdig
      have HD := Lib.hid hd
      clear hdig hp hq hd
      rcases hw3 with e3 | ⟨l3, e3, q0⟩ | ⟨l3, e3, q0, q2⟩
      all_goals
        go_enter Try.func12, Try.ntmps12
        go_wp2_with (first | (go_at_call 62; refine (HC.out _).mono ?_; rintro e w' ⟨rfl, rfl⟩) | (go_at_call 63; refine (HG.out _).mono ?_; rintro e w' ⟨rfl, rfl⟩))
        go_ret2
        rw [HE.out, HD.out]
        exact ⟨rfl, rfl⟩
    | false =>
      have HE := Lib.hid (pars_plus s b hq t c hp ht hm)
      have hdig := fun w : World => digits_any t c w (by unfold maxLen; omega) hc0 hc1
      obtain ⟨n, ok, hd⟩ : ∃ n ok, digs t c = (n, ok) := ⟨_, _, rfl⟩
      rw [hd] at hdig
      have HG := Lib.hid hdig
      have HD := Lib.hid hd
      clear hdig hp hq hd
      rcases hw3 with e3 | ⟨l3, e3, q0⟩ | ⟨l3, e3, q0, q2⟩
      all_goals
        go_enter Try.func12, Try.ntmps12
        go_wp2_with (first | (go_at_call 62; refine (HC.out _).mono ?_; rintro e w' ⟨rfl, rfl⟩) | (go_at_call 63; refine (HG.out _).mono ?_; rintro e w' ⟨rfl, rfl⟩))
        go_ret2
        rw [HE.out, HD.out]
        exact ⟨rfl, rfl⟩
end Go.Proofs.Ytcimiijmffblgaa.Num
