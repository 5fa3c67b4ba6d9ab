/- Contracts of the document's answers for numbers as texts (the reference's parser). -/
import Derived.Test.YtcimiijmffblgaaChecked
import Derived.Test.YtcimiijmffblgaaNumP
import Derived.WalkKit
import Derived.WalkSpells
import Derived.WalkLawsBesides
import Derived.Lib.Hide
import Derived.Lib.Strings
import Derived.BigQuiet
import Derived.Deep.DeepCutAuto
import Derived.Deep.LoopGhost
namespace Go.Proofs.Ytcimiijmffblgaa.Num
open Go.RowKit

set_option maxHeartbeats 400000 in
theorem place_any (s : ByteArray) (c : Int) (w : World) (hs : s.size ≤ maxLen) :
    Calls Try.prog 119 #[.string s, .int .u8 c] w fun e w' => e = .returned (.int .i64 (plc s.data.toList c)) ∧ w' = w := by
  unfold maxLen at hs
  go_enter Try.func119, Try.ntmps119
  go_wp2
  go_loop [5] (fun i => ∃ k : Nat, k ≤ s.size ∧ i = .int .i64 k ∧ ∀ j, j < k → (s.data.toList[j]?.map fun a => (a.toNat : Int)) ≠ some c) (fun i => s.size - (intOf i).toNat)
  case atStart => exact ⟨0, Nat.zero_le _, rfl, fun j hj => absurd hj (Nat.not_lt_zero j)⟩
  case round =>
    obtain ⟨k, hk, rfl, hno⟩ := hrel
    have HN := Lib.hid hno
    clear hno
    by_cases hlt : k < s.size
    · cases hc : ((s[k].toNat : Int) == c) with
      | true =>
        go_wp2
        go_ret
        exact ⟨ret_int (plc_hit s c k hlt (by simpa using hc) HN.out).symm, rfl⟩
      | false =>
        go_wp2
        go_round
        case rel => exact ⟨k + 1, by omega, by go_num, plc_next s c k hlt (by simpa using hc) HN.out⟩
        case measure => simp [intOf]; omega
    · obtain rfl : k = s.size := by omega
      go_wp2
      go_ret
      exact ⟨ret_int (plc_none s c HN.out).symm, rfl⟩

theorem fig_of {c b x y : Int} (HC : Hid ((if x < y then y else x) = if val c = 36 then -1 else val c)) (hbd : 0 ≤ val c ∧ val c ≤ 36) :
    figv c b = if b ≤ (if x < y then y else x) then -1 else (if x < y then y else x) := by
  rw [HC.out]
  unfold figv
  split <;> split <;> (try split) <;> omega

set_option maxHeartbeats 400000 in
theorem figure_any (c b : Int) (w : World) (h0 : 0 ≤ c) (h1 : c ≤ 255) :
    Calls Try.prog 64 #[.int .u8 c, .int .i64 b] w fun e w' => e = .returned (.int .i64 (figv c b)) ∧ w' = w := by
  have hA := fun w : World => place_any capitals c w (by decide)
  have hB := fun w : World => place_any smalls c w (by decide)
  have HC := Lib.hid (plc_both ⟨c.toNat, by omega⟩)
  have b1 := plc_bd capitals.data.toList c
  have b2 := plc_bd smalls.data.toList c
  have hbd := val_bd c
  rw [show ((⟨c.toNat, by omega⟩ : Fin 256).val : Int) = c from by simp; omega] at HC
  generalize plc capitals.data.toList c = x at *
  generalize plc smalls.data.toList c = y at *
  have HF := Lib.hid (fig_of (b := b) HC hbd)
  have HA := Lib.hid hA
  have HB := Lib.hid hB
  clear hA hB HC
  have l1 : capitals.data.toList.length = 36 := by decide
  have l2 : smalls.data.toList.length = 36 := by decide
  rw [l1] at b1
  rw [l2] at b2
  clear l1 l2
  by_cases hxy : x < y <;> simp only [hxy, if_true, if_false] at HF
  all_goals
    go_enter Try.func64, Try.ntmps64
    go_wp2_with fail
    refine (HA.out _).mono ?_
    rintro e w' ⟨rfl, rfl⟩
    go_wp2_with fail
    refine (HB.out _).mono ?_
    rintro e w' ⟨rfl, rfl⟩
    go_wp2_with fail
    all_goals
      go_ret
      refine ⟨ret_int ?_, rfl⟩
      rw [HF.out]
      split <;> omega

set_option maxRecDepth 100000 in
set_option maxHeartbeats 1000000 in
theorem refparse_rest (s : ByteArray) (b : Int) (w : World) (hs : s.size ≤ maxLen) (hb0 : -9223372036854775808 ≤ b) (hb1 : b ≤ 9223372036854775807) (hq : quoted s = false) :
    Calls Try.prog 13 #[.string s, .int .i64 b] w fun e w' => e = .returned (.tuple #[.int .i64 (pars s b).1, .bool (pars s b).2]) ∧ w' = w := by
  have hw3 := not_quoted s hq
  have hbd := pre_bd s b hb0 hb1
  have hle := pat_le s
  have HR := Lib.hid (pars_res s b hq)
  clear hq
  unfold maxLen at hs
  rcases hw3 with e3 | ⟨l3, e3, q0⟩ | ⟨l3, e3, q0, q2⟩
  all_goals
    go_enter Try.func13, Try.ntmps13
    go_upto_if 29 with (fail)
    go_cut [1, 6] (fun s1 s6 wc => s1 = .int .i64 (pre s b).2 ∧ s6 = .int .i64 (pat s) ∧ wc = w)
    case first =>
      by_cases h0 : s.size = 0
      · first
          | (exfalso; omega)
          | (obtain rfl := empty_of s h0
             go_wp2
             go_meet
             case rel => exact ⟨rfl, rfl, rfl⟩)
      · have hp : 0 < s.size := by omega
        have HP := Lib.hid (pre_full2 s b hp)
        have HA := Lib.hid (pat_full s hp)
        go_wp2
        all_goals
          go_meet
          case rel =>
            rw [HP.out, HA.out]
            simp [*]
    case rest =>
      obtain ⟨rfl, rfl, rfl⟩ := hcut
      obtain ⟨_, hc0, hc1⟩ := hbd
      generalize (pre s b).2 = c at *
      generalize pat s = a at *
      by_cases ha : a < s.size
      · have hh := drop_at s a ha
        cases hm : ((s[a].toNat : Int) == 45) with
        | true =>
          have hres := HR.out true (by rw [hh]; simpa using hm)
          simp only [if_true, if_false, Bool.false_eq_true] at hres
          have HE := Lib.hid hres
          clear hh hres
          by_cases hr : right c = true
          · have hbb : 2 ≤ c ∧ c ≤ 36 := by simpa [right] using hr
            obtain ⟨hb2, hb3⟩ := hbb
            have d1 : decide (c < 2) = false := by simp; omega
            have d2 : decide (36 < c) = false := by simp; omega
            by_cases hst : a + 1 < s.size
            · have d3 : decide ((s.size : Int) ≤ (a : Int) + 1) = false := by simp; omega
              have HN := Lib.hid (drop_ne s (a + 1) hst)
              have HQ := Lib.hid hr
              clear hr
              go_wp2
              go_loop [8, 9] (fun n i => ∃ k : Nat, a + 1 ≤ k ∧ k ≤ s.size ∧ i = .int .i64 k ∧ n = .int .i64 (wrap64 (dig c (upto s (a + 1) k))) ∧ allDig c (upto s (a + 1) k) = true) (fun _ i => s.size - (intOf i).toNat)
              case atStart => exact ⟨a + 1, Nat.le_refl _, by omega, by go_num, start_num s c (a + 1), by rw [upto_start]; rfl⟩
              case round =>
                obtain ⟨k, hk0, hk, rfl, rfl, had⟩ := hrel
                have HAD := Lib.hid had
                clear had
                by_cases hlt : k < s.size
                · have hz0 : 0 ≤ (s[k].toNat : Int) := by omega
                  have hz1 : (s[k].toNat : Int) ≤ 255 := by have := s[k].toNat_lt; omega
                  have hfv := figv_of (c := (s[k].toNat : Int)) hb2 hb3
                  by_cases hge : c ≤ val s[k].toNat
                  · have hneg : figv s[k].toNat c < 0 := hfv.1.2 hge
                    have HB := Lib.hid (bad_at s c (a + 1) k hk0 hlt hge)
                    clear hfv
                    go_wp2_with (go_at_call 64; refine (figure_any _ _ _ hz0 hz1).mono ?_; rintro e w' ⟨rfl, rfl⟩)
                    go_ret2
                    rw [HE.out, res_bad HB.out]
                    exact ⟨rfl, rfl⟩
                  · have HV := Lib.hid (hfv.2 hge)
                    have hpos : 0 ≤ figv s[k].toNat c := by rw [hfv.2 hge]; exact (val_bd _).1
                    clear hfv
                    go_wp2_with (go_at_call 64; refine (figure_any _ _ _ hz0 hz1).mono ?_; rintro e w' ⟨rfl, rfl⟩)
                    go_round
                    case rel =>
                      refine ⟨k + 1, by omega, by omega, by go_num, ?_, by rw [upto_snoc s (a + 1) k hk0 hlt, allDig_snoc, HAD.out]; simpa using hge⟩
                      rw [upto_snoc s (a + 1) k hk0 hlt, dig_snoc, HV.out, wrap_step]
                    case measure => simp [intOf]; omega
                · obtain rfl : k = s.size := by omega
                  go_wp2
                  go_ret2
                  have HA := HAD.out
                  rw [upto_all] at HA ⊢
                  rw [HE.out, res_good HN.out HQ.out HA]
                  rw [if_pos rfl, wrap_wneg]
                  exact ⟨rfl, rfl⟩
            · have HD := Lib.hid (drop_nil s (a + 1) (by omega))
              have d3 : decide ((s.size : Int) ≤ (a : Int) + 1) = true := by simp; omega
              clear hr
              go_wp2
              go_ret2
              rw [HE.out, HD.out]
              exact ⟨rfl, rfl⟩
          · have hr' : right c = false := by simpa using hr
            have HQ := Lib.hid hr'
            have hbb : c < 2 ∨ 36 < c := by
              by_cases h2 : c < 2
              · exact .inl h2
              · by_cases h3 : 36 < c
                · exact .inr h3
                · exact absurd (show right c = true by simp [right]; omega) hr
            clear hr hr'
            rcases hbb with hbb | hbb
            · go_wp2
              go_ret2
              rw [HE.out, res_right HQ.out]
              exact ⟨rfl, rfl⟩
            · have d1 : decide (c < 2) = false := by simp; omega
              go_wp2
              go_ret2
              rw [HE.out, res_right HQ.out]
              exact ⟨rfl, rfl⟩
        | false =>
          have hres := HR.out false (by rw [hh]; simpa using hm)
          simp only [if_true, if_false, Bool.false_eq_true] at hres
          have HE := Lib.hid hres
          clear hh hres
          by_cases hr : right c = true
          · have hbb : 2 ≤ c ∧ c ≤ 36 := by simpa [right] using hr
            obtain ⟨hb2, hb3⟩ := hbb
            have d1 : decide (c < 2) = false := by simp; omega
            have d2 : decide (36 < c) = false := by simp; omega
            by_cases hst : a < s.size
            · have d3 : decide (s.size ≤ a) = false := by simp; omega
              have HN := Lib.hid (drop_ne s (a) hst)
              have HQ := Lib.hid hr
              clear hr
              go_wp2
              go_loop [8, 9] (fun n i => ∃ k : Nat, a ≤ k ∧ k ≤ s.size ∧ i = .int .i64 k ∧ n = .int .i64 (wrap64 (dig c (upto s (a) k))) ∧ allDig c (upto s (a) k) = true) (fun _ i => s.size - (intOf i).toNat)
              case atStart => exact ⟨a, Nat.le_refl _, by omega, by go_num, start_num s c (a), by rw [upto_start]; rfl⟩
              case round =>
                obtain ⟨k, hk0, hk, rfl, rfl, had⟩ := hrel
                have HAD := Lib.hid had
                clear had
                by_cases hlt : k < s.size
                · have hz0 : 0 ≤ (s[k].toNat : Int) := by omega
                  have hz1 : (s[k].toNat : Int) ≤ 255 := by have := s[k].toNat_lt; omega
                  have hfv := figv_of (c := (s[k].toNat : Int)) hb2 hb3
                  by_cases hge : c ≤ val s[k].toNat
                  · have hneg : figv s[k].toNat c < 0 := hfv.1.2 hge
                    have HB := Lib.hid (bad_at s c (a) k hk0 hlt hge)
                    clear hfv
                    go_wp2_with (go_at_call 64; refine (figure_any _ _ _ hz0 hz1).mono ?_; rintro e w' ⟨rfl, rfl⟩)
                    go_ret2
                    rw [HE.out, res_bad HB.out]
                    exact ⟨rfl, rfl⟩
                  · have HV := Lib.hid (hfv.2 hge)
                    have hpos : 0 ≤ figv s[k].toNat c := by rw [hfv.2 hge]; exact (val_bd _).1
                    clear hfv
                    go_wp2_with (go_at_call 64; refine (figure_any _ _ _ hz0 hz1).mono ?_; rintro e w' ⟨rfl, rfl⟩)
                    go_round
                    case rel =>
                      refine ⟨k + 1, by omega, by omega, by go_num, ?_, by rw [upto_snoc s (a) k hk0 hlt, allDig_snoc, HAD.out]; simpa using hge⟩
                      rw [upto_snoc s (a) k hk0 hlt, dig_snoc, HV.out, wrap_step]
                    case measure => simp [intOf]; omega
                · obtain rfl : k = s.size := by omega
                  go_wp2
                  go_ret2
                  have HA := HAD.out
                  rw [upto_all] at HA ⊢
                  rw [HE.out, res_good HN.out HQ.out HA]
                  rw [if_neg (by simp)]
                  exact ⟨rfl, rfl⟩
            · have HD := Lib.hid (drop_nil s (a) (by omega))
              have d3 : decide (s.size ≤ a) = true := by simp; omega
              clear hr
              go_wp2
              go_ret2
              rw [HE.out, HD.out]
              exact ⟨rfl, rfl⟩
          · have hr' : right c = false := by simpa using hr
            have HQ := Lib.hid hr'
            have hbb : c < 2 ∨ 36 < c := by
              by_cases h2 : c < 2
              · exact .inl h2
              · by_cases h3 : 36 < c
                · exact .inr h3
                · exact absurd (show right c = true by simp [right]; omega) hr
            clear hr hr'
            rcases hbb with hbb | hbb
            · go_wp2
              go_ret2
              rw [HE.out, res_right HQ.out]
              exact ⟨rfl, rfl⟩
            · have d1 : decide (c < 2) = false := by simp; omega
              go_wp2
              go_ret2
              rw [HE.out, res_right HQ.out]
              exact ⟨rfl, rfl⟩
      · have hh := drop_nil s a (by omega)
        have hres := HR.out false (by rw [hh]; rfl)
        simp only [if_false, Bool.false_eq_true] at hres
        rw [hh, res_nil] at hres
        have HE := Lib.hid hres
        clear hh hres
        obtain rfl : a = s.size := by omega
        by_cases h2 : c < 2
        · go_wp2
          go_ret2
          rw [HE.out]
          exact ⟨rfl, rfl⟩
        · have d1 : decide (c < 2) = false := by simp; omega
          go_wp2
          all_goals (go_ret2; rw [HE.out]; exact ⟨rfl, rfl⟩)
end Go.Proofs.Ytcimiijmffblgaa.Num
