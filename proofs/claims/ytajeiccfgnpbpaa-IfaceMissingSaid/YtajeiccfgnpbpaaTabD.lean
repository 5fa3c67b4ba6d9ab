/- Contracts of package table: New. -/
import Derived.Test.YtajeiccfgnpbpaaTabC
namespace Go.Proofs.Ytajeiccfgnpbpaa.Mem
open Go.RowKit

/-- What laying a table tells: its place and the code. -/
def laycode (x : Nat) (r : Nat × List UInt8 × Bool) : Int × Int := if r.2.2 = true then (x, 0) else (0, -8)

theorem Fr.some {S T : Nat → Prop} {a b : World} (h : Fr S a b) (hs : ∀ k, S k → T k) : Fr T a b := h.mono fun k _ s => hs k s

set_option maxRecDepth 100000 in
set_option maxHeartbeats 2000000 in
theorem tlay_any (b p g a z x n : Nat) (bs : List UInt8) (w : World) (h : Sat w b p g a z x bs) (h8 : x % 8 = 0) (hn : 1 ≤ n ∧ n ≤ 1024) :
    Calls Try.prog 59 #[.pointer (some ⟨b, 0, none⟩), .int .i64 n] w
      fun e w' => e = .returned (.tuple #[.int .i64 (laycode x (layt z x bs n)).1, .int .i64 (laycode x (layt z x bs n)).2]) ∧ Sat w' b p g a z (layt z x bs n).1 (layt z x bs n).2.1 ∧ Both b g w w' := by
  have HA := Lib.hid (align_ok b p g a z x bs w h h8)
  have HH := Lib.hid (here_any b p g a z x bs w h)
  have HZ := Lib.hid (fun w => tsize_any n (by omega) w)
  have H := Lib.hid h
  by_cases hz : x + 8 ≤ z
  · have HC := Lib.hid (comma_ok b p g a z x bs n w h h8 hz)
    have hl : layt z x bs n = layz z (1 + 3 * n) (x + 8) (setv bs x n) := by unfold layt; rw [if_pos hz]
    rw [hl]
    obtain ⟨r, hr⟩ : ∃ r, layz z (1 + 3 * n) (x + 8) (setv bs x n) = r := ⟨_, rfl⟩
    rw [hr]
    have HR := Lib.hid hr
    have HQ := Lib.hid (fun y cs w (h : Sat w b p g a z y cs) (h8 : y % 8 = 0) (hz : y + 8 ≤ z) => comma_ok b p g a z y cs 0 w h h8 hz)
    have HF := Lib.hid (fun y cs w (h : Sat w b p g a z y cs) (hz : ¬ y + 8 ≤ z) => comma_full b p g a z y cs 0 w h hz)
    have H88 := Lib.hid h8
    clear h hl hr h8
    have HMM := Lib.hid (show ((16 + (n : Int) * 24) / 8 - 1) = ((1 + 3 * n : Nat) : Int) by omega)
    obtain ⟨m, hm⟩ : ∃ m, 1 + 3 * n = m := ⟨_, rfl⟩
    rw [hm] at HMM HR
    have hmb : m ≤ 3073 := by omega
    clear hm
    go_enter Try.func59, Try.ntmps59
    go_wp2_with (first | (go_at_call 101; refine HA.out.mono ?_; rintro e w' ⟨rfl, h0⟩; obtain rfl := h0.symm) | (go_at_call 21; refine HH.out.mono ?_; rintro e w' ⟨rfl, h0⟩; obtain rfl := h0.symm) | (go_at_call 102; refine HC.out.mono ?_; rintro e w1 ⟨rfl, hs, hf⟩; have HS1 := Lib.hid hs; have HF1 := Lib.hid hf; clear hs hf) | (go_at_call 53; refine (HZ.out _).mono ?_; rintro e w' ⟨rfl, h0⟩; obtain rfl := h0.symm))
    rw [HMM.out]
    go_loopw [27] (fun iv wr => ∃ k : Nat, k ≤ m ∧ iv = .int .i64 k ∧ ∃ cs, layz z (m - k) (x + 8 + 8 * k) cs = r ∧ Sat wr b p g a z (x + 8 + 8 * k) cs ∧ Both b g w wr) (fun iv _ => m - (intOf iv).toNat)
    case atStart => exact ⟨0, by omega, rfl, _, HR.out, HS1.out, HF1.out⟩
    case round =>
      obtain ⟨k, hk, rfl, cs, hr, hS, hB⟩ := hrel
      have HB := Lib.hid hB
      have HS := Lib.hid hS
      by_cases hlt : k < m
      · rw [show m - k = (m - (k + 1)) + 1 by omega, layz] at hr
        by_cases hfit : x + 8 + 8 * k + 8 ≤ z
        · rw [if_pos hfit] at hr
          have HC2 := Lib.hid (HQ.out _ _ _ hS (by have := H88.out; omega) hfit)
          have HR2 := Lib.hid hr
          clear hr hS hB
          go_wp2_with (go_at_call 102; refine HC2.out.mono ?_; rintro e w2 ⟨rfl, hs, hf⟩; have HS3 := Lib.hid hs; have HF3 := Lib.hid hf; clear hs hf)
          go_roundw
          case rel => exact ⟨k + 1, by omega, by go_num, _, by rw [← HR2.out]; rfl, HS3.out, HB.out.trans HF3.out⟩
          case measure => simp only [intOf]; omega
        · rw [if_neg hfit] at hr
          have HC2 := Lib.hid (HF.out _ _ _ hS hfit)
          have HR2 := Lib.hid hr
          clear hr hS hB
          go_wp2_with (go_at_call 102; refine HC2.out.mono ?_; rintro e w2 ⟨rfl, hs, hf⟩; have HS3 := Lib.hid hs; have HF3 := Lib.hid hf; clear hs hf)
          go_ret2
          rw [← HR2.out]
          exact ⟨rfl, HS3.out, HB.out.trans (Fr.some HF3.out fun _ e => e.elim)⟩
      · obtain rfl : k = m := by omega
        rw [Nat.sub_self, layz] at hr
        have HR2 := Lib.hid hr
        clear hr hS hB
        go_wp2
        go_ret2
        rw [← HR2.out]
        exact ⟨rfl, HS.out, HB.out⟩
  · have HC := Lib.hid (comma_full b p g a z x bs n w h hz)
    have hl : layt z x bs n = (x, bs, false) := by unfold layt; rw [if_neg hz]
    rw [hl]
    clear h hl h8
    go_enter Try.func59, Try.ntmps59
    go_wp2_with (first | (go_at_call 101; refine HA.out.mono ?_; rintro e w' ⟨rfl, h0⟩; obtain rfl := h0.symm) | (go_at_call 21; refine HH.out.mono ?_; rintro e w' ⟨rfl, h0⟩; obtain rfl := h0.symm) | (go_at_call 102; refine HC.out.mono ?_; rintro e w1 ⟨rfl, hs, hf⟩; have HS1 := Lib.hid hs; have HF1 := Lib.hid hf; clear hs hf))
    go_ret2
    exact ⟨rfl, HS1.out, Fr.some HF1.out fun _ e => e.elim⟩

/-- What New tells, where allocation stands then, and the bytes. -/
def newv (z x : Nat) (bs : List UInt8) (n : Int) : (Int × Int) × Nat × List UInt8 :=
  if 1 ≤ n ∧ n ≤ 1024 then (if (layt z x bs n.toNat).2.2 = true then ((x, 0), (layt z x bs n.toNat).1, (layt z x bs n.toNat).2.1) else ((0, -8), x, (layt z x bs n.toNat).2.1)) else ((0, -256), x, bs)

set_option maxRecDepth 100000 in
set_option maxHeartbeats 2000000 in
theorem tnew_any (b p g a z x : Nat) (n : Int) (bs : List UInt8) (w : World) (h : Sat w b p g a z x bs) (h8 : x % 8 = 0) :
    Calls Try.prog 17 #[.pointer (some ⟨b, 0, none⟩), .int .i64 n] w
      fun e w' => e = .returned (.tuple #[.int .i64 (newv z x bs n).1.1, .int .i64 (newv z x bs n).1.2]) ∧ Sat w' b p g a z (newv z x bs n).2.1 (newv z x bs n).2.2 ∧ Both b g w w' := by
  have HH := Lib.hid (here_any b p g a z x bs w h)
  have H := Lib.hid h
  unfold newv
  by_cases h1 : 1 ≤ n
  · by_cases h2 : n ≤ 1024
    · rw [if_pos ⟨h1, h2⟩]
      obtain ⟨m, rfl⟩ : ∃ m : Nat, n = m := ⟨n.toNat, by omega⟩
      rw [Int.toNat_natCast]
      have HL := Lib.hid (tlay_any b p g a z x m bs w h h8 (by omega))
      have hinv := layt_inv z x bs m h.bd.2.1
      have hbd := h.bd
      obtain ⟨⟨y, cs, ok⟩, hr⟩ : ∃ r, layt z x bs m = r := ⟨_, rfl⟩
      rw [hr] at HL hinv ⊢
      have HI := Lib.hid hinv
      have HBd := Lib.hid hbd
      have hxb : x ≤ 1048576 := by omega
      clear h hr hinv hbd
      cases ok with
      | true =>
        simp only [laycode, if_true] at HL ⊢
        go_enter Try.func17, Try.ntmps17
        go_wp2_with (first | (go_at_call 21; refine HH.out.mono ?_; rintro e w' ⟨rfl, h0⟩; obtain rfl := h0.symm) | (go_at_call 59; refine HL.out.mono ?_; rintro e w1 ⟨rfl, hs, hf⟩; have HS1 := Lib.hid hs; have HF1 := Lib.hid hf; clear hs hf))
        go_ret2
        exact ⟨rfl, HS1.out, HF1.out⟩
      | false =>
        simp only [laycode, Bool.false_eq_true, if_false] at HL ⊢
        have HK := Lib.hid (fun w (h : Sat w b p g a z y cs) => back_ok b p g a z y x cs w h HBd.out.1 HI.out.1)
        go_enter Try.func17, Try.ntmps17
        go_wp2_with (first | (go_at_call 21; refine HH.out.mono ?_; rintro e w' ⟨rfl, h0⟩; obtain rfl := h0.symm) | (go_at_call 59; refine HL.out.mono ?_; rintro e w1 ⟨rfl, hs, hf⟩; have HS1 := Lib.hid hs; have HF1 := Lib.hid hf; clear hs hf) | (go_at_call 60; refine (HK.out _ HS1.out).mono ?_; rintro e w2 ⟨rfl, hs, hf⟩; have HS2 := Lib.hid hs; have HF2 := Lib.hid hf; clear hs hf))
        go_ret2
        exact ⟨rfl, HS2.out, HF1.out.trans (Fr.some HF2.out fun _ e => .inl e)⟩
    · rw [if_neg (fun e => h2 e.2)]
      clear h
      go_enter Try.func17, Try.ntmps17
      go_wp2
      go_ret2
      exact ⟨rfl, H.out, Fr.refl _ _⟩
  · rw [if_neg (fun e => h1 e.1)]
    clear h
    go_enter Try.func17, Try.ntmps17
    go_wp2
    go_ret2
    exact ⟨rfl, H.out, Fr.refl _ _⟩
end Go.Proofs.Ytajeiccfgnpbpaa.Mem
