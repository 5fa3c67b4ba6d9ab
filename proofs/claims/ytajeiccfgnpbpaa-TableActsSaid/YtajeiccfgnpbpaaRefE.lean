/- Contracts of the document's answers for tables: New. -/
import Derived.Test.YtajeiccfgnpbpaaRefD
import Derived.Test.YtajeiccfgnpbpaaTabR
namespace Go.Proofs.Ytajeiccfgnpbpaa.Mem
open Go.RowKit

set_option maxRecDepth 100000 in
set_option maxHeartbeats 2000000 in
theorem rtnew_any (b p g a z x : Nat) (n : Int) (bs : List UInt8) (w : World) (h : Rat w b p g a z x bs) (h8 : x % 8 = 0) :
    Calls Try.prog 18 #[.pointer (some ⟨b, 0, none⟩), .int .i64 n] w
      fun e w' => e = .returned (.tuple #[.int .i64 (newv z x bs n).1.1, .int .i64 (newv z x bs n).1.2]) ∧ Rat w' b p g a z (newv z x bs n).2.1 (newv z x bs n).2.2 ∧ Both b g w w' := by
  obtain ⟨q0, q1, q2, q3⟩ := h.cells
  have HA := Lib.hid (ralign_ok b p g a z x bs w h h8)
  have H := Lib.hid h
  have hbd := h.bd
  by_cases h1 : 1 ≤ n
  · by_cases h2 : n ≤ 1024
    · obtain ⟨m, rfl⟩ : ∃ m : Nat, n = m := ⟨n.toNat, by omega⟩
      obtain ⟨r, hr⟩ : ∃ r, layt z x bs m = r := ⟨_, rfl⟩
      have hv : newv z x bs m = if r.2.2 = true then (((x : Int), 0), r.1, r.2.1) else ((0, -8), x, r.2.1) := by
        unfold newv
        rw [if_pos ⟨h1, h2⟩, Int.toNat_natCast, hr]
      obtain ⟨⟨⟨v1, v2⟩, vy, vcs⟩, hvv⟩ : ∃ v, newv z x bs m = v := ⟨_, rfl⟩
      rw [hvv] at hv ⊢
      dsimp only
      have HV := Lib.hid hv
      clear hv hvv
      have hC : ∃ (cc : Int) (y : Nat) (cs : List UInt8), Calls Try.prog 62 #[.pointer (some ⟨b, 0, none⟩), .int .i64 m] w (fun e w' => e = .returned (.int .i64 cc) ∧ Rat w' b p g a z y cs ∧ Both b g w w') ∧
          y % 8 = 0 ∧ x ≤ y ∧ ((cc = 0 ∧ layz z (1 + 3 * m) y cs = r) ∨ (cc = -8 ∧ r = (y, cs, false))) := by
        by_cases hz : x + 8 ≤ z
        · refine ⟨0, x + 8, setv bs x m, rcomma_ok b p g a z x bs m w h h8 hz, by omega, by omega, .inl ⟨rfl, ?_⟩⟩
          rw [← hr, layt, if_pos hz]
        · exact ⟨-8, x, bs, (rcomma_full b p g a z x bs m w h hz).mono (fun _ _ ⟨e1, e2, e3⟩ => ⟨e1, e2, Fr.some e3 (fun _ e => e.elim)⟩), h8, Nat.le_refl _, .inr ⟨rfl, by rw [← hr, layt, if_neg hz]⟩⟩
      obtain ⟨cc, y, cs, hc, hy8, hxy, hst⟩ := hC
      have HC := Lib.hid hc
      have HST := Lib.hid hst
      have HQ := Lib.hid (fun y cs w (h : Rat w b p g a z y cs) (h8 : y % 8 = 0) (hz : y + 8 ≤ z) => rcomma_ok b p g a z y cs 0 w h h8 hz)
      have HFu := Lib.hid (fun y cs w (h : Rat w b p g a z y cs) (hz : ¬ y + 8 ≤ z) => rcomma_full b p g a z y cs 0 w h hz)
      have hmb : m ≤ 1024 := by omega
      have hcc : cc = 0 ∨ cc = -8 := by rcases hst with h | h <;> simp [h.1]
      have HY := Lib.hid (And.intro hy8 hxy)
      have hax : a ≤ x := hbd.1
      have hxz : x ≤ z := hbd.2.1
      have hxb : x ≤ 1048576 := by omega
      clear h hr hc hst hbd hy8 hxy h8
      go_enter Try.func18, Try.ntmps18
      go_wp2_with (first | (go_at_call 61; refine HA.out.mono ?_; rintro e w' ⟨rfl, h0⟩; obtain rfl := h0.symm) | (go_at_call 62; refine HC.out.mono ?_; rintro e w1 ⟨rfl, hs, hf⟩; have HS1 := Lib.hid hs; have HF1 := Lib.hid hf; clear hs hf))
      go_loopw [7, 9] (fun ev iv wr => ∃ k : Nat, k ≤ 1 + 3 * m ∧ iv = .int .i64 k ∧ ∃ (c' : Int) (y : Nat) (cs : List UInt8), ev = .int .i64 c' ∧ Rat wr b p g a z y cs ∧ y % 8 = 0 ∧ x ≤ y ∧ ((c' = 0 ∧ layz z (1 + 3 * m - k) y cs = r) ∨ (c' = -8 ∧ r = (y, cs, false))) ∧ Both b g w wr) (fun _ iv _ => 1 + 3 * m - (intOf iv).toNat)
      case atStart => exact ⟨0, by omega, rfl, cc, y, cs, rfl, HS1.out, HY.out.1, HY.out.2, HST.out, HF1.out⟩
      case round =>
        obtain ⟨k, hk, rfl, c', y', cs', rfl, hS, hy8, hxy, hst, hB⟩ := hrel
        have HB := Lib.hid hB
        have HS := Lib.hid hS
        clear hS hB
        by_cases hlt : k < 1 + 3 * m
        · have hltI : (k : Int) < 1 + 3 * (m : Int) := by omega
          rcases hst with ⟨rfl, hr⟩ | ⟨rfl, hr⟩
          · rw [show 1 + 3 * m - k = (1 + 3 * m - (k + 1)) + 1 by omega, layz] at hr
            by_cases hfit : y' + 8 ≤ z
            · rw [if_pos hfit] at hr
              have HC2 := Lib.hid (HQ.out _ _ _ HS.out hy8 hfit)
              have HR2 := Lib.hid hr
              clear hr
              go_wp2_with (go_at_call 62; refine HC2.out.mono ?_; rintro e w2 ⟨rfl, hs, hf⟩; have HS3 := Lib.hid hs; have HF3 := Lib.hid hf; clear hs hf)
              go_roundw
              case rel => exact ⟨k + 1, by omega, by go_num, 0, _, _, rfl, HS3.out, by omega, by omega, .inl ⟨rfl, HR2.out⟩, HB.out.trans HF3.out⟩
              case measure => simp only [intOf]; omega
            · rw [if_neg hfit] at hr
              have HC2 := Lib.hid (HFu.out _ _ _ HS.out hfit)
              have HR2 := Lib.hid hr
              clear hr
              go_wp2_with (go_at_call 62; refine HC2.out.mono ?_; rintro e w2 ⟨rfl, hs, hf⟩; have HS3 := Lib.hid hs; have HF3 := Lib.hid hf; clear hs hf)
              go_roundw
              case rel => exact ⟨k + 1, by omega, by go_num, -8, _, _, rfl, HS3.out, hy8, hxy, .inr ⟨rfl, HR2.out.symm⟩, HB.out.trans (Fr.some HF3.out fun _ e => e.elim)⟩
              case measure => simp only [intOf]; omega
          · have HR2 := Lib.hid hr
            clear hr
            go_wp2
            go_roundw
            case rel => exact ⟨k + 1, by omega, by go_num, -8, _, _, rfl, HS.out, hy8, hxy, .inr ⟨rfl, HR2.out⟩, HB.out⟩
            case measure => simp only [intOf]; omega
        · obtain rfl : k = 1 + 3 * m := by omega
          rcases hst with ⟨rfl, hr⟩ | ⟨rfl, hr⟩
          · rw [Nat.sub_self, layz] at hr
            have HR2 := Lib.hid hr
            clear hr
            go_wp2
            go_ret2
            have hv := HV.out
            rw [← HR2.out, if_pos rfl] at hv
            cases hv
            exact ⟨rfl, HS.out, HB.out⟩
          · obtain ⟨k0, k1, k2, k3⟩ := HS.out.cells
            have k4 := HS.out.free 3
            have HR2 := Lib.hid hr
            clear hr
            go_wp2
            go_ret2
            have hv := HV.out
            rw [HR2.out, if_neg (by simp)] at hv
            cases hv
            exact ⟨rfl, HS.out.move x hax hxz, Fr.setCell (S := fun j => j = b ∨ j = g) HB.out (.inr (.inl rfl)) _⟩
    · unfold newv
      rw [if_neg (fun e => h2 e.2)]
      clear h
      go_enter Try.func18, Try.ntmps18
      go_wp2
      go_ret2
      exact ⟨rfl, H.out, Fr.refl _ _⟩
  · unfold newv
    rw [if_neg (fun e => h1 e.1)]
    clear h
    go_enter Try.func18, Try.ntmps18
    go_wp2
    go_ret2
    exact ⟨rfl, H.out, Fr.refl _ _⟩
end Go.Proofs.Ytajeiccfgnpbpaa.Mem
