/- Contracts of the document's answers for tables: Look. -/
import Derived.Test.YtajeiccfgnpbpaaRefB
import Derived.Test.YtajeiccfgnpbpaaTabQ
namespace Go.Proofs.Ytajeiccfgnpbpaa.Mem
open Go.RowKit

set_option maxRecDepth 100000 in
set_option maxHeartbeats 2000000 in
theorem look_any (p g : Nat) (bs : List UInt8) (t sel : Int) (w : World) (h : Mat 112 w p g bs) :
    Calls Try.prog 64 #[.pointer (some ⟨p, 0, none⟩), .int .i64 t, .int .i64 sel] w fun e w' => e = .returned (.tuple #[.int .i64 (look bs t sel).1, .int .i64 (look bs t sel).2]) ∧ Fr (fun _ => False) w w' := by
  have HS := Lib.hid (rslots_any p g bs t w h)
  have H := Lib.hid h
  have hsb := slots_bd bs t
  have hin := @slots_in bs t
  have hbl := h.2.2.2
  unfold look
  obtain ⟨n, hn⟩ : ∃ n, slots bs t = n := ⟨_, rfl⟩
  rw [hn] at HS hsb hin ⊢
  by_cases hz : n = 0
  · rw [if_pos hz]
    subst hz
    clear h hn hin
    go_enter Try.func64, Try.ntmps64
    go_wp2_with (go_at_call 54; refine HS.out.mono ?_; rintro e w' ⟨rfl, h0⟩; obtain rfl := h0.symm)
    go_ret2
    exact ⟨rfl, Fr.refl _ _⟩
  · rw [if_neg hz]
    obtain ⟨h0, h1, h2, h3⟩ := hin hz
    have HR := Lib.hid (fun i w h hi => rread_any p g bs t i w h hi)
    have hhb := home_bd sel n (by omega)
    have hz' : (n == 0) = false := by simp [hz]
    obtain ⟨m, hm⟩ : ∃ m, home sel n = m := ⟨_, rfl⟩
    rw [hm] at hhb
    have e1 : (IntKind.u64.wrap sel).tmod 4294967296 = sel % 4294967296 := by
      rw [wrap_u64, Int.tmod_eq_emod_of_nonneg (m64_bd sel).1]; unfold m64; omega
    have e2 : (IntKind.u64.wrap (sel % 4294967296 * 2654435761)).tmod 4294967296 = sel % 4294967296 * 2654435761 % 4294967296 := by
      rw [wrap_u64, Int.tmod_eq_emod_of_nonneg (m64_bd _).1]; unfold m64; omega
    have hwr : wrap64 (((IntKind.u64.wrap ((IntKind.u64.wrap sel).tmod 4294967296 * 2654435761)).tmod 4294967296).tmod n) = m := by
      rw [e1, e2, Int.tmod_eq_emod_of_nonneg (Int.emod_nonneg _ (by omega)), show sel % 4294967296 * 2654435761 % 4294967296 % n = m from hm]
      unfold wrap64
      omega
    have HWR := Lib.hid hwr
    have HM := Lib.hid hm
    clear h hn hin hm e1 e2 hwr
    go_enter Try.func64, Try.ntmps64
    go_wp2_with (go_at_call 54; refine HS.out.mono ?_; rintro e w' ⟨rfl, h0⟩; obtain rfl := h0.symm)
    rw [HWR.out]
    go_loopw [10, 11] (fun kv iv wr => ∃ j : Nat, (j : Int) ≤ n ∧ iv = .int .i64 j ∧ kv = .int .i64 ((m + j) % n) ∧ Fr (fun _ => False) w wr ∧ probeI bs t sel n n.toNat 0 = probeI bs t sel n (n.toNat - j) j) (fun _ iv _ => n.toNat - (intOf iv).toNat)
    case atStart => exact ⟨0, by omega, rfl, by rw [show m + ((0 : Nat) : Int) = m by omega, Int.emod_eq_of_lt hhb.1 hhb.2], Fr.refl _ _, rfl⟩
    case round =>
      obtain ⟨j, hj, rfl, rfl, hF, hpr⟩ := hrel
      have HF := Lib.hid hF
      have hxb : 0 ≤ (m + (j : Int)) % n ∧ (m + (j : Int)) % n < n := ⟨Int.emod_nonneg _ (by omega), Int.emod_lt_of_pos _ (by omega)⟩
      have hnx : ((m + (j : Int)) % n + 1) % n = (m + ((j + 1 : Nat) : Int)) % n := by
        rw [Int.emod_add_emod]
        congr 1
        omega
      by_cases hlt : (j : Int) < n
      · rw [show n.toNat - j = (n.toNat - (j + 1)) + 1 by omega, probeI, stops, HM.out] at hpr
        obtain ⟨x, hx⟩ : ∃ x, (m + (j : Int)) % n = x := ⟨_, rfl⟩
        rw [hx] at hpr hxb hnx ⊢
        have HNX := Lib.hid hnx
        have HR2 := Lib.hid (fun w h => HR.out x w h (by omega))
        obtain ⟨⟨c, r1, r2⟩, hr⟩ : ∃ r, read bs (slotAt t x) = r := ⟨_, rfl⟩
        have hc : (cell bs (slotAt t x)).1 = c := by have := congrArg Ent.sel hr; exact this
        rw [hr] at HR2
        rw [hc] at hpr
        simp only [entv] at HR2
        clear hr hc hx hF hnx
        by_cases hcs : c = sel
        · have e3 : (c == sel) = true := by simp [hcs]
          rw [e3] at hpr
          simp only [Bool.or_true, if_true] at hpr
          have HP := Lib.hid hpr
          clear hpr hcs
          go_wp2_with (go_at_call 65; refine (HR2.out _ (H.out.fr HF.out id id)).mono ?_; rintro e w1 ⟨rfl, hf⟩; have HF1 := Lib.hid hf; clear hf)
          go_ret2
          rw [HP.out]
          exact ⟨rfl, (HF.out.trans HF1.out).alloc _⟩
        · have e3 : (c == sel) = false := by simp [hcs]
          by_cases hc0 : c = 0
          · have e1 : (c == 0) = true := by simp [hc0]
            rw [e1] at hpr
            simp only [Bool.true_or, if_true] at hpr
            have HP := Lib.hid hpr
            clear hpr hcs hc0
            go_wp2_with (go_at_call 65; refine (HR2.out _ (H.out.fr HF.out id id)).mono ?_; rintro e w1 ⟨rfl, hf⟩; have HF1 := Lib.hid hf; clear hf)
            go_ret2
            rw [HP.out]
            exact ⟨rfl, (HF.out.trans HF1.out).alloc _⟩
          · have e1 : (c == 0) = false := by simp [hc0]
            rw [e1, e3] at hpr
            simp only [Bool.or_false, Bool.false_eq_true, if_false] at hpr
            have HP := Lib.hid hpr
            clear hpr hcs hc0
            go_wp2_with (go_at_call 65; refine (HR2.out _ (H.out.fr HF.out id id)).mono ?_; rintro e w1 ⟨rfl, hf⟩; have HF1 := Lib.hid hf; clear hf)
            go_roundw
            case rel => exact ⟨j + 1, by omega, by go_num, congrArg _ HNX.out, (HF.out.trans HF1.out).alloc _, HP.out⟩
            case measure => simp only [intOf]; omega
      · obtain rfl : (j : Int) = n := by omega
        have hpr2 := hpr
        rw [show (j : Int).toNat = j by omega, Nat.sub_self, probeI] at hpr2
        have HP := Lib.hid hpr2
        clear hpr hpr2 hF hnx
        go_wp2
        go_ret2
        rw [HP.out]
        exact ⟨rfl, HF.out⟩
end Go.Proofs.Ytajeiccfgnpbpaa.Mem
