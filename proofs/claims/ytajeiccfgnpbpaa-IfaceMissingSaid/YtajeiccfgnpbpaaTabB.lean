/- Contracts of package table: the search. -/
import Derived.Test.YtajeiccfgnpbpaaTabA
namespace Go.Proofs.Ytajeiccfgnpbpaa.Mem
open Go.RowKit

/-- How a search ends, as a value. -/
def hitv (h : Hit) : Value := .agg #[.int .i64 h.at', .bool h.found, .bool h.empty, .int .i64 h.seen]

set_option maxRecDepth 100000 in
set_option maxHeartbeats 2000000 in
theorem search_any (p g : Nat) (bs : List UInt8) (t sel : Int) (w : World) (h : Mat 108 w p g bs) :
    Calls Try.prog 63 #[.pointer (some ⟨p, 0, none⟩), .int .i64 t, .int .i64 sel] w fun e w' => e = .returned (hitv (search bs t sel)) ∧ Fr (fun _ => False) w w' := by
  have HS := Lib.hid (fun w h => slots_any p g bs t w h)
  have H := Lib.hid (fun (o : Obj) => h.fr (Fr.alloc (S := fun _ => False) (Fr.refl _ _) o) id id)
  have hsb := slots_bd bs t
  have hin := @slots_in bs t
  have hbl := h.2.2.2
  unfold search
  obtain ⟨n, hn⟩ : ∃ n, slots bs t = n := ⟨_, rfl⟩
  rw [hn] at HS hsb hin ⊢
  by_cases hz : n = 0
  · rw [if_pos hz]
    subst hz
    clear h hn hin
    unfold hitv
    go_enter Try.func63, Try.ntmps63
    go_wp2_with (go_at_call 50; refine (HS.out _ (H.out _)).mono ?_; rintro e w' ⟨rfl, rfl⟩)
    refine bodyPost_ret (v := .agg #[.int .i64 0, .bool false, .bool false, .int .i64 0]) (by simp [results, Try.results63, go_sem]) rfl ⟨rfl, ?_⟩
    exact Fr.alloc (Fr.refl _ _) _
  · rw [if_neg hz]
    obtain ⟨h0, h1, h2, h3⟩ := hin hz
    have HC := Lib.hid (fun a w h => cell_any p g bs a w h)
    have HL := Lib.hid (fun i w hi => slot_any t i hi w)
    have hhb := home_bd sel n (by omega)
    have hz' : (n == 0) = false := by simp [hz]
    obtain ⟨m, hm⟩ : ∃ m, home sel n = m := ⟨_, rfl⟩
    rw [hm] at hhb
    have hwr : wrap64 (sel % 4294967296 * 2654435761 % 4294967296 % n) = m := by
      rw [show sel % 4294967296 * 2654435761 % 4294967296 % n = m from hm]
      unfold wrap64
      omega
    have HM := Lib.hid hm
    have HWR := Lib.hid hwr
    clear h hn hin hm hwr
    go_enter Try.func63, Try.ntmps63
    go_wp2_with (go_at_call 50; refine (HS.out _ (H.out _)).mono ?_; rintro e w' ⟨rfl, rfl⟩)
    rw [HWR.out]
    go_loop [27] (fun iv => ∃ k : Nat, (k : Int) ≤ n ∧ iv = .int .i64 k ∧ probe bs t sel n n.toNat 0 = probe bs t sel n (n.toNat - k) k) (fun iv => n.toNat - (intOf iv).toNat)
    case atStart => exact ⟨0, by omega, rfl, rfl⟩
    case round =>
      obtain ⟨k, hk, rfl, hpr⟩ := hrel
      by_cases hlt : (k : Int) < n
      · rw [show n.toNat - k = (n.toNat - (k + 1)) + 1 by omega, probe, stops, HM.out] at hpr
        have hxb : 0 ≤ (m + (k : Int)) % n ∧ (m + (k : Int)) % n < n := ⟨Int.emod_nonneg _ (by omega), Int.emod_lt_of_pos _ (by omega)⟩
        obtain ⟨x, hx⟩ : ∃ x, (m + (k : Int)) % n = x := ⟨_, rfl⟩
        rw [hx] at hpr hxb
        obtain ⟨s, hs⟩ : ∃ s, slotAt t x = s := ⟨_, rfl⟩
        have HL2 := Lib.hid (fun w => HL.out x w (by omega))
        have HC2 := Lib.hid (fun (o : Obj) => HC.out s _ (H.out o))
        obtain ⟨c, hc⟩ : ∃ c, (cell bs s).1 = c := ⟨_, rfl⟩
        rw [hs] at hpr HL2
        rw [hc] at hpr HC2
        clear hs hc
        by_cases hc0 : c = 0
        · have e1 : (c == 0) = true := by simp [hc0]
          have e2 : (c != 0) = false := by simp [hc0]
          rw [e1, e2] at hpr
          simp only [Bool.true_or, if_true] at hpr
          have HP := Lib.hid hpr
          clear hpr hc0
          go_wp2_with (first | (go_at_call 105; refine (HL2.out _).mono ?_; rintro e w' ⟨rfl, rfl⟩) | (go_at_call 46; refine (HC2.out _).mono ?_; rintro e w' ⟨rfl, rfl⟩))
          refine bodyPost_ret (v := .agg #[.int .i64 s, .bool false, .bool true, .int .i64 (k + 1)]) (by simp [results, Try.results63, go_sem]) rfl ⟨?_, ?_⟩
          · rw [HP.out]
            rfl
          · exact Fr.alloc (Fr.refl _ _) _
        · have e1 : (c == 0) = false := by simp [hc0]
          have e2 : (c != 0) = true := by simp [hc0]
          by_cases hcs : c = sel
          · have e3 : (c == sel) = true := by simp [hcs]
            rw [e1, e2, e3] at hpr
            simp only [Bool.or_true, if_true] at hpr
            have HP := Lib.hid hpr
            clear hpr hc0 hcs
            go_wp2_with (first | (go_at_call 105; refine (HL2.out _).mono ?_; rintro e w' ⟨rfl, rfl⟩) | (go_at_call 46; refine (HC2.out _).mono ?_; rintro e w' ⟨rfl, rfl⟩))
            refine bodyPost_ret (v := .agg #[.int .i64 s, .bool true, .bool false, .int .i64 (k + 1)]) (by simp [results, Try.results63, go_sem]) rfl ⟨?_, ?_⟩
            · rw [HP.out]
              rfl
            · exact Fr.alloc (Fr.refl _ _) _
          · have e3 : (c == sel) = false := by simp [hcs]
            rw [e1, e3] at hpr
            simp only [Bool.or_false, Bool.false_eq_true, if_false] at hpr
            have HP := Lib.hid hpr
            clear hpr hc0 hcs e2
            go_wp2_with (first | (go_at_call 105; refine (HL2.out _).mono ?_; rintro e w' ⟨rfl, rfl⟩) | (go_at_call 46; refine (HC2.out _).mono ?_; rintro e w' ⟨rfl, rfl⟩))
            go_round
            case rel => exact ⟨k + 1, by omega, by go_num, HP.out⟩
            case measure => simp only [intOf]; omega
      · obtain rfl : (k : Int) = n := by omega
        have HP := Lib.hid hpr
        clear hpr
        go_wp2
        refine bodyPost_ret (v := .agg #[.int .i64 0, .bool false, .bool false, .int .i64 k]) (by simp [results, Try.results63, go_sem]) rfl ⟨?_, ?_⟩
        · have := HP.out
          rw [show (k : Int).toNat = k by omega, Nat.sub_self] at this
          rw [this]
          rfl
        · exact Fr.alloc (Fr.refl _ _) _
end Go.Proofs.Ytajeiccfgnpbpaa.Mem
