/- Contracts of package iface: Missing. -/
import Derived.Test.YtajeiccfgnpbpaaIfcB
namespace Go.Proofs.Ytajeiccfgnpbpaa.Mem
open Go.RowKit

set_option maxRecDepth 100000 in
theorem missing_bad (p g : Nat) (at_ c : Int) (bs : List UInt8) (w : World) (h : Mat 108 w p g bs) (hc : (cell bs at_).2 ≠ 0) :
    Calls Try.prog 33 #[.pointer (some ⟨p, 0, none⟩), .int .i64 at_, .int .i64 c] w fun e w' => e = .returned (.tuple #[.int .i64 0, .int .i64 (-256)]) ∧ w' = w := by
  have HC := Lib.hid (sels_bad p g at_ bs w h hc)
  clear h hc
  go_enter Try.func33, Try.ntmps33
  go_wp2_with fail
  refine HC.out.mono ?_
  rintro e w' ⟨rfl, h0⟩
  obtain rfl := h0.symm
  go_wp2_with fail
  go_ret2
  exact ⟨rfl, rfl⟩

/-- The selectors of the interface at a place. -/
def selsl (bs : List UInt8) (at_ n : Nat) : List Int := (List.range n).map fun j => cellv bs (at_ + 8 * (j + 1))
theorem selsl_get (bs : List UInt8) (at_ n k : Nat) (h : k < n) : (selsl bs at_ n)[k]? = some (cellv bs (at_ + 8 * (k + 1))) := by
  simp [selsl, h]

/-- The first one that a class doesn't know. -/
def missv (bs : List UInt8) (c : Int) : List Int → Int × Int
  | [] => (0, 0)
  | s :: l => if (lookv bs c s).2.2 = true then missv bs c l else (s, -2050)

set_option maxRecDepth 100000 in
set_option maxHeartbeats 2000000 in
theorem missing_ok (p g at_ n : Nat) (c : Int) (bs : List UInt8) (w : World) (h : Mat 108 w p g bs) (h8 : at_ % 8 = 0) (hin : at_ + 8 * (n + 1) ≤ bs.length) (hv : cellv bs at_ = n) (hn : n ≤ 1024)
    (hc : -9223372036854775808 ≤ c ∧ c ≤ 9223372036854775807) (hI : isCl bs c = true) :
    Calls Try.prog 33 #[.pointer (some ⟨p, 0, none⟩), .int .i64 at_, .int .i64 c] w
      fun e w' => e = .returned (.tuple #[.int .i64 (missv bs c (selsl bs at_ n)).1, .int .i64 (missv bs c (selsl bs at_ n)).2]) ∧ Fr (fun _ => False) w w' := by
  obtain ⟨res, hres⟩ : ∃ r, missv bs c (selsl bs at_ n) = r := ⟨_, rfl⟩
  have HRES := Lib.hid hres
  rw [hres]
  obtain ⟨r1, r2⟩ := res
  dsimp only
  have HS := Lib.hid (sels_ok p g at_ n bs w h h8 hin hv hn)
  have hr := fun W h => cread_any p g bs c W h hc
  rw [hI] at hr
  obtain ⟨⟨k0, k1, k2, k3, k4⟩, hk⟩ : ∃ r, clv bs c = r := ⟨_, rfl⟩
  rw [hk] at hr
  simp only [clval] at hr
  have HR := Lib.hid hr
  have HLK := Lib.hid (fun s W h => clookup_any p g bs c s W h hc)
  have HM := Lib.hid h
  have HLN := Lib.hid (fun (k : Nat) (hk : k < n) => selsl_get bs at_ n k hk)
  have hll : (selsl bs at_ n).length = n := by simp [selsl]
  have HLL := Lib.hid hll
  clear h h8 hin hv hr hk hI hres hll hc
  go_enter Try.func33, Try.ntmps33
  go_wp2_with fail
  refine HS.out.mono ?_
  rintro e w1 ⟨rfl, hrow, hf⟩
  have HROW := Lib.hid hrow
  have HF1 := Lib.hid hf
  obtain ⟨G, hG⟩ : ∃ G, w.heap.size = G := ⟨_, rfl⟩
  rw [hG] at HROW ⊢
  clear hrow hf hG
  go_wp2_with fail
  refine (HR.out _ (HM.out.fr HF1.out id id)).mono ?_
  rintro e w2 ⟨rfl, hf⟩
  have HROW2 := Lib.hid (Fr.row HROW.out hf id)
  have HF2 := Lib.hid (HF1.out.trans hf)
  clear hf
  go_wp2_with fail
  have HROW3 := Lib.hid (HROW2.out.alloc (.cells #[.int .i64 k0, .int .i64 k1, .int .i64 k2, .int .i64 k3, .int .i64 k4] 142))
  have HF3 := Lib.hid (HF2.out.alloc (.cells #[.int .i64 k0, .int .i64 k1, .int .i64 k2, .int .i64 k3, .int .i64 k4] 142))
  obtain ⟨w3, hw3⟩ : ∃ w3, w2.alloc (.cells #[.int .i64 k0, .int .i64 k1, .int .i64 k2, .int .i64 k3, .int .i64 k4] 142) = w3 := ⟨_, rfl⟩
  rw [hw3] at HROW3 HF3 ⊢
  clear hw3
  go_loopw [35] (fun iv wr => ∃ k : Nat, k ≤ n ∧ iv = .int .i64 k ∧ missv bs c ((selsl bs at_ n).drop k) = (r1, r2) ∧ Fr (fun _ => False) w3 wr) (fun iv _ => n - (intOf iv).toNat)
  case atStart => exact ⟨0, by omega, rfl, HRES.out, Fr.refl _ _⟩
  case round =>
    obtain ⟨k, hk, rfl, hm, hF⟩ := hrel
    have HF := Lib.hid (HF3.out.trans hF)
    have HFF := Lib.hid hF
    have HMS := Lib.hid hm
    have HRW := Lib.hid (Fr.row HROW3.out hF id)
    clear hF hm
    by_cases hlt : k < n
    · have hkl : k < (selsl bs at_ n).length := by rw [HLL.out]; exact hlt
      have hcell := HRW.out.cell hlt
      have hg := HLN.out k hlt
      have hms := HMS.out
      rw [List.drop_eq_getElem_cons hkl, missv] at hms
      rw [List.getElem?_eq_getElem hkl, Option.some.injEq] at hg
      rw [hg] at hms
      obtain ⟨s, hs⟩ : ∃ s, cellv bs (at_ + 8 * (k + 1)) = s := ⟨_, rfl⟩
      rw [hs] at hcell hms
      have hlk := HLK.out s
      obtain ⟨⟨⟨e0, e1, e2⟩, nn, ok⟩, hlv⟩ : ∃ r, lookv bs c s = r := ⟨_, rfl⟩
      rw [hlv] at hlk hms
      simp only [entv] at hlk
      dsimp only at hms
      have HK2 := Lib.hid hlk
      clear hkl hg hs hlk hlv
      cases ok with
      | true =>
        rw [if_pos rfl] at hms
        have HMS2 := Lib.hid hms
        clear hms
        go_wp2_with fail
        refine (HK2.out _ (HM.out.fr HF.out id id)).mono ?_
        rintro e w4 ⟨rfl, hf⟩
        have HF4 := Lib.hid (HFF.out.trans hf)
        clear hf
        go_wp2_with fail
        go_roundw
        case rel => exact ⟨k + 1, by omega, by go_num, HMS2.out, HF4.out.alloc _⟩
        case measure => simp only [intOf]; omega
      | false =>
        rw [if_neg (by simp)] at hms
        have HMS2 := Lib.hid hms
        clear hms
        go_wp2_with fail
        refine (HK2.out _ (HM.out.fr HF.out id id)).mono ?_
        rintro e w4 ⟨rfl, hf⟩
        have HF4 := Lib.hid (HF.out.trans hf)
        clear hf
        go_wp2_with fail
        go_ret2
        have hms := HMS2.out
        cases hms
        exact ⟨rfl, HF4.out.alloc _⟩
    · obtain rfl : k = n := by omega
      have hms := HMS.out
      rw [List.drop_eq_nil_of_le (by rw [HLL.out]; omega), missv] at hms
      have HMS2 := Lib.hid hms
      clear hms
      go_wp2_with fail
      go_ret2
      have hms := HMS2.out
      cases hms
      exact ⟨rfl, HF.out⟩

set_option maxRecDepth 100000 in
set_option maxHeartbeats 2000000 in
theorem missing_none (p g at_ n : Nat) (c : Int) (bs : List UInt8) (w : World) (h : Mat 108 w p g bs) (h8 : at_ % 8 = 0) (hin : at_ + 8 * (n + 1) ≤ bs.length) (hv : cellv bs at_ = n) (hn : n ≤ 1024)
    (hc : -9223372036854775808 ≤ c ∧ c ≤ 9223372036854775807) (hI : isCl bs c = false) :
    Calls Try.prog 33 #[.pointer (some ⟨p, 0, none⟩), .int .i64 at_, .int .i64 c] w
      fun e w' => e = .returned (.tuple #[.int .i64 0, .int .i64 (-2048)]) ∧ Fr (fun _ => False) w w' := by
  have HS := Lib.hid (sels_ok p g at_ n bs w h h8 hin hv hn)
  have hr := fun W h => cread_any p g bs c W h hc
  rw [hI, clv_none hI] at hr
  simp only [clval] at hr
  have HR := Lib.hid hr
  have HM := Lib.hid h
  clear h h8 hin hv hr hI hc
  go_enter Try.func33, Try.ntmps33
  go_wp2_with fail
  refine HS.out.mono ?_
  rintro e w1 ⟨rfl, hrow, hf⟩
  have HF1 := Lib.hid hf
  clear hrow hf
  go_wp2_with fail
  refine (HR.out _ (HM.out.fr HF1.out id id)).mono ?_
  rintro e w2 ⟨rfl, hf⟩
  have HF2 := Lib.hid (HF1.out.trans hf)
  clear hf
  go_wp2_with fail
  go_ret2
  exact ⟨rfl, HF2.out.alloc _⟩
end Go.Proofs.Ytajeiccfgnpbpaa.Mem
