/- The document's number of layer 22. -/
import Derived.Test.YthkmbnkkohomeaaGreatDoorPwaa
set_option linter.unusedSimpArgs false
set_option linter.unusedVariables false

namespace Go.Proofs.YthkmbnkkohomeaaGreatDoor.Mem
open Go.RowKit

theorem rfold_bad {l : List UInt8} {i : Nat} {m : Int} (hi : i < l.length) (h : rfold 0 (l.take i) = some m) (hb : (l.getD i 0).toNat < 48 ∨ 57 < (l.getD i 0).toNat ∨ 1048576 < m) : rfold 0 l = none := by
  have hs : l = l.take i ++ (l.getD i 0 :: l.drop (i + 1)) := by
    rw [List.getD_eq_getElem?_getD, List.getElem?_eq_getElem hi, Option.getD_some, List.getElem_cons_drop, List.take_append_drop]
  rw [hs, rfold_append, h]
  show rfold m _ = none
  rw [rfold_cons, if_pos hb]
theorem rfold_good {l : List UInt8} {i : Nat} {m : Int} (hi : i < l.length) (h : rfold 0 (l.take i) = some m) (hb : ¬ ((l.getD i 0).toNat < 48 ∨ 57 < (l.getD i 0).toNat ∨ 1048576 < m)) : rfold 0 (l.take (i + 1)) = some (10 * m + ((l.getD i 0).toNat - 48 : Nat)) := by
  have hs : l.take (i + 1) = l.take i ++ [l.getD i 0] := by
    rw [List.take_add_one, List.getD_eq_getElem?_getD, List.getElem?_eq_getElem hi]
    rfl
  rw [hs, rfold_append, h]
  show rfold m _ = _
  rw [rfold_cons, if_neg hb]
  rfl

def NumbPost (l : List UInt8) (w : World) (e : Ending) (w' : World) : Prop := e = .returned (.int .i64 (rnum l)) ∧ Fr (fun _ => False) w w'

set_option maxRecDepth 100000 in
set_option maxHeartbeats 2000000 in
theorem rnumber_ok (s : ByteArray) (hs : s.size ≤ 5000) (w : World) : Calls Tryz.prog 16 #[.string s] w fun e w' => NumbPost s.data.toList w e w' := by
  unfold NumbPost
  obtain ⟨R, hR⟩ : ∃ R, rnum s.data.toList = R := ⟨_, rfl⟩
  rw [hR]
  obtain ⟨n, hn⟩ : ∃ n, s.size = n := ⟨_, rfl⟩
  have HR := Lib.hid hR
  have HN := Lib.hid hn
  have hl : s.data.toList.length = n := by rw [← hn, Array.length_toList]; rfl
  have HL := Lib.hid hl
  clear hl hR
  rw [hn] at hs
  go_enter Tryz.func16, Tryz.ntmps16
  go_wp2_with fail
  go_loopw [4, 3] (fun iv nv wr => ∃ (i : Nat) (m : Int), i ≤ n ∧ iv = .int .i64 i ∧ nv = .int .i64 m ∧ rfold 0 (s.data.toList.take i) = some m ∧ (0 ≤ m ∧ m ≤ 10485769) ∧ Fr (fun _ => False) w wr) (fun iv _ _ => n - (intOf iv).toNat)
  case atStart => exact ⟨0, 0, Nat.zero_le _, rfl, rfl, rfl, ⟨by omega, by omega⟩, Fr.refl _ _⟩
  case round =>
    obtain ⟨i, m, hi, rfl, rfl, hfo, hmb, hF⟩ := hrel
    have HFO := Lib.hid hfo
    have HF := Lib.hid hF
    have hm0 := hmb.1
    have hm1 := hmb.2
    by_cases hlt : i < n
    · have hlt' : (i : Int) < n := by omega
      have hx : i < s.size := by omega
      have hgx : s.data.toList.getD i 0 = s[i] := by rw [List.getD_eq_getElem?_getD, List.getElem?_eq_getElem (by have := HL.out; omega)]; simp; rfl
      have hmx : (n : Int) ≤ 5000 := by omega
      have hil : i < s.data.toList.length := by have := HL.out; omega
      have hbad : (s[i].toNat < 48 ∨ 57 < s[i].toNat ∨ 1048576 < m) → R = -1 := fun h => by
        rw [← HR.out]
        unfold rnum
        rw [rfold_bad hil hfo (by rw [hgx]; exact h)]
      obtain ⟨cv, hcv⟩ : ∃ v : Nat, s[i].toNat = v := ⟨_, rfl⟩
      have hc255 : cv < 256 := by rw [← hcv]; exact s[i].toNat_lt
      rw [hcv] at hbad
      by_cases b1 : cv < 48
      · have e1 : (cv : Int) < 48 := by omega
        have HB := Lib.hid (hbad (.inl b1))
        clear hbad hfo hF hgx hmb
        go_wp2_with fail
        go_ret
        rw [HB.out]
        exact ⟨rfl, HF.out⟩
      · have e1 : decide ((cv : Int) < 48) = false := by simp; omega
        have e1n : decide (cv < 48) = false := by simp; omega
        by_cases b2 : 57 < cv
        · have e2 : (57 : Int) < (cv : Int) := by omega
          have HB := Lib.hid (hbad (.inr (.inl b2)))
          clear hbad hfo hF hgx b1 hmb
          go_wp2_with fail
          go_ret
          rw [HB.out]
          exact ⟨rfl, HF.out⟩
        · have e2 : decide ((57 : Int) < (cv : Int)) = false := by simp; omega
          have e2n : decide (57 < cv) = false := by simp; omega
          by_cases b3 : 1048576 < m
          · have HB := Lib.hid (hbad (.inr (.inr b3)))
            clear hbad hfo hF hgx b1 b2 hmb
            go_wp2_with fail
            go_ret
            rw [HB.out]
            exact ⟨rfl, HF.out⟩
          · have e3 : decide ((1048576 : Int) < m) = false := by simp; omega
            have hg := rfold_good hil hfo (by rw [hgx, hcv]; omega)
            rw [hgx, hcv] at hg
            obtain ⟨d, hd⟩ : ∃ d : Nat, cv - 48 = d := ⟨_, rfl⟩
            have hd9 : d ≤ 9 := by omega
            have hdi : (cv : Int) - 48 = d := by omega
            have hw1 : IntKind.u8.wrap ((cv : Int) - 48) = d := by rw [hdi]; unfold IntKind.wrap; simp [IntKind.bits, IntKind.signed]; omega
            have hg2 : rfold 0 (s.data.toList.take (i + 1)) = some (10 * m + (d : Int)) := by rw [hg]; congr 2; omega
            have HG := Lib.hid hg2
            have hdb : (d : Int) ≤ 9 := by omega
            have hm2 : m ≤ 1048576 := by omega
            clear hbad hfo hF hgx b1 b2 b3 hmb hg hg2 hd hdi hm1
            go_wp2_with fail
            go_roundw
            case rel => exact ⟨i + 1, 10 * m + d, by omega, by go_num, by go_num, HG.out, ⟨by omega, by omega⟩, HF.out⟩
            case measure => simp only [intOf]; omega
    · obtain rfl : i = n := by omega
      have hlt' : decide ((i : Int) < i) = false := by simp
      rw [List.take_of_length_le (by have := HL.out; omega)] at hfo
      by_cases b1 : 1048576 < m
      · have hres : R = -1 := by rw [← HR.out]; unfold rnum; rw [hfo]; exact if_pos (.inl b1)
        have HB := Lib.hid hres
        clear hfo hF hlt hmb hres
        go_wp2_with fail
        go_ret
        rw [HB.out]
        exact ⟨rfl, HF.out⟩
      · have e1 : decide ((1048576 : Int) < m) = false := by simp; omega
        have HS := Lib.hid (rshow_ok m ⟨by omega, by omega⟩ wr)
        by_cases b2 : Lib.itoa m = s.data.toList
        · have hres : R = m := by rw [← HR.out]; unfold rnum; rw [hfo]; exact if_neg (fun e => e.elim b1 (fun h => h b2))
          have HB := Lib.hid hres
          have HQ := Lib.hid b2
          clear hfo hF hlt hmb hres b2
          go_wp2_with fail
          refine HS.out.mono ?_
          rintro e w2 ⟨t, rfl, ht, _, f2⟩
          have e3 : (t.toList == s.toList) = true := by rw [ByteArray.toList_eq, ByteArray.toList_eq, ht, HQ.out]; simp
          have F2 := Lib.hid (HF.out.trans f2)
          clear ht f2
          go_wp2_with fail
          go_ret
          rw [HB.out]
          exact ⟨rfl, F2.out⟩
        · have hres : R = -1 := by rw [← HR.out]; unfold rnum; rw [hfo]; exact if_pos (.inr b2)
          have HB := Lib.hid hres
          have HQ := Lib.hid b2
          clear hfo hF hlt hmb hres b2
          go_wp2_with fail
          refine HS.out.mono ?_
          rintro e w2 ⟨t, rfl, ht, _, f2⟩
          have e3 : (t.toList == s.toList) = false := by rw [ByteArray.toList_eq, ByteArray.toList_eq, ht]; simpa using HQ.out
          have F2 := Lib.hid (HF.out.trans f2)
          clear ht f2
          go_wp2_with fail
          go_ret
          rw [HB.out]
          exact ⟨rfl, F2.out⟩
end Go.Proofs.YthkmbnkkohomeaaGreatDoor.Mem
