/- Several texts in one: RfC, RfD. -/
import Derived.Test.YthkmbnkkohomeaaGreatDoorSwbk
import Derived.Test.YthkmbnkkohomeaaGreatDoorSwak
import Derived.Lib.ParseIntBCases
set_option linter.unusedSimpArgs false
set_option linter.unusedVariables false
/- The document's cut, place and number of layer 22. -/
namespace Go.Proofs.YthkmbnkkohomeaaGreatDoor.Mem
open Go.RowKit

def RCutPost (c : UInt8) (s : List UInt8) (w : World) (e : Ending) (w' : World) : Prop :=
  ∃ a b : ByteArray, e = .returned (.tuple #[.string a, .string b, .bool (cutB c s).2.2]) ∧ a.data.toList = (cutB c s).1 ∧ b.data.toList = (cutB c s).2.1 ∧ Fr (fun _ => False) w w'

theorem cutB_at (c : UInt8) : ∀ (l : List UInt8) (i : Nat), i < l.length → (∀ j, j < i → l.getD j 0 ≠ c) → l.getD i 0 = c → cutB c l = (l.take i, l.drop (i + 1), true)
  | [], i, h, _, _ => by simp at h
  | x :: l, 0, _, _, h => by
    have hx : x = c := by simpa using h
    unfold cutB
    rw [if_pos hx]
    simp
  | x :: l, i + 1, hi, hn, h => by
    have hx : x ≠ c := by simpa using hn 0 (by omega)
    have ih := cutB_at c l i (by simpa using hi) (fun j hj => by simpa using hn (j + 1) (by omega)) (by simpa using h)
    unfold cutB
    rw [if_neg hx, ih]
    simp
theorem cutB_none (c : UInt8) : ∀ (l : List UInt8), (∀ j, j < l.length → l.getD j 0 ≠ c) → cutB c l = (l, [], false)
  | [], _ => rfl
  | x :: l, hn => by
    have hx : x ≠ c := by simpa using hn 0 (by simp)
    have ih := cutB_none c l (fun j hj => by simpa using hn (j + 1) (by simpa using hj))
    unfold cutB
    rw [if_neg hx, ih]

set_option maxRecDepth 100000 in
set_option maxHeartbeats 1000000 in
theorem rcut_ok (s : ByteArray) (c : UInt8) (hs : s.size ≤ 5000) (w : World) : Calls Tryz.prog 14 #[.string s, .int .u8 (c.toNat : Int)] w fun e w' => RCutPost c s.data.toList w e w' := by
  obtain ⟨n, hn⟩ : ∃ n, s.size = n := ⟨_, rfl⟩
  have HN := Lib.hid hn
  have hl : s.data.toList.length = n := by rw [← hn, Array.length_toList]; rfl
  have HL := Lib.hid hl
  clear hl
  rw [hn] at hs
  go_enter Tryz.func14, Tryz.ntmps14
  go_wp2_with fail
  go_loopw [7] (fun iv wr => ∃ i : Nat, i ≤ n ∧ iv = .int .i64 i ∧ (∀ j, j < i → s.data.toList.getD j 0 ≠ c) ∧ Fr (fun _ => False) w wr) (fun iv _ => n - (intOf iv).toNat)
  case atStart => exact ⟨0, Nat.zero_le _, rfl, fun j hj => absurd hj (by omega), Fr.refl _ _⟩
  case round =>
    obtain ⟨i, hi, rfl, hno, hF⟩ := hrel
    by_cases hlt : i < n
    · have hlt' : (i : Int) < n := by omega
      have hx : i < s.size := by omega
      have hgx : s.data.toList.getD i 0 = s[i] := by rw [List.getD_eq_getElem?_getD, List.getElem?_eq_getElem (by have := HL.out; omega)]; simp; rfl
      have HNO := Lib.hid hno
      have HF := Lib.hid hF
      have hmx : (n : Int) ≤ 5000 := by omega
      by_cases hq : s.data.toList.getD i 0 = c
      · have e1 : ((s[i].toNat : Int) == (c.toNat : Int)) = true := by rw [← hgx, hq]; simp
        have hcut := cutB_at c s.data.toList i (by have := HL.out; omega) hno hq
        have HC := Lib.hid hcut
        clear hno hF hq hgx hcut
        go_wp2_with fail
        go_quiet (fail)
        go_wp2_with fail
        go_ret3
        refine ⟨s.extract 0 i, s.extract (i + 1) n, by rw [HC.out]; rfl, ?_, ?_, HF.out.drewN nq⟩
        · rw [HC.out]
          simp
        · rw [HC.out]
          have h1 := HL.out
          simp
          rw [List.take_of_length_le (by rw [List.length_drop]; omega)]
      · have e1 : ((s[i].toNat : Int) == (c.toNat : Int)) = false := by
          rw [← hgx]
          simp only [beq_eq_false_iff_ne, ne_eq]
          intro h
          exact hq (UInt8.toNat.inj (by omega))
        have HQ := Lib.hid hq
        clear hno hF hq hgx
        go_wp2_with fail
        go_roundw
        case rel => exact ⟨i + 1, by omega, by go_num, fun j hj => by rcases Nat.lt_or_ge j i with h | h; exact HNO.out j h; rw [show j = i by omega]; exact HQ.out, HF.out⟩
        case measure => simp only [intOf]; omega
    · obtain rfl : i = n := by omega
      have hlt' : decide ((i : Int) < i) = false := by simp
      have hcut := cutB_none c s.data.toList (fun j hj => hno j (by have := HL.out; omega))
      have HC := Lib.hid hcut
      have HF := Lib.hid hF
      clear hno hF hcut hlt
      go_wp2_with fail
      go_ret3
      exact ⟨s, ⟨#[]⟩, by rw [HC.out]; rfl, by rw [HC.out], by rw [HC.out], HF.out⟩

/-- The place of a field, as a number. -/
def plc22 (x : List UInt8) : Int := match fidx x with | some i => i | none => -1
def fname (i : Nat) : List UInt8 := [[100, 105, 99, 116], [100, 97, 116, 97], [114, 101, 116, 117, 114, 110], [104, 101, 97, 112], [115, 108, 111, 116, 115], [102, 117, 101, 108]].getD i []
def PlacePost (x : List UInt8) (w : World) (e : Ending) (w' : World) : Prop := e = .returned (.int .i64 (plc22 x)) ∧ Fr (fun _ => False) w w'

set_option maxRecDepth 100000 in
set_option maxHeartbeats 1000000 in
theorem rplace_ok (s : ByteArray) (w : World) : Calls Tryz.prog 15 #[.string s] w fun e w' => PlacePost s.data.toList w e w' := by
  unfold PlacePost
  obtain ⟨p, hp⟩ : ∃ p, plc22 s.data.toList = p := ⟨_, rfl⟩
  rw [hp]
  have HP := Lib.hid hp
  clear hp
  have hA := heap_alloc_last w (.cells #[.string ⟨#[100, 105, 99, 116]⟩, .string ⟨#[100, 97, 116, 97]⟩, .string ⟨#[114, 101, 116, 117, 114, 110]⟩, .string ⟨#[104, 101, 97, 112]⟩, .string ⟨#[115, 108, 111, 116, 115]⟩, .string ⟨#[102, 117, 101, 108]⟩] 9)
  have fA := (Fr.refl (fun _ => False) w).alloc (.cells #[.string ⟨#[100, 105, 99, 116]⟩, .string ⟨#[100, 97, 116, 97]⟩, .string ⟨#[114, 101, 116, 117, 114, 110]⟩, .string ⟨#[104, 101, 97, 112]⟩, .string ⟨#[115, 108, 111, 116, 115]⟩, .string ⟨#[102, 117, 101, 108]⟩] 9)
  obtain ⟨w1, hw1⟩ : ∃ W, w.alloc (.cells #[.string ⟨#[100, 105, 99, 116]⟩, .string ⟨#[100, 97, 116, 97]⟩, .string ⟨#[114, 101, 116, 117, 114, 110]⟩, .string ⟨#[104, 101, 97, 112]⟩, .string ⟨#[115, 108, 111, 116, 115]⟩, .string ⟨#[102, 117, 101, 108]⟩] 9) = W := ⟨_, rfl⟩
  rw [hw1] at hA fA
  obtain ⟨lb, hlb⟩ : ∃ b, w.heap.size = b := ⟨_, rfl⟩
  rw [hlb] at hA
  have HA := Lib.hid hA
  have FA := Lib.hid fA
  clear hA fA
  go_enter Tryz.func15, Tryz.ntmps15
  go_wp2_with fail
  go_loopw [4] (fun iv wr => ∃ i : Nat, i ≤ 6 ∧ iv = .int .i64 i ∧ (∀ j, j < i → fname j ≠ s.data.toList) ∧ Fr (fun _ => False) w1 wr) (fun iv _ => 6 - (intOf iv).toNat)
  case atStart => exact ⟨0, by omega, rfl, fun j hj => absurd hj (by omega), Fr.refl _ _⟩
  case round =>
    obtain ⟨i, hi, rfl, hno, hF⟩ := hrel
    have HNO := Lib.hid hno
    have HF := Lib.hid hF
    have hA2 := hF.obj HA.out id
    have c0 : wr.cell? ⟨lb, 0, none⟩ = some (.string ⟨#[100, 105, 99, 116]⟩) := cell_of_row wr lb 0 _ _ _ hA2
    have c1 : wr.cell? ⟨lb, 1, none⟩ = some (.string ⟨#[100, 97, 116, 97]⟩) := cell_of_row wr lb 1 _ _ _ hA2
    have c2 : wr.cell? ⟨lb, 2, none⟩ = some (.string ⟨#[114, 101, 116, 117, 114, 110]⟩) := cell_of_row wr lb 2 _ _ _ hA2
    have c3 : wr.cell? ⟨lb, 3, none⟩ = some (.string ⟨#[104, 101, 97, 112]⟩) := cell_of_row wr lb 3 _ _ _ hA2
    have c4 : wr.cell? ⟨lb, 4, none⟩ = some (.string ⟨#[115, 108, 111, 116, 115]⟩) := cell_of_row wr lb 4 _ _ _ hA2
    have c5 : wr.cell? ⟨lb, 5, none⟩ = some (.string ⟨#[102, 117, 101, 108]⟩) := cell_of_row wr lb 5 _ _ _ hA2
    clear hno hF hA2
    have h6 : i = 0 ∨ i = 1 ∨ i = 2 ∨ i = 3 ∨ i = 4 ∨ i = 5 ∨ i = 6 := by omega
    rcases h6 with rfl | rfl | rfl | rfl | rfl | rfl | rfl
    · by_cases hq : s.data.toList = [100, 105, 99, 116]
      · have e1 : ([100, 105, 99, 116] == s.toList) = true := by rw [ByteArray.toList_eq, hq]; rfl
        have hpp : p = 0 := by rw [← HP.out]; unfold plc22; rw [hq]; rfl
        have HPP := Lib.hid hpp
        clear hq hpp
        go_wp2_with fail
        go_ret
        rw [HPP.out]
        exact ⟨rfl, FA.out.trans HF.out⟩
      · have e1 : ([100, 105, 99, 116] == s.toList) = false := by rw [ByteArray.toList_eq]; simpa using fun e => hq e.symm
        have HQ := Lib.hid hq
        clear hq
        go_wp2_with fail
        go_roundw
        case rel => exact ⟨1, by omega, by go_num, fun j hj => by rcases Nat.lt_or_ge j 0 with h | h; exact HNO.out j h; rw [show j = 0 by omega]; exact fun e => HQ.out e.symm, HF.out⟩
        case measure => simp only [intOf]; decide
    · by_cases hq : s.data.toList = [100, 97, 116, 97]
      · have e1 : ([100, 97, 116, 97] == s.toList) = true := by rw [ByteArray.toList_eq, hq]; rfl
        have hpp : p = 1 := by rw [← HP.out]; unfold plc22; rw [hq]; rfl
        have HPP := Lib.hid hpp
        clear hq hpp
        go_wp2_with fail
        go_ret
        rw [HPP.out]
        exact ⟨rfl, FA.out.trans HF.out⟩
      · have e1 : ([100, 97, 116, 97] == s.toList) = false := by rw [ByteArray.toList_eq]; simpa using fun e => hq e.symm
        have HQ := Lib.hid hq
        clear hq
        go_wp2_with fail
        go_roundw
        case rel => exact ⟨2, by omega, by go_num, fun j hj => by rcases Nat.lt_or_ge j 1 with h | h; exact HNO.out j h; rw [show j = 1 by omega]; exact fun e => HQ.out e.symm, HF.out⟩
        case measure => simp only [intOf]; decide
    · by_cases hq : s.data.toList = [114, 101, 116, 117, 114, 110]
      · have e1 : ([114, 101, 116, 117, 114, 110] == s.toList) = true := by rw [ByteArray.toList_eq, hq]; rfl
        have hpp : p = 2 := by rw [← HP.out]; unfold plc22; rw [hq]; rfl
        have HPP := Lib.hid hpp
        clear hq hpp
        go_wp2_with fail
        go_ret
        rw [HPP.out]
        exact ⟨rfl, FA.out.trans HF.out⟩
      · have e1 : ([114, 101, 116, 117, 114, 110] == s.toList) = false := by rw [ByteArray.toList_eq]; simpa using fun e => hq e.symm
        have HQ := Lib.hid hq
        clear hq
        go_wp2_with fail
        go_roundw
        case rel => exact ⟨3, by omega, by go_num, fun j hj => by rcases Nat.lt_or_ge j 2 with h | h; exact HNO.out j h; rw [show j = 2 by omega]; exact fun e => HQ.out e.symm, HF.out⟩
        case measure => simp only [intOf]; decide
    · by_cases hq : s.data.toList = [104, 101, 97, 112]
      · have e1 : ([104, 101, 97, 112] == s.toList) = true := by rw [ByteArray.toList_eq, hq]; rfl
        have hpp : p = 3 := by rw [← HP.out]; unfold plc22; rw [hq]; rfl
        have HPP := Lib.hid hpp
        clear hq hpp
        go_wp2_with fail
        go_ret
        rw [HPP.out]
        exact ⟨rfl, FA.out.trans HF.out⟩
      · have e1 : ([104, 101, 97, 112] == s.toList) = false := by rw [ByteArray.toList_eq]; simpa using fun e => hq e.symm
        have HQ := Lib.hid hq
        clear hq
        go_wp2_with fail
        go_roundw
        case rel => exact ⟨4, by omega, by go_num, fun j hj => by rcases Nat.lt_or_ge j 3 with h | h; exact HNO.out j h; rw [show j = 3 by omega]; exact fun e => HQ.out e.symm, HF.out⟩
        case measure => simp only [intOf]; decide
    · by_cases hq : s.data.toList = [115, 108, 111, 116, 115]
      · have e1 : ([115, 108, 111, 116, 115] == s.toList) = true := by rw [ByteArray.toList_eq, hq]; rfl
        have hpp : p = 4 := by rw [← HP.out]; unfold plc22; rw [hq]; rfl
        have HPP := Lib.hid hpp
        clear hq hpp
        go_wp2_with fail
        go_ret
        rw [HPP.out]
        exact ⟨rfl, FA.out.trans HF.out⟩
      · have e1 : ([115, 108, 111, 116, 115] == s.toList) = false := by rw [ByteArray.toList_eq]; simpa using fun e => hq e.symm
        have HQ := Lib.hid hq
        clear hq
        go_wp2_with fail
        go_roundw
        case rel => exact ⟨5, by omega, by go_num, fun j hj => by rcases Nat.lt_or_ge j 4 with h | h; exact HNO.out j h; rw [show j = 4 by omega]; exact fun e => HQ.out e.symm, HF.out⟩
        case measure => simp only [intOf]; decide
    · by_cases hq : s.data.toList = [102, 117, 101, 108]
      · have e1 : ([102, 117, 101, 108] == s.toList) = true := by rw [ByteArray.toList_eq, hq]; rfl
        have hpp : p = 5 := by rw [← HP.out]; unfold plc22; rw [hq]; rfl
        have HPP := Lib.hid hpp
        clear hq hpp
        go_wp2_with fail
        go_ret
        rw [HPP.out]
        exact ⟨rfl, FA.out.trans HF.out⟩
      · have e1 : ([102, 117, 101, 108] == s.toList) = false := by rw [ByteArray.toList_eq]; simpa using fun e => hq e.symm
        have HQ := Lib.hid hq
        clear hq
        go_wp2_with fail
        go_roundw
        case rel => exact ⟨6, by omega, by go_num, fun j hj => by rcases Nat.lt_or_ge j 5 with h | h; exact HNO.out j h; rw [show j = 5 by omega]; exact fun e => HQ.out e.symm, HF.out⟩
        case measure => simp only [intOf]; decide
    · have hpp : p = -1 := by
        rw [← HP.out]
        unfold plc22 fidx
        rw [if_neg (show ¬ (s.data.toList = [100, 105, 99, 116]) from fun e => HNO.out 0 (by omega) (by rw [e]; rfl))]
        rw [if_neg (show ¬ (s.data.toList = [100, 97, 116, 97]) from fun e => HNO.out 1 (by omega) (by rw [e]; rfl))]
        rw [if_neg (show ¬ (s.data.toList = [114, 101, 116, 117, 114, 110]) from fun e => HNO.out 2 (by omega) (by rw [e]; rfl))]
        rw [if_neg (show ¬ (s.data.toList = [104, 101, 97, 112]) from fun e => HNO.out 3 (by omega) (by rw [e]; rfl))]
        rw [if_neg (show ¬ (s.data.toList = [115, 108, 111, 116, 115]) from fun e => HNO.out 4 (by omega) (by rw [e]; rfl))]
        rw [if_neg (show ¬ (s.data.toList = [102, 117, 101, 108]) from fun e => HNO.out 5 (by omega) (by rw [e]; rfl))]
      have HPP := Lib.hid hpp
      clear hpp
      go_wp2_with fail
      go_ret
      rw [HPP.out]
      exact ⟨rfl, FA.out.trans HF.out⟩
end Go.Proofs.YthkmbnkkohomeaaGreatDoor.Mem

/- The numbers of a script's lines: what the code takes for one, and the document's figures. -/
namespace Go.Proofs.YthkmbnkkohomeaaGreatDoor.Mem
open Go.RowKit

def rfold : Int → List UInt8 → Option Int
  | n, [] => some n
  | n, c :: l => if c.toNat < 48 ∨ 57 < c.toNat ∨ 1048576 < n then none else rfold (10 * n + (c.toNat - 48 : Nat)) l
def rnum (l : List UInt8) : Int :=
  match rfold 0 l with
  | none => -1
  | some n => if 1048576 < n ∨ Lib.itoa n ≠ l then -1 else n

theorem rfold_cons (n : Int) (c : UInt8) (l : List UInt8) : rfold n (c :: l) = if c.toNat < 48 ∨ 57 < c.toNat ∨ 1048576 < n then none else rfold (10 * n + (c.toNat - 48 : Nat)) l := rfl
theorem pu_digit (M acc : Nat) (c : UInt8) (r : List UInt8) (h1 : 48 ≤ c.toNat ∧ c.toNat ≤ 57) (h2 : ¬ 1844674407370955162 ≤ acc) (h3 : ¬ M < acc * 10 + (c.toNat - 48)) : Lib.parseUintM M acc (c :: r) = Lib.parseUintM M (acc * 10 + (c.toNat - 48)) r := by
  show (if _ then if _ then _ else if _ then _ else _ else _) = _
  rw [if_pos h1, if_neg h2, if_neg h3]
theorem rfold_append : ∀ (a b : List UInt8) (n : Int), rfold n (a ++ b) = (rfold n a).bind fun m => rfold m b
  | [], b, n => rfl
  | c :: a, b, n => by
    rw [List.cons_append, rfold_cons, rfold_cons]
    split
    · rfl
    · exact rfold_append a b _
theorem rfold_nonneg : ∀ (l : List UInt8) (n m : Int), 0 ≤ n → rfold n l = some m → 0 ≤ m
  | [], n, m, h, e => by unfold rfold at e; cases e; exact h
  | c :: l, n, m, h, e => by
    unfold rfold at e
    split at e
    · cases e
    · exact rfold_nonneg l _ m (by omega) e
theorem digit_nat (d : Nat) (hd : d ≤ 9) : (UInt8.ofNat (48 + d)).toNat = 48 + d := by
  rw [UInt8.toNat_ofNat']
  omega
theorem rfold_dec : ∀ (u : Nat), u ≤ 1048576 → rfold 0 (Lib.decDigits u) = some (u : Int) := by
  intro u
  induction u using Nat.strongRecOn with
  | ind u ih =>
    intro hu
    by_cases h : u < 10
    · rw [Lib.decDigits_one h]
      unfold rfold
      rw [digit_nat u (by omega), if_neg (by omega)]
      unfold rfold
      congr 1
      omega
    · rw [Lib.decDigits, dif_neg h, rfold_append, ih (u / 10) (by omega) (by omega)]
      show rfold ((u / 10 : Nat) : Int) [UInt8.ofNat (48 + u % 10)] = _
      unfold rfold
      rw [digit_nat (u % 10) (by omega), if_neg (by omega)]
      unfold rfold
      congr 1
      omega

theorem pu_append : ∀ (a b : List UInt8) (M acc u : Nat), Lib.parseUintM M acc a = .ok u → Lib.parseUintM M acc (a ++ b) = Lib.parseUintM M u b
  | [], b, M, acc, u, h => by
    cases h
    rfl
  | c :: a, b, M, acc, u, h => by
    by_cases h1 : 48 ≤ c.toNat ∧ c.toNat ≤ 57
    · by_cases h2 : 1844674407370955162 ≤ acc
      · exfalso
        revert h
        show (if _ then if _ then _ else if _ then _ else _ else _) = _ → False
        rw [if_pos h1, if_pos h2]
        exact fun e => by cases e
      · by_cases h3 : M < acc * 10 + (c.toNat - 48)
        · exfalso
          revert h
          show (if _ then if _ then _ else if _ then _ else _ else _) = _ → False
          rw [if_pos h1, if_neg h2, if_pos h3]
          exact fun e => by cases e
        · rw [pu_digit M acc c a h1 h2 h3] at h
          rw [List.cons_append, pu_digit M acc c _ h1 h2 h3]
          exact pu_append a b M _ u h
    · exfalso
      revert h
      show (if _ then if _ then _ else if _ then _ else _ else _) = _ → False
      rw [if_neg h1]
      exact fun e => by cases e
theorem pu_dec (M : Nat) (hM : 1048576 ≤ M) : ∀ (u : Nat), u ≤ 1048576 → Lib.parseUintM M 0 (Lib.decDigits u) = .ok u := by
  intro u
  induction u using Nat.strongRecOn with
  | ind u ih =>
    intro hu
    by_cases h : u < 10
    · rw [Lib.decDigits_one h]
      unfold Lib.parseUintM
      rw [digit_nat u (by omega), if_pos (by omega), if_neg (by omega), if_neg (by omega)]
      unfold Lib.parseUintM
      congr 1
      omega
    · rw [Lib.decDigits, dif_neg h, pu_append _ _ M 0 _ (ih (u / 10) (by omega) (by omega))]
      unfold Lib.parseUintM
      rw [digit_nat (u % 10) (by omega), if_pos (by omega), if_neg (by omega), if_neg (by omega)]
      unfold Lib.parseUintM
      congr 1
      omega
theorem dec_head : ∀ (u : Nat), ∃ c r, Lib.decDigits u = c :: r ∧ 48 ≤ c.toNat ∧ c.toNat ≤ 57 := by
  intro u
  induction u using Nat.strongRecOn with
  | ind u ih =>
    by_cases h : u < 10
    · rw [Lib.decDigits_one h]
      exact ⟨_, _, rfl, by rw [digit_nat u (by omega)]; omega, by rw [digit_nat u (by omega)]; omega⟩
    · obtain ⟨c, r, h1, h2, h3⟩ := ih (u / 10) (by omega)
      rw [Lib.decDigits, dif_neg h, h1]
      exact ⟨c, _, rfl, h2, h3⟩
theorem parse_itoa (n : Int) (h0 : 0 ≤ n) (h1 : n ≤ 1048576) : Lib.parseIntB 64 (Lib.itoa n) = .ok n := by
  obtain ⟨u, rfl⟩ : ∃ u : Nat, n = u := ⟨n.toNat, by omega⟩
  have hi : Lib.itoa (u : Int) = Lib.decDigits u := by unfold Lib.itoa; rw [if_neg (by omega), Int.toNat_natCast]
  rw [hi]
  have hp := pu_dec (2 ^ 64 - 1) (by decide) u (by omega)
  obtain ⟨c, r, hc, h2, h3⟩ := dec_head u
  rw [hc] at hp ⊢
  have hq : Lib.parseUintB 64 (c :: r) = .ok u := by unfold Lib.parseUintB; rw [if_neg (by simp)]; exact hp
  rw [Lib.parseIntB_plain 64 c r (by omega) (by omega), hq]
  unfold Lib.signlessC
  simp
  omega
theorem rnum_pnum (l : List UInt8) : rnum l = (pnum l).getD (-1) := by
  rcases hp : pnum l with _ | v
  · show rnum l = -1
    unfold rnum
    rcases hf : rfold 0 l with _ | n
    · rfl
    · show (if 1048576 < n ∨ Lib.itoa n ≠ l then -1 else n) = -1
      by_cases hb : 1048576 < n ∨ Lib.itoa n ≠ l
      · rw [if_pos hb]
      · exfalso
        have h0 := rfold_nonneg l 0 n (by omega) hf
        have h1 : n ≤ 1048576 := by omega
        have h2 : Lib.itoa n = l := Decidable.byContradiction fun e => hb (.inr e)
        have h3 := parse_itoa n h0 h1
        rw [h2] at h3
        unfold pnum at hp
        rw [h3] at hp
        simp only at hp
        rw [if_pos ⟨h0, h1, h2⟩] at hp
        cases hp
  · show rnum l = v
    have hv : 0 ≤ v ∧ v ≤ 1048576 ∧ Lib.itoa v = l := by
      unfold pnum at hp
      split at hp
      · split at hp
        · cases hp; assumption
        · cases hp
      · cases hp
    obtain ⟨h0, h1, h2⟩ := hv
    obtain ⟨u, rfl⟩ : ∃ u : Nat, v = u := ⟨v.toNat, by omega⟩
    have hi : Lib.itoa (u : Int) = Lib.decDigits u := by unfold Lib.itoa; rw [if_neg (by omega), Int.toNat_natCast]
    unfold rnum
    rw [← h2, hi, rfold_dec u (by omega)]
    show (if 1048576 < (u : Int) ∨ Lib.itoa (u : Int) ≠ Lib.decDigits u then -1 else (u : Int)) = u
    rw [if_neg (by rw [hi]; simp; omega)]
end Go.Proofs.YthkmbnkkohomeaaGreatDoor.Mem
