/- Several texts in one: NumP, NumA, VnA. -/
import Derived.IntWalk
import Derived.WalkArith
import Derived.Below
import Derived.Lib.Strings
import Derived.Test.YthkmbnkkohomeaaGreatDoorChecked
import Derived.WalkKit
import Derived.WalkSpells
import Derived.WalkLawsBesides
import Derived.Lib.Hide
import Derived.BigQuiet
import Derived.Test.YthkmbnkkohomeaaGreatDoorSwau
set_option linter.unusedSimpArgs false
set_option linter.unusedVariables false
/- Plain mathematics of numbers as texts: digits, their value, and the number that a text denotes. -/
namespace Go.Proofs.YthkmbnkkohomeaaGreatDoor.Num
open Go.RowKit

/-- A digit's number; 36 for a byte that is none. -/
def val (c : Int) : Int := if 48 ≤ c ∧ c ≤ 57 then c - 48 else if 65 ≤ c ∧ c ≤ 90 then c - 55 else if 97 ≤ c ∧ c ≤ 122 then c - 87 else 36
theorem val_bd (c : Int) : 0 ≤ val c ∧ val c ≤ 36 := by unfold val; split <;> (try split) <;> (try split) <;> omega

/-- The digits' number, unbounded. -/
def dig (b : Int) (l : List UInt8) : Int := l.foldl (fun n c => n * b + val c.toNat) 0
theorem dig_snoc (b : Int) (l : List UInt8) (c : UInt8) : dig b (l ++ [c]) = dig b l * b + val c.toNat := by simp [dig, List.foldl_append]

/-- Are all bytes digits of the base? -/
def allDig (b : Int) (l : List UInt8) : Bool := l.all fun c => decide (val c.toNat < b)
theorem allDig_snoc (b : Int) (l : List UInt8) (c : UInt8) : allDig b (l ++ [c]) = (allDig b l && decide (val c.toNat < b)) := by simp [allDig]
theorem allDig_false {b : Int} {l : List UInt8} (k : Nat) (h : k < l.length) (hv : b ≤ val l[k].toNat) : allDig b l = false := by
  unfold allDig
  rw [List.all_eq_false]
  exact ⟨l[k], List.getElem_mem h, by simpa using hv⟩

theorem take_snoc (s : ByteArray) (k : Nat) (h : k < s.size) : s.data.toList.take (k + 1) = s.data.toList.take k ++ [s[k]] := by
  rw [List.take_succ_eq_append_getElem (by simpa using h)]; rfl

/-- Is a base right? -/
def right (b : Int) : Bool := decide (2 ≤ b) && decide (b ≤ 36)

/-- Where a byte stands in a text; -1: nowhere. -/
def plc : List UInt8 → Int → Int
  | [], _ => -1
  | a :: l, c => if (a.toNat : Int) = c then 0 else if plc l c < 0 then -1 else plc l c + 1


theorem ret_int {k : IntKind} {a b : Int} (h : a = b) : Ending.returned (.int k a) = .returned (.int k b) := by rw [h]

/-- What the sign of a base leaves, and the base. -/
def pre (s : ByteArray) (b : Int) : ByteArray × Int :=
  match s.data.toList with
  | [] => (s, b)
  | c :: _ => if ((c.toNat : Int) == 35) = true then (s.extract 1 s.size, 10) else if ((c.toNat : Int) == 36) = true then (s.extract 1 s.size, 16)
    else if ((c.toNat : Int) == 37) = true then (s.extract 1 s.size, 2) else (s, b)

theorem empty_of (s : ByteArray) (h : s.size = 0) : s = ByteArray.empty := by simpa using h

theorem full_of {s : ByteArray} (h : 0 < s.size) : s.toList.isEmpty = false := by
  rw [ByteArray.toList_eq]
  cases hl : s.data.toList with
  | nil => have : s.size = 0 := by rw [Lib.size_eq, hl]; rfl
           omega
  | cons a l => rfl

theorem head_of {s : ByteArray} (h : 0 < s.size) : s.data.toList = s[0] :: s.data.toList.tail := by
  cases hl : s.data.toList with
  | nil => have : s.size = 0 := by rw [Lib.size_eq, hl]; rfl
           omega
  | cons a l =>
    have : s[0] = s.data.toList[0]'(by rw [hl]; simp) := rfl
    simp [this, hl]

theorem pre_full (s : ByteArray) (b : Int) (h : 0 < s.size) : pre s b =
    if ((s[0].toNat : Int) == 35) = true then (s.extract 1 s.size, 10) else if ((s[0].toNat : Int) == 36) = true then (s.extract 1 s.size, 16)
    else if ((s[0].toNat : Int) == 37) = true then (s.extract 1 s.size, 2) else (s, b) := by
  unfold pre
  rw [head_of h]

/-- Modulo 2^64. -/
def m64 (x : Int) : Int := x % 18446744073709551616
theorem m64_bd (x : Int) : 0 ≤ m64 x := by unfold m64; omega

theorem wrap_u64 (x : Int) : IntKind.u64.wrap x = m64 x := by
  simp only [IntKind.wrap, m64]
  simp [IntKind.bits, IntKind.signed]

theorem m64_step (a b c : Int) : m64 (m64 (m64 a * b) + c) = m64 (a * b + c) := by
  simp only [m64, Int.emod_add_emod]
  have h : ∀ m : Int, (a % m * b + c) % m = (a * b + c) % m := fun m => by
    rw [Int.add_emod, Int.mul_emod, Int.emod_emod, ← Int.mul_emod, ← Int.add_emod]
  exact h _

/-- The digits' number, modulo 2^64, and whether all are digits of a right base. -/
def digs (s : ByteArray) (b : Int) : Int × Bool :=
  if !s.data.toList.isEmpty && right b && allDig b s.data.toList then (m64 (dig b s.data.toList), true) else (0, false)

theorem take_all (s : ByteArray) : s.data.toList.take s.size = s.data.toList := List.take_of_length_le (by rw [← Lib.size_eq]; omega)

theorem digs_bad (s : ByteArray) (b : Int) (k : Nat) (h : k < s.size) (hv : b ≤ val s[k].toNat) : digs s b = (0, false) := by
  unfold digs
  rw [allDig_false k (by rwa [← Lib.size_eq]) hv]
  simp

theorem digs_good (s : ByteArray) (b : Int) (h : 0 < s.size) (hr : right b = true) (hd : allDig b s.data.toList = true) : digs s b = (m64 (dig b s.data.toList), true) := by
  unfold digs
  rw [hr, hd, head_of h]
  rfl

theorem digs_right (s : ByteArray) (b : Int) (hr : right b = false) : digs s b = (0, false) := by
  unfold digs
  rw [hr]
  simp

theorem plc_pos : ∀ (l : List UInt8) (c : Int) (k : Nat), (l[k]?.map fun a => (a.toNat : Int)) = some c → (∀ j, j < k → (l[j]?.map fun a => (a.toNat : Int)) ≠ some c) → plc l c = k
  | [], _, _, h, _ => by simp at h
  | a :: l, c, 0, h, _ => by
    have : (a.toNat : Int) = c := by simpa using h
    rw [plc, if_pos this]; rfl
  | a :: l, c, k + 1, h, hn => by
    have h0 : ¬ (a.toNat : Int) = c := by simpa using hn 0 (by omega)
    have ih := plc_pos l c k (by simpa using h) (fun j hj => by simpa using hn (j + 1) (by omega))
    rw [plc, if_neg h0, ih, if_neg (by omega)]
    omega

theorem plc_neg : ∀ (l : List UInt8) (c : Int), (∀ j, j < l.length → (l[j]?.map fun a => (a.toNat : Int)) ≠ some c) → plc l c = -1
  | [], _, _ => rfl
  | a :: l, c, hn => by
    have h0 : ¬ (a.toNat : Int) = c := by simpa using hn 0 (by simp)
    have ih := plc_neg l c (fun j hj => by simpa using hn (j + 1) (by simpa using hj))
    rw [plc, if_neg h0, ih, if_pos (by omega)]

theorem at_of (s : ByteArray) (k : Nat) (h : k < s.size) : s.data.toList[k]? = some s[k] := by
  rw [List.getElem?_eq_getElem (by rwa [← Lib.size_eq])]; rfl

theorem plc_hit (s : ByteArray) (c : Int) (k : Nat) (h : k < s.size) (hc : (s[k].toNat : Int) = c) (hn : ∀ j, j < k → (s.data.toList[j]?.map fun a => (a.toNat : Int)) ≠ some c) : plc s.data.toList c = k :=
  plc_pos _ _ _ (by rw [at_of s k h]; simpa using hc) hn

theorem plc_next (s : ByteArray) (c : Int) (k : Nat) (h : k < s.size) (hc : ¬ (s[k].toNat : Int) = c) (hn : ∀ j, j < k → (s.data.toList[j]?.map fun a => (a.toNat : Int)) ≠ some c) :
    ∀ j, j < k + 1 → (s.data.toList[j]?.map fun a => (a.toNat : Int)) ≠ some c := by
  intro j hj
  by_cases e : j = k
  · subst e; rw [at_of s j h]; simpa using hc
  · exact hn j (by omega)

theorem plc_none (s : ByteArray) (c : Int) (hn : ∀ j, j < s.size → (s.data.toList[j]?.map fun a => (a.toNat : Int)) ≠ some c) : plc s.data.toList c = -1 :=
  plc_neg _ _ (fun j hj => hn j (by rwa [Lib.size_eq]))

/-- The figures of the document's answer: capitals, and small ones. -/
def capitals : ByteArray := { data := #[48, 49, 50, 51, 52, 53, 54, 55, 56, 57, 65, 66, 67, 68, 69, 70, 71, 72, 73, 74, 75, 76, 77, 78, 79, 80, 81, 82, 83, 84, 85, 86, 87, 88, 89, 90] }
def smalls : ByteArray := { data := #[48, 49, 50, 51, 52, 53, 54, 55, 56, 57, 97, 98, 99, 100, 101, 102, 103, 104, 105, 106, 107, 108, 109, 110, 111, 112, 113, 114, 115, 116, 117, 118, 119, 120, 121, 122] }

/-- A figure's number, or -1. -/
def figv (c b : Int) : Int := if b ≤ val c ∨ 36 ≤ val c then -1 else val c

theorem plc_both : ∀ c : Fin 256, (if plc capitals.data.toList (c.val : Int) < plc smalls.data.toList (c.val : Int) then plc smalls.data.toList (c.val : Int) else plc capitals.data.toList (c.val : Int)) =
    (if val (c.val : Int) = 36 then -1 else val (c.val : Int)) := by decide +kernel

theorem plc_bd : ∀ (l : List UInt8) (c : Int), -1 ≤ plc l c ∧ plc l c < l.length
  | [], _ => by simp [plc]
  | a :: l, c => by
    have ih := plc_bd l c
    unfold plc
    split
    · simp
    · split <;> simp <;> omega

/-- A byte within quotes? -/
def quoted (s : ByteArray) : Bool :=
  match s.data.toList with
  | [a, _, c] => ((a.toNat : Int) == 39) && ((c.toNat : Int) == 39)
  | _ => false

/-- The number that a text denotes by a base, and whether it denotes one. -/
def pars (s : ByteArray) (b : Int) : Int × Bool :=
  if quoted s = true then (((s.data.toList.getD 1 0).toNat : Int), true)
  else
    let t := (pre s b).1
    let c := (pre s b).2
    if ((t.data.toList.headD 0).toNat : Int) == 45 then (wrap64 (IntKind.u64.wrap (-(digs (t.extract 1 t.size) c).1)), (digs (t.extract 1 t.size) c).2)
    else (wrap64 (digs t c).1, (digs t c).2)

theorem list3 (s : ByteArray) (h : s.size = 3) : s.data.toList = [s[0], s[1], s[2]] := by
  have hl : s.data.toList.length = 3 := by rw [← Lib.size_eq]; exact h
  match hs : s.data.toList, hl with
  | [a, b, c], _ =>
    have h0 : s[0] = s.data.toList[0]'(by rw [hs]; simp) := rfl
    have h1 : s[1] = s.data.toList[1]'(by rw [hs]; simp) := rfl
    have h2 : s[2] = s.data.toList[2]'(by rw [hs]; simp) := rfl
    rw [h0, h1, h2]
    simp [hs]

theorem quoted3 (s : ByteArray) (h : s.size = 3) : quoted s = (((s[0].toNat : Int) == 39) && ((s[2].toNat : Int) == 39)) := by
  unfold quoted
  rw [list3 s h]

theorem quoted_size (s : ByteArray) (h : s.size ≠ 3) : quoted s = false := by
  unfold quoted
  split
  · next a b c hs => exact absurd (by rw [Lib.size_eq, hs]; rfl) h
  · rfl

theorem pre_bd (s : ByteArray) (b : Int) (h0 : -9223372036854775808 ≤ b) (h1 : b ≤ 9223372036854775807) :
    (pre s b).1.size ≤ s.size ∧ -9223372036854775808 ≤ (pre s b).2 ∧ (pre s b).2 ≤ 9223372036854775807 := by
  unfold pre
  split
  · exact ⟨Nat.le_refl _, h0, h1⟩
  · split
    · refine ⟨?_, ?_, ?_⟩ <;> simp
    · split
      · refine ⟨?_, ?_, ?_⟩ <;> simp
      · split
        · refine ⟨?_, ?_, ?_⟩ <;> simp
        · exact ⟨Nat.le_refl _, h0, h1⟩

theorem pars_quoted (s : ByteArray) (b : Int) (h : s.size = 3) (h0 : ((s[0].toNat : Int) == 39) = true) (h2 : ((s[2].toNat : Int) == 39) = true) :
    pars s b = ((s[1].toNat : Int), true) := by
  have hq : quoted s = true := by rw [quoted3 s h, h0, h2]; rfl
  unfold pars
  rw [if_pos hq, list3 s h]
  rfl

/-- The three ways in which a text is no byte within quotes. -/
theorem not_quoted (s : ByteArray) (hq : quoted s = false) :
    ((s.size : Int) == 3) = false ∨
    (∃ _ : 2 < s.size, ((s.size : Int) == 3) = true ∧ ((s[0].toNat : Int) == 39) = false) ∨
    (∃ _ : 2 < s.size, ((s.size : Int) == 3) = true ∧ ((s[0].toNat : Int) == 39) = true ∧ ((s[2].toNat : Int) == 39) = false) := by
  by_cases h3 : s.size = 3
  · rw [quoted3 s h3] at hq
    refine .inr ?_
    have l3 : 2 < s.size := by omega
    have e3 : ((s.size : Int) == 3) = true := by simp [h3]
    by_cases h0 : ((s[0].toNat : Int) == 39) = true
    · rw [h0] at hq
      exact .inr ⟨l3, e3, h0, by simpa using hq⟩
    · exact .inl ⟨l3, e3, by simpa using h0⟩
  · exact .inl (by simp; omega)

theorem pars_minus (s : ByteArray) (b : Int) (hq : quoted s = false) (t : ByteArray) (c : Int) (hp : pre s b = (t, c)) (ht : 0 < t.size) (h : ((t[0].toNat : Int) == 45) = true) :
    pars s b = (wrap64 (IntKind.u64.wrap (-(digs (t.extract 1 t.size) c).1)), (digs (t.extract 1 t.size) c).2) := by
  unfold pars
  rw [if_neg (by simp [hq]), hp]
  simp only []
  rw [if_pos]
  rw [head_of ht]
  exact h

theorem pars_plus (s : ByteArray) (b : Int) (hq : quoted s = false) (t : ByteArray) (c : Int) (hp : pre s b = (t, c)) (ht : 0 < t.size) (h : ((t[0].toNat : Int) == 45) = false) :
    pars s b = (wrap64 (digs t c).1, (digs t c).2) := by
  unfold pars
  rw [if_neg (by simp [hq]), hp]
  simp only []
  rw [if_neg]
  rw [head_of ht]
  simpa using h

theorem pars_empty (s : ByteArray) (b : Int) (hq : quoted s = false) (c : Int) (hp : pre s b = (ByteArray.empty, c)) :
    pars s b = (0, false) := by
  unfold pars
  have hd : digs ByteArray.empty c = (0, false) := rfl
  rw [if_neg (by simp [hq]), hp]
  simp only []
  rw [if_neg (by decide), hd]
  exact congrArg (fun x => (x, false)) (IntWalk.wrap64_in 0 ⟨by omega, by omega⟩)

/-- How many bytes choose the base: 0 or 1. -/
def pat (s : ByteArray) : Nat :=
  match s.data.toList with
  | [] => 0
  | c :: _ => if ((c.toNat : Int) == 35) = true then 1 else if ((c.toNat : Int) == 36) = true then 1 else if ((c.toNat : Int) == 37) = true then 1 else 0

theorem pat_full (s : ByteArray) (h : 0 < s.size) : pat s =
    if ((s[0].toNat : Int) == 35) = true then 1 else if ((s[0].toNat : Int) == 36) = true then 1 else if ((s[0].toNat : Int) == 37) = true then 1 else 0 := by
  unfold pat
  rw [head_of h]

theorem pat_le (s : ByteArray) : pat s ≤ s.size := by
  by_cases h : 0 < s.size
  · rw [pat_full s h]
    split
    · omega
    · split
      · omega
      · split <;> omega
  · obtain rfl := empty_of s (by omega)
    decide

theorem pre_drop (s : ByteArray) (b : Int) : (pre s b).1.data.toList = s.data.toList.drop (pat s) := by
  unfold pre pat
  split
  · next h => rw [h]; rfl
  · next c l h =>
    have hx : (s.extract 1 s.size).data.toList = s.data.toList.drop 1 := by
      rw [Lib.extract_data, List.take_of_length_le]
      rw [List.length_drop, ← Lib.size_eq]; omega
    split
    · exact hx
    · split
      · exact hx
      · split
        · exact hx
        · rfl

/-- What digits come to, with a sign. -/
def res (L : List UInt8) (c : Int) (neg : Bool) : Int × Bool :=
  if L.isEmpty || !right c || !allDig c L then (0, false) else (wrap64 (if neg then -(dig c L) else dig c L), true)

theorem wrap_m64 (x : Int) : wrap64 (m64 x) = wrap64 x := by unfold wrap64 m64; omega
theorem wrap_neg (x : Int) : wrap64 (IntKind.u64.wrap (-(m64 x))) = wrap64 (-x) := by rw [wrap_u64, wrap_m64]; unfold wrap64 m64; omega
theorem wrap_wneg (x : Int) : wrap64 (-(wrap64 x)) = wrap64 (-x) := by unfold wrap64; omega
theorem wrap_step (x b c : Int) : wrap64 (wrap64 (wrap64 x * b) + c) = wrap64 (x * b + c) := by
  have h1 : ∀ y : Int, wrap64 (wrap64 y + c) = wrap64 (y + c) := fun y => by unfold wrap64; omega
  rw [h1]
  have h2 : ∃ q : Int, wrap64 x = x + 18446744073709551616 * q := by
    refine ⟨-((x + 9223372036854775808) / 18446744073709551616), ?_⟩
    unfold wrap64; omega
  obtain ⟨q, hq⟩ := h2
  have e : wrap64 x * b + c = x * b + c + 18446744073709551616 * (q * b) := by
    rw [hq, Int.add_mul, Int.mul_assoc]; omega
  rw [e]
  generalize x * b + c = y
  generalize q * b = z
  unfold wrap64; omega

theorem digs_res (t : ByteArray) (c : Int) : (wrap64 (digs t c).1, (digs t c).2) = res t.data.toList c false := by
  unfold digs res
  by_cases h : (!t.data.toList.isEmpty && right c && allDig c t.data.toList) = true
  · rw [if_pos h, if_neg (by simpa [and_assoc] using h)]
    simp [wrap_m64]
  · rw [if_neg h, if_pos (by revert h; cases t.data.toList.isEmpty <;> cases right c <;> cases allDig c t.data.toList <;> simp)]
    exact congrArg (fun x => (x, false)) (IntWalk.wrap64_in 0 ⟨by omega, by omega⟩)

theorem digs_res_neg (t : ByteArray) (c : Int) : (wrap64 (IntKind.u64.wrap (-(digs t c).1)), (digs t c).2) = res t.data.toList c true := by
  unfold digs res
  by_cases h : (!t.data.toList.isEmpty && right c && allDig c t.data.toList) = true
  · rw [if_pos h, if_neg (by simpa [and_assoc] using h)]
    simp [wrap_neg]
  · rw [if_neg h, if_pos (by revert h; cases t.data.toList.isEmpty <;> cases right c <;> cases allDig c t.data.toList <;> simp)]
    refine congrArg (fun x => (x, false)) ?_
    rw [wrap_u64, wrap_m64]
    exact IntWalk.wrap64_in _ ⟨by omega, by omega⟩

theorem drop_at (s : ByteArray) (a : Nat) (h : a < s.size) : s.data.toList.drop a = s[a] :: s.data.toList.drop (a + 1) := by
  rw [List.drop_eq_getElem_cons (by rwa [← Lib.size_eq])]; rfl

/-- The number of a text that is no byte within quotes, by what stands behind the byte that chooses the base. -/
theorem pars_res (s : ByteArray) (b : Int) (hq : quoted s = false) (neg : Bool)
    (hn : neg = decide (((s.data.toList.drop (pat s)).head?.map fun a => (a.toNat : Int)) = some 45)) :
    pars s b = res (s.data.toList.drop (if neg then pat s + 1 else pat s)) (pre s b).2 neg := by
  have hd := pre_drop s b
  generalize hp : pre s b = p at hd
  obtain ⟨t, c⟩ := p
  simp only [] at hd ⊢
  by_cases h0 : t.size = 0
  · obtain rfl := empty_of t h0
    rw [pars_empty s b hq c hp]
    have hd' : s.data.toList.drop (pat s) = [] := by rw [← hd]; rfl
    have : neg = false := by rw [hn, hd']; simp
    subst this
    simp only [Bool.false_eq_true, if_false]
    rw [hd']
    rfl
  · have ht : 0 < t.size := by omega
    rw [← hd] at hn
    rw [head_of ht] at hn
    simp only [List.head?_cons, Option.map_some, Option.some.injEq] at hn
    cases hm : ((t[0].toNat : Int) == 45) with
    | true =>
      rw [pars_minus s b hq t c hp ht hm]
      have : neg = true := by rw [hn]; simpa using hm
      subst this
      simp only [if_true]
      rw [digs_res_neg, Lib.extract_data, List.take_of_length_le (by rw [List.length_drop, ← Lib.size_eq]; omega), hd, List.drop_drop]
    | false =>
      rw [pars_plus s b hq t c hp ht hm]
      have : neg = false := by rw [hn]; simpa using hm
      subst this
      simp only [Bool.false_eq_true, if_false]
      rw [digs_res, hd]

theorem pre_full2 (s : ByteArray) (b : Int) (h : 0 < s.size) : (pre s b).2 =
    if ((s[0].toNat : Int) == 35) = true then 10 else if ((s[0].toNat : Int) == 36) = true then 16 else if ((s[0].toNat : Int) == 37) = true then 2 else b := by
  rw [pre_full s b h]
  split
  · rfl
  · split
    · rfl
    · split <;> rfl

theorem pre_empty2 (b : Int) : (pre ByteArray.empty b).2 = b := rfl
theorem pat_empty : pat ByteArray.empty = 0 := rfl

/-- A digit of the document's answer. -/
theorem figv_of {c b : Int} (h2 : 2 ≤ b) (h36 : b ≤ 36) : (figv c b < 0 ↔ b ≤ val c) ∧ (¬ b ≤ val c → figv c b = val c) := by
  have := val_bd c
  unfold figv
  constructor
  · split <;> omega
  · intro h; rw [if_neg (by omega)]

/-- The loop's number: of the digits from 'st' up to 'k'. -/
def upto (s : ByteArray) (st k : Nat) : List UInt8 := (s.data.toList.drop st).take (k - st)
theorem upto_start (s : ByteArray) (st : Nat) : upto s st st = [] := by simp [upto]
theorem start_num (s : ByteArray) (c : Int) (st : Nat) : (Value.int .i64 0) = Value.int .i64 (wrap64 (dig c (upto s st st))) := by
  rw [upto_start]
  exact congrArg (Value.int .i64) (IntWalk.wrap64_in 0 ⟨by omega, by omega⟩).symm
theorem upto_snoc (s : ByteArray) (st k : Nat) (h : st ≤ k) (hk : k < s.size) : upto s st (k + 1) = upto s st k ++ [s[k]] := by
  unfold upto
  have hl : k - st < (s.data.toList.drop st).length := by rw [List.length_drop, ← Lib.size_eq]; omega
  rw [show k + 1 - st = (k - st) + 1 by omega, List.take_succ_eq_append_getElem hl]
  congr 1
  rw [List.getElem_drop]
  have : s[k] = s.data.toList[k]'(by rwa [← Lib.size_eq]) := rfl
  rw [this]
  simp [show st + (k - st) = k by omega]
theorem upto_all (s : ByteArray) (st : Nat) : upto s st s.size = s.data.toList.drop st := by
  unfold upto
  rw [List.take_of_length_le (by rw [List.length_drop, ← Lib.size_eq]; omega)]

theorem res_bad {L : List UInt8} {c : Int} {neg : Bool} (h : allDig c L = false) : res L c neg = (0, false) := by
  unfold res
  rw [h]; simp
theorem res_nil {c : Int} {neg : Bool} : res [] c neg = (0, false) := rfl
theorem res_right {L : List UInt8} {c : Int} {neg : Bool} (h : right c = false) : res L c neg = (0, false) := by
  unfold res
  rw [h]; simp
theorem res_good {L : List UInt8} {c : Int} {neg : Bool} (h0 : L ≠ []) (hr : right c = true) (h : allDig c L = true) : res L c neg = (wrap64 (if neg then -(dig c L) else dig c L), true) := by
  unfold res
  rw [h, hr]
  cases L with
  | nil => exact absurd rfl h0
  | cons a l => rfl
theorem drop_ne (s : ByteArray) (a : Nat) (h : a < s.size) : s.data.toList.drop a ≠ [] := by rw [drop_at s a h]; simp
theorem drop_nil (s : ByteArray) (a : Nat) (h : s.size ≤ a) : s.data.toList.drop a = [] := List.drop_eq_nil_of_le (by rwa [← Lib.size_eq])
theorem bad_at (s : ByteArray) (c : Int) (st k : Nat) (h : st ≤ k) (hk : k < s.size) (hv : c ≤ val s[k].toNat) : allDig c (s.data.toList.drop st) = false := by
  have hl : k - st < (s.data.toList.drop st).length := by rw [List.length_drop, ← Lib.size_eq]; omega
  refine allDig_false (k - st) hl ?_
  rw [List.getElem_drop]
  have : s[k] = s.data.toList[k]'(by rwa [← Lib.size_eq]) := rfl
  rw [this] at hv
  simpa [show st + (k - st) = k by omega] using hv

/-- A figure. -/
def dch (n : Int) : Int := if n < 10 then n + 48 else n + 55
theorem dch_bd {n : Int} (h0 : 0 ≤ n) (h1 : n < 36) : 48 ≤ dch n ∧ dch n ≤ 90 := by unfold dch; split <;> omega

/-- A number in figures of a base. -/
def udig (b m : Nat) : List UInt8 :=
  if h : m < b ∨ b < 2 then [UInt8.ofNat (dch m).toNat] else udig b (m / b) ++ [UInt8.ofNat (dch ((m % b : Nat) : Int)).toNat]
termination_by m
decreasing_by exact Nat.div_lt_self (by omega) (by omega)

theorem udig_last {b m : Nat} (h2 : 2 ≤ b) (h : m / b = 0) : udig b m = [UInt8.ofNat (dch ((m % b : Nat) : Int)).toNat] := by
  have hlt : m < b := by
    rcases Nat.lt_or_ge m b with h' | h'
    · exact h'
    · have := Nat.div_pos h' (by omega); omega
  rw [udig, dif_pos (.inl hlt), Nat.mod_eq_of_lt hlt]
theorem udig_more {b m : Nat} (h2 : 2 ≤ b) (h : m / b ≠ 0) : udig b m = udig b (m / b) ++ [UInt8.ofNat (dch ((m % b : Nat) : Int)).toNat] := by
  have hge : ¬ m < b := fun hlt => h (Nat.div_eq_of_lt hlt)
  rw [udig, dif_neg (by omega)]

theorem pow_half {m a b : Nat} (h2 : 2 ≤ b) (h : m < 2 ^ (a + 1)) : m / b < 2 ^ a := by
  have : m / b ≤ m / 2 := Nat.div_le_div_left h2 (by omega)
  have : m / 2 < 2 ^ a := by rw [Nat.pow_succ] at h; omega
  omega

theorem wrap_quo {m a b : Nat} (h : m < 2 ^ (a + 1)) (ha : a < 64) : IntKind.u64.wrap ((m : Int) / b) = ((m / b : Nat) : Int) := by
  have h1 : m < 2 ^ 64 := Nat.lt_of_lt_of_le h (Nat.pow_le_pow_right (by omega) (by omega))
  have h2 : m / b ≤ m := Nat.div_le_self m b
  rw [wrap_u64, ← Int.natCast_ediv]
  generalize m / b = q at *
  unfold m64
  omega

end Go.Proofs.YthkmbnkkohomeaaGreatDoor.Num

/- Contracts of package number and of the document's answers for it: plain functions of strings and integers. -/
namespace Go.Proofs.YthkmbnkkohomeaaGreatDoor.Num
open Go.RowKit

set_option maxHeartbeats 400000 in
theorem right_any (b : Int) (w : World) :
    Calls Tryz.prog 320 #[.int .i64 b] w fun e w' => e = .returned (.bool (right b)) ∧ w' = w := by
  by_cases h1 : 2 ≤ b <;> by_cases h2 : b ≤ 36
  all_goals
    have e1 : right b = (decide (2 ≤ b) && decide (b ≤ 36)) := rfl
    simp only [h1, h2, decide_true, decide_false, Bool.and_true, Bool.and_false] at e1
    go_enter Tryz.func320, Tryz.ntmps320
    go_wp2
    go_ret
    exact ⟨by simp [e1], rfl⟩

set_option maxHeartbeats 400000 in
theorem value_any (c : Int) (h0 : 0 ≤ c) (h1 : c ≤ 255) (w : World) :
    Calls Tryz.prog 371 #[.int .u8 c] w fun e w' => e = .returned (.int .i64 (val c)) ∧ w' = w := by
  by_cases a1 : 48 ≤ c <;> by_cases a2 : c ≤ 57 <;> by_cases a3 : 65 ≤ c <;> by_cases a4 : c ≤ 90 <;> by_cases a5 : 97 ≤ c <;> by_cases a6 : c ≤ 122 <;> try omega
  all_goals
    go_enter Tryz.func371, Tryz.ntmps371
    go_wp2
    go_ret
    exact ⟨ret_int (by unfold val; split <;> (try split) <;> (try split) <;> omega), rfl⟩


set_option maxHeartbeats 400000 in
theorem prefix_any (s : ByteArray) (b : Int) (w : World) (hs : s.size ≤ maxLen) :
    Calls Tryz.prog 301 #[.string s, .int .i64 b] w fun e w' => e = .returned (.tuple #[.string (pre s b).1, .int .i64 (pre s b).2]) ∧ w' = w := by
  unfold maxLen at hs
  by_cases h0 : s.size = 0
  · obtain rfl := empty_of s h0
    have HP : Hid (pre ByteArray.empty b = (ByteArray.empty, b)) := Lib.hid rfl
    go_enter Tryz.func301, Tryz.ntmps301
    go_wp2
    go_ret2
    rw [HP.out]
    exact ⟨rfl, rfl⟩
  · have hp : 0 < s.size := by omega
    have hf := full_of hp
    go_enter Tryz.func301, Tryz.ntmps301
    go_wp2
    all_goals
      go_ret2
      have HP := pre_full s b hp
      simp only [*, if_true, if_false, Bool.false_eq_true] at HP
      rw [HP]
      exact ⟨rfl, rfl⟩

set_option maxHeartbeats 400000 in
theorem digits_any (s : ByteArray) (b : Int) (w : World) (hs : s.size ≤ maxLen) (hb0 : -9223372036854775808 ≤ b) (hb1 : b ≤ 9223372036854775807) :
    Calls Tryz.prog 302 #[.string s, .int .i64 b] w fun e w' => e = .returned (.tuple #[.int .u64 (digs s b).1, .bool (digs s b).2]) ∧ w' = w := by
  unfold maxLen at hs
  by_cases h0 : s.size = 0
  · obtain rfl := empty_of s h0
    have HP : Hid (digs ByteArray.empty b = (0, false)) := Lib.hid rfl
    go_enter Tryz.func302, Tryz.ntmps302
    go_wp2
    go_ret2
    rw [HP.out]
    exact ⟨rfl, rfl⟩
  · have hp : 0 < s.size := by omega
    have hf := full_of hp
    by_cases hr : right b = true
    · go_enter Tryz.func302, Tryz.ntmps302
      go_wp2_with (go_at_call 320; refine (right_any _ _).mono ?_; rintro e w' ⟨rfl, rfl⟩)
      have hbb : 2 ≤ b ∧ b ≤ 36 := by simpa [right] using hr
      obtain ⟨hb2, hb3⟩ := hbb
      go_loop [6, 18] (fun n i => ∃ k : Nat, k ≤ s.size ∧ i = .int .i64 k ∧ n = .int .u64 (m64 (dig b (s.data.toList.take k))) ∧ allDig b (s.data.toList.take k) = true) (fun _ i => s.size - (intOf i).toNat)
      case atStart => exact ⟨0, Nat.zero_le _, rfl, rfl, rfl⟩
      case round =>
        obtain ⟨k, hk, rfl, rfl, had⟩ := hrel
        have HAD := Lib.hid had
        clear had
        have hm := m64_bd (dig b (s.data.toList.take k))
        by_cases hlt : k < s.size
        · have hc0 : 0 ≤ (s[k].toNat : Int) := by omega
          have hc1 : (s[k].toNat : Int) ≤ 255 := by have := s[k].toNat_lt; omega
          have hv := val_bd (s[k].toNat : Int)
          by_cases hge : b ≤ val s[k].toNat
          · go_wp2_with (go_at_call 371; refine (value_any _ hc0 hc1 _).mono ?_; rintro e w' ⟨rfl, rfl⟩)
            go_ret2
            rw [digs_bad s b k hlt hge]
            exact ⟨rfl, rfl⟩
          · have hge' : ¬ b ≤ val s[k].toNat := hge
            go_wp2_with (go_at_call 371; refine (value_any _ hc0 hc1 _).mono ?_; rintro e w' ⟨rfl, rfl⟩)
            go_round
            case rel =>
              refine ⟨k + 1, by omega, by go_num, ?_, by rw [take_snoc s k hlt, allDig_snoc, HAD.out]; simpa using hge⟩
              rw [take_snoc s k hlt, dig_snoc, wrap_u64, wrap_u64, m64_step]
            case measure => simp [intOf]; omega
        · obtain rfl : k = s.size := by omega
          go_wp2
          go_ret2
          have HA := HAD.out
          rw [take_all] at HA
          rw [digs_good s b hp hr HA, take_all]
          exact ⟨rfl, rfl⟩
    · have hr' : right b = false := by simpa using hr
      have HR := Lib.hid (digs_right s b hr')
      clear hr
      go_enter Tryz.func302, Tryz.ntmps302
      go_wp2_with (go_at_call 320; refine (right_any _ _).mono ?_; rintro e w' ⟨rfl, rfl⟩)
      go_ret2
      rw [HR.out]
      exact ⟨rfl, rfl⟩

set_option maxHeartbeats 400000 in
theorem parse_quoted (s : ByteArray) (b : Int) (w : World) (h3 : s.size = 3) (h0 : ((s[0].toNat : Int) == 39) = true) (h2 : ((s[2].toNat : Int) == 39) = true) :
    Calls Tryz.prog 167 #[.string s, .int .i64 b] w fun e w' => e = .returned (.tuple #[.int .i64 (pars s b).1, .bool (pars s b).2]) ∧ w' = w := by
  have e3 : ((s.size : Int) == 3) = true := by simp [h3]
  have l3 : 2 < s.size := by omega
  have hb : (s[1].toNat : Int) ≤ 255 := by have := s[1].toNat_lt; omega
  have HP := Lib.hid (pars_quoted s b h3 h0 h2)
  go_enter Tryz.func167, Tryz.ntmps167
  go_wp2_with fail
  go_ret2
  rw [HP.out]
  exact ⟨rfl, rfl⟩

set_option maxHeartbeats 400000 in
theorem parse_any (s : ByteArray) (b : Int) (w : World) (hs : s.size ≤ maxLen) (hb0 : -9223372036854775808 ≤ b) (hb1 : b ≤ 9223372036854775807) :
    Calls Tryz.prog 167 #[.string s, .int .i64 b] w fun e w' => e = .returned (.tuple #[.int .i64 (pars s b).1, .bool (pars s b).2]) ∧ w' = w := by
  by_cases hq : quoted s = true
  · have h3 : s.size = 3 := by
      apply Decidable.byContradiction
      intro h
      rw [quoted_size s h] at hq
      cases hq
    rw [quoted3 s h3, Bool.and_eq_true] at hq
    exact parse_quoted s b w h3 hq.1 hq.2
  have hq : quoted s = false := by simpa using hq
  have hbd := pre_bd s b hb0 hb1
  obtain ⟨t, c, hp⟩ : ∃ t c, pre s b = (t, c) := ⟨_, _, rfl⟩
  have hcall := fun w : World => prefix_any s b w hs
  rw [hp] at hbd hcall
  simp only [] at hbd hcall
  have HC := Lib.hid hcall
  clear hcall
  have hts : t.size ≤ maxLen := Nat.le_trans hbd.1 hs
  obtain ⟨_, hc0, hc1⟩ := hbd
  unfold maxLen at hs hts
  by_cases ht : t.size = 0
  · obtain rfl := empty_of t ht
    have HE := Lib.hid (pars_empty s b hq c hp)
    have HD : Hid (digs ByteArray.empty c = (0, false)) := Lib.hid rfl
    have hdig := fun w : World => digits_any ByteArray.empty c w (by simp) hc0 hc1
    rw [HD.out] at hdig
    have HG := Lib.hid hdig
    have hw3 := not_quoted s hq
    clear hdig hp hq ht
    rcases hw3 with e3 | ⟨l3, e3, q0⟩ | ⟨l3, e3, q0, q2⟩
    all_goals
      go_enter Tryz.func167, Tryz.ntmps167
      go_wp2_with (first | (go_at_call 301; refine (HC.out _).mono ?_; rintro e w' ⟨rfl, rfl⟩) | (go_at_call 302; refine (HG.out _).mono ?_; rintro e w' ⟨rfl, rfl⟩))
      go_ret2
      rw [HE.out]
      exact ⟨rfl, rfl⟩
  · have ht : 0 < t.size := by omega
    have hf := full_of ht
    have hw3 := not_quoted s hq
    cases hm : ((t[0].toNat : Int) == 45) with
    | true =>
      have HE := Lib.hid (pars_minus s b hq t c hp ht hm)
      have hdig := fun w : World => digits_any (t.extract 1 t.size) c w (by unfold maxLen; simp; omega) hc0 hc1
      obtain ⟨n, ok, hd⟩ : ∃ n ok, digs (t.extract 1 t.size) c = (n, ok) := ⟨_, _, rfl⟩
      rw [hd] at hdig
      have HG := Lib.hid hdig
      have HD := Lib.hid hd
      clear hdig hp hq hd
      rcases hw3 with e3 | ⟨l3, e3, q0⟩ | ⟨l3, e3, q0, q2⟩
      all_goals
        go_enter Tryz.func167, Tryz.ntmps167
        go_wp2_with (first | (go_at_call 301; refine (HC.out _).mono ?_; rintro e w' ⟨rfl, rfl⟩) | (go_at_call 302; refine (HG.out _).mono ?_; rintro e w' ⟨rfl, rfl⟩))
        go_ret2
        rw [HE.out, HD.out]
        exact ⟨rfl, rfl⟩
    | false =>
      have HE := Lib.hid (pars_plus s b hq t c hp ht hm)
      have hdig := fun w : World => digits_any t c w (by unfold maxLen; omega) hc0 hc1
      obtain ⟨n, ok, hd⟩ : ∃ n ok, digs t c = (n, ok) := ⟨_, _, rfl⟩
      rw [hd] at hdig
      have HG := Lib.hid hdig
      have HD := Lib.hid hd
      clear hdig hp hq hd
      rcases hw3 with e3 | ⟨l3, e3, q0⟩ | ⟨l3, e3, q0, q2⟩
      all_goals
        go_enter Tryz.func167, Tryz.ntmps167
        go_wp2_with (first | (go_at_call 301; refine (HC.out _).mono ?_; rintro e w' ⟨rfl, rfl⟩) | (go_at_call 302; refine (HG.out _).mono ?_; rintro e w' ⟨rfl, rfl⟩))
        go_ret2
        rw [HE.out, HD.out]
        exact ⟨rfl, rfl⟩
end Go.Proofs.YthkmbnkkohomeaaGreatDoor.Num

/- vm.New where the parts have sizes that fit. -/
namespace Go.Proofs.YthkmbnkkohomeaaGreatDoor.Mem
open Go.RowKit

/-- Where the parts of a machine lie. -/
structure VB where
  mb : Nat
  sb : Nat
  db : Nat
  rb : Nat
  p : Nat
  g : Nat
  cm : Nat
  cd : Nat
  di : Nat
  da : Nat
  re : Nat

/-- A machine: its row, its memory's bytes, where the dictionary ends, how deep the stacks are. -/
structure VmS (w : World) (v : VB) (m : MR) (bs : List UInt8) (x dd rd : Nat) : Prop where
  row : Mch w v.mb m
  sp : m.sp = .pointer (some ⟨v.sb, 0, none⟩)
  d : m.d = .pointer (some ⟨v.db, 0, none⟩)
  r : m.r = .pointer (some ⟨v.rb, 0, none⟩)
  does : m.does = .map (some v.cm)
  sat : Sat w v.sb v.p v.g 8 v.di x bs
  ds : Stk w v.db v.p v.di v.da dd (-3) (-4)
  rs : Stk w v.rb v.p (v.di + v.da * 8) v.re rd (-5) (-6)
  dot : ∃ n, NumP w v.cm n 68 (dotV v.cd) ∧ n ≤ 1000
  dotc : DotC w v.cd
  d8 : v.di % 8 = 0
  fits : v.di + (v.da + v.re) * 8 ≤ bs.length
  ne1 : v.mb ≠ v.sb ∧ v.mb ≠ v.db ∧ v.mb ≠ v.rb ∧ v.mb ≠ v.p ∧ v.mb ≠ v.g ∧ v.mb ≠ v.cm ∧ v.mb ≠ v.cd
  ne2 : v.g ≠ v.sb ∧ v.g ≠ v.db ∧ v.g ≠ v.rb ∧ v.g ≠ v.p ∧ v.g ≠ v.cm ∧ v.g ≠ v.cd
  ne3 : v.db ≠ v.sb ∧ v.db ≠ v.rb ∧ v.db ≠ v.p ∧ v.db ≠ v.cm ∧ v.db ≠ v.cd

theorem NumP.fr {S : Nat → Prop} {w w' : World} {b n : Nat} {k : Int} {v : Value} (h : NumP w b n k v) (f : Fr S w w') (hs : ¬ S b) : NumP w' b n k v := by
  obtain ⟨G, h1, h2⟩ := h
  exact ⟨G, h1.fr f hs, h2⟩
theorem VmS.fr {S : Nat → Prop} {w w' : World} {v : VB} {m : MR} {bs : List UInt8} {x dd rd : Nat} (h : VmS w v m bs x dd rd) (f : Fr S w w') (h1 : ¬ S v.mb) (h2 : ¬ S v.sb) (h3 : ¬ S v.db) (h4 : ¬ S v.rb) (h5 : ¬ S v.p) (h6 : ¬ S v.g) (h7 : ¬ S v.cm) (h8 : ¬ S v.cd) : VmS w' v m bs x dd rd := by
  obtain ⟨n, hn, hn2⟩ := h.dot
  exact ⟨h.row.fr f h1, h.sp, h.d, h.r, h.does, h.sat.fr f h2 h5 h6, h.ds.fr f h3, h.rs.fr f h4, ⟨n, hn.fr f h7, hn2⟩, f.obj h.dotc h8, h.d8, h.fits, h.ne1, h.ne2, h.ne3⟩
theorem VmS.nf {w w' : World} {v : VB} {m : MR} {bs : List UInt8} {x dd rd : Nat} (h : VmS w v m bs x dd rd) (f : Fr (fun _ => False) w w') : VmS w' v m bs x dd rd := h.fr f id id id id id id id id

/-- The bytes of a new machine. -/
def vmB (di da re he : Nat) : List UInt8 := layB (setv (List.replicate (di + (da + re) * 8 + he) 0) (di + (da + re) * 8) (he : Int))
theorem vmB_ok (di da re he : Nat) (h1 : 2832 ≤ di) (h2 : di + (da + re) * 8 + he ≤ 1048576) : HD (vmB di da re he) 2832 24 wsAll ∧ (vmB di da re he).length = di + (da + re) * 8 + he ∧ cellv (vmB di da re he) 16 = 10 := by
  have hl : (setv (List.replicate (di + (da + re) * 8 + he) 0) (di + (da + re) * 8) (he : Int)).length = di + (da + re) * 8 + he := by rw [setv_length, List.length_replicate]
  obtain ⟨k1, k2, k3, _, _, _⟩ := layB_ok (setv (List.replicate (di + (da + re) * 8 + he) 0) (di + (da + re) * 8) (he : Int)) (by omega) (by omega)
  exact ⟨k1, by rw [vmB, k2, hl], k3⟩

set_option maxRecDepth 100000 in
set_option maxHeartbeats 2000000 in
theorem vmnew_ok (di da re he : Nat) (sl : Int) (inn : ByteArray) (w : World) (ht : Cod.Tab w) (h1 : di % 8 = 0) (h2 : he % 8 = 0) (h3 : 16 ≤ he) (h4 : 2832 ≤ di) (hs : di + (da + re) * 8 + he ≤ 1048576) :
    Calls Tryz.prog 53 #[.agg (cfgC di da re he sl), .string inn] w fun e w' => ∃ (v : VB) (hp sels : Value), e = .returned (.tuple #[.pointer (some ⟨v.mb, 0, none⟩), .int .i64 0]) ∧
      VmS w' v ⟨.pointer (some ⟨v.sb, 0, none⟩), .pointer (some ⟨v.db, 0, none⟩), .pointer (some ⟨v.rb, 0, none⟩), hp, sels, 0, 0, 8, 24, sl, 0, ByteArray.empty, inn, false, 0, 16, 2824, .map (some v.cm)⟩ (vmB di da re he) 2832 0 0 ∧
      v.di = di ∧ v.da = da ∧ v.re = re ∧ w.heap.size ≤ v.mb ∧ (w.heap.size ≤ v.db ∧ w.heap.size ≤ v.g) ∧ Fr (fun _ => False) w w' := by
  have hA := heap_alloc_last w (.cells (cfgC di da re he sl) 24)
  have FA := Lib.hid ((Fr.refl (fun _ => False) w).alloc (.cells (cfgC di da re he sl) 24))
  have hsz : (w.alloc (.cells (cfgC di da re he sl) 24)).heap.size = w.heap.size + 1 := by simp
  obtain ⟨w1, hw1⟩ : ∃ w1, w.alloc (.cells (cfgC di da re he sl) 24) = w1 := ⟨_, rfl⟩
  rw [hw1] at hA FA hsz
  obtain ⟨cb, hcb⟩ : ∃ cb, w.heap.size = cb := ⟨_, rfl⟩
  rw [hcb] at hA hsz
  obtain ⟨c0, c1, c2, c3, c4⟩ := cfg_new _ _ _ _ _ _ _ _ hA
  have HA := Lib.hid hA
  have HW := Lib.hid (whole_ok di da re he sl w1 h1 h2 hs)
  have HT := Lib.hid ht
  have HSZ := Lib.hid hsz
  unfold cfgC at hw1 ⊢ HW
  clear hA hsz ht
  go_enter Tryz.func53, Tryz.ntmps53
  go_wp2_with (go_at_call 74; refine HW.out.mono ?_; rintro e w2 ⟨p, g, rfl, hp, hg, hmat, hf⟩)
  have C4 := Lib.hid (fun W (h : Fr (fun _ => False) w2 W) => Fr.cell h (hf.cell c4 id) id)
  have HTW := Lib.hid (fun W (h : Fr (fun _ => False) w2 W) => Cod.tab_fr ((FA.out.trans hf).trans h) HT.out)
  have HMT := Lib.hid hmat
  have HF2 := Lib.hid hf
  have HPG := Lib.hid (And.intro hp hg)
  have hq4 := C4.out _ (Fr.refl _ _)
  clear c0 c1 c2 c3 c4 hmat hf hp hg
  go_region_held3 (fun W => W.cell? ⟨cb, 4, none⟩ = some (.int .i64 sl) ∧ Fr (fun _ => False) w2 W)
    ((go_split_ands; refine (fun hF => ⟨C4.out _ hF, hF⟩ : Fr (fun _ => False) w2 _ → _) ?_; repeat' with_reducible first | exact Fr.refl _ _ | assumption | apply Fr.drew | apply Fr.alloc))
    (first | (go_at_call 75; go_split_ands; refine (inew_any _ _).mono ?_; rintro e w3 ⟨rfl, ho3, hf3⟩; have g3 : Fr (fun _ => False) w2 w3 := Fr.trans (by repeat' with_reducible first | exact Fr.refl _ _ | assumption | apply Fr.drew | apply Fr.alloc) hf3) | (go_at_call 76; go_split_ands; refine (primitives_is _ (HTW.out _ (by repeat' with_reducible first | exact Fr.refl _ _ | assumption | apply Fr.drew | apply Fr.alloc))).mono ?_; rintro e w4 ⟨cm, cd, n, rfl, hcm, hcd, hcl, hnum, hn, hdc, hbc, hf4⟩; have g4 : Fr (fun _ => False) w2 w4 := Fr.trans (by repeat' with_reducible first | exact Fr.refl _ _ | assumption | apply Fr.drew | apply Fr.alloc) hf4) | fail)
  rename_i hHeld
  obtain ⟨mb, hmb⟩ : ∃ mb, w4.heap.size = mb := ⟨_, rfl⟩
  obtain ⟨sv, hsv⟩ : ∃ sv, (Value.pointer (some ⟨w2.heap.size + 1, 0, none⟩)) = sv := ⟨_, rfl⟩
  have hO := heap_alloc_last w4 (.cells (MR.row ⟨.pointer none, .pointer none, .pointer none, .pointer none, sv, 0, 0, 0, 0, sl, 0, ByteArray.empty, inn, false, 0, 0, 0, .map (some cm)⟩) 112)
  have hF := (Fr.refl (fun _ => False) w4).alloc (.cells (MR.row ⟨.pointer none, .pointer none, .pointer none, .pointer none, sv, 0, 0, 0, 0, sl, 0, ByteArray.empty, inn, false, 0, 0, 0, .map (some cm)⟩) 112)
  have hz5 : (w4.alloc (.cells (MR.row ⟨.pointer none, .pointer none, .pointer none, .pointer none, sv, 0, 0, 0, 0, sl, 0, ByteArray.empty, inn, false, 0, 0, 0, .map (some cm)⟩) 112)).heap.size = w4.heap.size + 1 := by simp
  obtain ⟨w5, hw5⟩ : ∃ w5, w4.alloc (.cells (MR.row ⟨.pointer none, .pointer none, .pointer none, .pointer none, sv, 0, 0, 0, 0, sl, 0, ByteArray.empty, inn, false, 0, 0, 0, .map (some cm)⟩) 112) = w5 := ⟨_, rfl⟩
  have hw5' := hw5
  unfold MR.row at hw5'
  simp only [hsv, hmb] at hO hz5 hHeld ⊢
  rw [hw5] at hO hF hz5
  rw [show (ByteArray.empty : ByteArray) = ⟨#[]⟩ from rfl] at hw5'
  rw [hw5']
  have g5 := g4.trans hF
  have hp2 := HMT.out.lt
  have k3 := g3.size
  have kcd := lt_of_block hdc
  rw [hmb] at hcl kcd
  have HCM := Lib.hid (hnum.fr hF id)
  have HCD := Lib.hid (show DotC w5 cd from hF.obj hdc id)
  have HM5 := Lib.hid (show Mch w5 mb _ from hO)
  have HMT5 := Lib.hid (HMT.out.fr g5 id id)
  have HG5 := Lib.hid g5
  have hk2 := HF2.out.size
  have hcfg := Lib.hid (cfg_new w5 _ _ _ _ _ _ cb ((HF2.out.trans g5).obj HA.out id))
  obtain ⟨c0, c1, c2, c3, c4⟩ := hcfg.out
  have hpg := HPG.out
  have hsz := HSZ.out
  have HD := Lib.hid (divide_ok mb p g di da re he sl _ _ w5 HM5.out HMT5.out h1 h2 h3 (by omega) (by rw [List.length_replicate]) ⟨by omega, by omega⟩)
  unfold cfgC at HD
  have HN := Lib.hid hn
  have HHS := Lib.hid (And.intro hs h4)
  have H8 := Lib.hid h1
  clear hHeld hO hF hw5 hw5' g5 hnum hdc hn hf4 g4 hf3 ho3 g3 hs h1 h2 h3 h4 hq4
  go_wp2_with (go_at_call 77; refine HD.out.mono ?_; rintro e w6 ⟨hb, db, rb, sb, rfl, hm6, hh6, hd6, hr6, hs6, hord, hf6⟩)
  have hfw5 : Fr (fun _ => False) w w5 := FA.out.trans (HF2.out.trans HG5.out)
  have hfw6 : Fr (fun _ => False) w w6 := hfw5.after hf6 (fun k hk e => by rcases e with e | e <;> omega)
  have HT6 := Lib.hid (fun W (h : Trio mb sb g w6 W) => Cod.tab_fr (hfw6.after h (fun k hk e => by rcases e with e | e | e <;> omega)) HT.out)
  have HL := Lib.hid (lay_ok mb sb p g 8 di _ _ w6 hs6 hm6 rfl (by have := HHS.out; omega) ⟨by omega, by omega, by omega⟩ HT6.out)
  have HCM6 := Lib.hid (HCM.out.fr hf6 (by omega))
  have HCD6 := Lib.hid (show DotC w6 cd from hf6.obj HCD.out (by omega))
  have HD6 := Lib.hid hd6
  have HR6 := Lib.hid hr6
  have HF6 := Lib.hid hfw6
  clear hm6 hh6 hd6 hr6 hs6 hf6 hfw5 hfw6 c0 c1 c2 c3 c4
  go_wp2_with (go_at_call 78; refine HL.out.mono ?_; rintro e w7 ⟨rfl, hs7, hm7, hf7⟩)
  go_ret2
  have nd : ¬ (db = mb ∨ db = sb ∨ db = g) := by omega
  have nr : ¬ (rb = mb ∨ rb = sb ∨ rb = g) := by omega
  have nc : ¬ (cm = mb ∨ cm = sb ∨ cm = g) := by omega
  have ne : ¬ (cd = mb ∨ cd = sb ∨ cd = g) := by omega
  have hgp := HMT.out.1
  have hh := HHS.out
  have hB := vmB_ok di da re he hh.2 hh.1
  have y1 : di % 8 = 0 := H8.out
  have y2 : di + (da + re) * 8 ≤ (vmB di da re he).length := by rw [hB.2.1]; omega
  have y3 : mb ≠ sb ∧ mb ≠ db ∧ mb ≠ rb ∧ mb ≠ p ∧ mb ≠ g ∧ mb ≠ cm ∧ mb ≠ cd := by omega
  have y4 : g ≠ sb ∧ g ≠ db ∧ g ≠ rb ∧ g ≠ p ∧ g ≠ cm ∧ g ≠ cd := by omega
  have y5 : db ≠ sb ∧ db ≠ rb ∧ db ≠ p ∧ db ≠ cm ∧ db ≠ cd := by omega
  exact ⟨⟨mb, sb, db, rb, p, g, cm, cd, di, da, re⟩, .pointer (some ⟨hb, 0, none⟩), sv, rfl, ⟨hm7, rfl, rfl, rfl, rfl, hs7, HD6.out.fr hf7 nd, HR6.out.fr hf7 nr, ⟨n, HCM6.out.fr hf7 nc, HN.out⟩, hf7.obj HCD6.out ne, y1, y2, y3, y4, y5⟩, rfl, rfl, rfl, (by show w.heap.size ≤ mb; omega), ⟨by show w.heap.size ≤ db; omega, by show w.heap.size ≤ g; omega⟩, HF6.out.after hf7 (fun k hk e => by rcases e with e | e | e <;> omega)⟩
end Go.Proofs.YthkmbnkkohomeaaGreatDoor.Mem
