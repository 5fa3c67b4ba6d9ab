/- Plain mathematics of numbers as texts: digits, their value, and the number that a text denotes. -/
import Derived.IntWalk
import Derived.WalkArith
import Derived.Below
import Derived.Lib.Strings
namespace Go.Proofs.Ytcimiijmffblgaa.Num
open Go.RowKit

/-- A digit's number; 36 for a byte that is none. -/
def val (c : Int) : Int := if 48 ≤ c ∧ c ≤ 57 then c - 48 else if 65 ≤ c ∧ c ≤ 90 then c - 55 else if 97 ≤ c ∧ c ≤ 122 then c - 87 else 36
theorem val_bd (c : Int) : 0 ≤ val c ∧ val c ≤ 36 := by unfold val; split <;> (try split) <;> (try split) <;> omega

/-- The digits' number, unbounded. -/
def dig (b : Int) (l : List UInt8) : Int := l.foldl (fun n c => n * b + val c.toNat) 0
theorem dig_snoc (b : Int) (l : List UInt8) (c : UInt8) : dig b (l ++ [c]) = dig b l * b + val c.toNat := by simp [dig, List.foldl_append]

/-- Are all bytes digits of the base? -/
def allDig (b : Int) (l : List UInt8) : Bool := l.all fun c => decide (val c.toNat < b)
theorem allDig_snoc (b : Int) (l : List UInt8) (c : UInt8) : allDig b (l ++ [c]) = (allDig b l && decide (val c.toNat < b)) := by simp [allDig]
theorem allDig_false {b : Int} {l : List UInt8} (k : Nat) (h : k < l.length) (hv : b ≤ val l[k].toNat) : allDig b l = false := by
  unfold allDig
  rw [List.all_eq_false]
  exact ⟨l[k], List.getElem_mem h, by simpa using hv⟩

theorem take_snoc (s : ByteArray) (k : Nat) (h : k < s.size) : s.data.toList.take (k + 1) = s.data.toList.take k ++ [s[k]] := by
  rw [List.take_succ_eq_append_getElem (by simpa using h)]; rfl

/-- Is a base right? -/
def right (b : Int) : Bool := decide (2 ≤ b) && decide (b ≤ 36)

/-- Where a byte stands in a text; -1: nowhere. -/
def plc : List UInt8 → Int → Int
  | [], _ => -1
  | a :: l, c => if (a.toNat : Int) = c then 0 else if plc l c < 0 then -1 else plc l c + 1


theorem ret_int {k : IntKind} {a b : Int} (h : a = b) : Ending.returned (.int k a) = .returned (.int k b) := by rw [h]

/-- What the sign of a base leaves, and the base. -/
def pre (s : ByteArray) (b : Int) : ByteArray × Int :=
  match s.data.toList with
  | [] => (s, b)
  | c :: _ => if ((c.toNat : Int) == 35) = true then (s.extract 1 s.size, 10) else if ((c.toNat : Int) == 36) = true then (s.extract 1 s.size, 16)
    else if ((c.toNat : Int) == 37) = true then (s.extract 1 s.size, 2) else (s, b)

theorem empty_of (s : ByteArray) (h : s.size = 0) : s = ByteArray.empty := by simpa using h

theorem full_of {s : ByteArray} (h : 0 < s.size) : s.toList.isEmpty = false := by
  rw [ByteArray.toList_eq]
  cases hl : s.data.toList with
  | nil => have : s.size = 0 := by rw [Lib.size_eq, hl]; rfl
           omega
  | cons a l => rfl

theorem head_of {s : ByteArray} (h : 0 < s.size) : s.data.toList = s[0] :: s.data.toList.tail := by
  cases hl : s.data.toList with
  | nil => have : s.size = 0 := by rw [Lib.size_eq, hl]; rfl
           omega
  | cons a l =>
    have : s[0] = s.data.toList[0]'(by rw [hl]; simp) := rfl
    simp [this, hl]

theorem pre_full (s : ByteArray) (b : Int) (h : 0 < s.size) : pre s b =
    if ((s[0].toNat : Int) == 35) = true then (s.extract 1 s.size, 10) else if ((s[0].toNat : Int) == 36) = true then (s.extract 1 s.size, 16)
    else if ((s[0].toNat : Int) == 37) = true then (s.extract 1 s.size, 2) else (s, b) := by
  unfold pre
  rw [head_of h]

/-- Modulo 2^64. -/
def m64 (x : Int) : Int := x % 18446744073709551616
theorem m64_bd (x : Int) : 0 ≤ m64 x := by unfold m64; omega

theorem wrap_u64 (x : Int) : IntKind.u64.wrap x = m64 x := by
  simp only [IntKind.wrap, m64]
  simp [IntKind.bits, IntKind.signed]

theorem m64_step (a b c : Int) : m64 (m64 (m64 a * b) + c) = m64 (a * b + c) := by
  simp only [m64, Int.emod_add_emod]
  have h : ∀ m : Int, (a % m * b + c) % m = (a * b + c) % m := fun m => by
    rw [Int.add_emod, Int.mul_emod, Int.emod_emod, ← Int.mul_emod, ← Int.add_emod]
  exact h _

/-- The digits' number, modulo 2^64, and whether all are digits of a right base. -/
def digs (s : ByteArray) (b : Int) : Int × Bool :=
  if !s.data.toList.isEmpty && right b && allDig b s.data.toList then (m64 (dig b s.data.toList), true) else (0, false)

theorem take_all (s : ByteArray) : s.data.toList.take s.size = s.data.toList := List.take_of_length_le (by rw [← Lib.size_eq]; omega)

theorem digs_bad (s : ByteArray) (b : Int) (k : Nat) (h : k < s.size) (hv : b ≤ val s[k].toNat) : digs s b = (0, false) := by
  unfold digs
  rw [allDig_false k (by rwa [← Lib.size_eq]) hv]
  simp

theorem digs_good (s : ByteArray) (b : Int) (h : 0 < s.size) (hr : right b = true) (hd : allDig b s.data.toList = true) : digs s b = (m64 (dig b s.data.toList), true) := by
  unfold digs
  rw [hr, hd, head_of h]
  rfl

theorem digs_right (s : ByteArray) (b : Int) (hr : right b = false) : digs s b = (0, false) := by
  unfold digs
  rw [hr]
  simp

theorem plc_pos : ∀ (l : List UInt8) (c : Int) (k : Nat), (l[k]?.map fun a => (a.toNat : Int)) = some c → (∀ j, j < k → (l[j]?.map fun a => (a.toNat : Int)) ≠ some c) → plc l c = k
  | [], _, _, h, _ => by simp at h
  | a :: l, c, 0, h, _ => by
    have : (a.toNat : Int) = c := by simpa using h
    rw [plc, if_pos this]; rfl
  | a :: l, c, k + 1, h, hn => by
    have h0 : ¬ (a.toNat : Int) = c := by simpa using hn 0 (by omega)
    have ih := plc_pos l c k (by simpa using h) (fun j hj => by simpa using hn (j + 1) (by omega))
    rw [plc, if_neg h0, ih, if_neg (by omega)]
    omega

theorem plc_neg : ∀ (l : List UInt8) (c : Int), (∀ j, j < l.length → (l[j]?.map fun a => (a.toNat : Int)) ≠ some c) → plc l c = -1
  | [], _, _ => rfl
  | a :: l, c, hn => by
    have h0 : ¬ (a.toNat : Int) = c := by simpa using hn 0 (by simp)
    have ih := plc_neg l c (fun j hj => by simpa using hn (j + 1) (by simpa using hj))
    rw [plc, if_neg h0, ih, if_pos (by omega)]

theorem at_of (s : ByteArray) (k : Nat) (h : k < s.size) : s.data.toList[k]? = some s[k] := by
  rw [List.getElem?_eq_getElem (by rwa [← Lib.size_eq])]; rfl

theorem plc_hit (s : ByteArray) (c : Int) (k : Nat) (h : k < s.size) (hc : (s[k].toNat : Int) = c) (hn : ∀ j, j < k → (s.data.toList[j]?.map fun a => (a.toNat : Int)) ≠ some c) : plc s.data.toList c = k :=
  plc_pos _ _ _ (by rw [at_of s k h]; simpa using hc) hn

theorem plc_next (s : ByteArray) (c : Int) (k : Nat) (h : k < s.size) (hc : ¬ (s[k].toNat : Int) = c) (hn : ∀ j, j < k → (s.data.toList[j]?.map fun a => (a.toNat : Int)) ≠ some c) :
    ∀ j, j < k + 1 → (s.data.toList[j]?.map fun a => (a.toNat : Int)) ≠ some c := by
  intro j hj
  by_cases e : j = k
  · subst e; rw [at_of s j h]; simpa using hc
  · exact hn j (by omega)

theorem plc_none (s : ByteArray) (c : Int) (hn : ∀ j, j < s.size → (s.data.toList[j]?.map fun a => (a.toNat : Int)) ≠ some c) : plc s.data.toList c = -1 :=
  plc_neg _ _ (fun j hj => hn j (by rwa [Lib.size_eq]))

/-- The figures of the document's answer: capitals, and small ones. -/
def capitals : ByteArray := { data := #[48, 49, 50, 51, 52, 53, 54, 55, 56, 57, 65, 66, 67, 68, 69, 70, 71, 72, 73, 74, 75, 76, 77, 78, 79, 80, 81, 82, 83, 84, 85, 86, 87, 88, 89, 90] }
def smalls : ByteArray := { data := #[48, 49, 50, 51, 52, 53, 54, 55, 56, 57, 97, 98, 99, 100, 101, 102, 103, 104, 105, 106, 107, 108, 109, 110, 111, 112, 113, 114, 115, 116, 117, 118, 119, 120, 121, 122] }

/-- A figure's number, or -1. -/
def figv (c b : Int) : Int := if b ≤ val c ∨ 36 ≤ val c then -1 else val c

theorem plc_both : ∀ c : Fin 256, (if plc capitals.data.toList (c.val : Int) < plc smalls.data.toList (c.val : Int) then plc smalls.data.toList (c.val : Int) else plc capitals.data.toList (c.val : Int)) =
    (if val (c.val : Int) = 36 then -1 else val (c.val : Int)) := by decide +kernel

theorem plc_bd : ∀ (l : List UInt8) (c : Int), -1 ≤ plc l c ∧ plc l c < l.length
  | [], _ => by simp [plc]
  | a :: l, c => by
    have ih := plc_bd l c
    unfold plc
    split
    · simp
    · split <;> simp <;> omega

/-- A byte within quotes? -/
def quoted (s : ByteArray) : Bool :=
  match s.data.toList with
  | [a, _, c] => ((a.toNat : Int) == 39) && ((c.toNat : Int) == 39)
  | _ => false

/-- The number that a text denotes by a base, and whether it denotes one. -/
def pars (s : ByteArray) (b : Int) : Int × Bool :=
  if quoted s = true then (((s.data.toList.getD 1 0).toNat : Int), true)
  else
    let t := (pre s b).1
    let c := (pre s b).2
    if ((t.data.toList.headD 0).toNat : Int) == 45 then (wrap64 (IntKind.u64.wrap (-(digs (t.extract 1 t.size) c).1)), (digs (t.extract 1 t.size) c).2)
    else (wrap64 (digs t c).1, (digs t c).2)

theorem list3 (s : ByteArray) (h : s.size = 3) : s.data.toList = [s[0], s[1], s[2]] := by
  have hl : s.data.toList.length = 3 := by rw [← Lib.size_eq]; exact h
  match hs : s.data.toList, hl with
  | [a, b, c], _ =>
    have h0 : s[0] = s.data.toList[0]'(by rw [hs]; simp) := rfl
    have h1 : s[1] = s.data.toList[1]'(by rw [hs]; simp) := rfl
    have h2 : s[2] = s.data.toList[2]'(by rw [hs]; simp) := rfl
    rw [h0, h1, h2]
    simp [hs]

theorem quoted3 (s : ByteArray) (h : s.size = 3) : quoted s = (((s[0].toNat : Int) == 39) && ((s[2].toNat : Int) == 39)) := by
  unfold quoted
  rw [list3 s h]

theorem quoted_size (s : ByteArray) (h : s.size ≠ 3) : quoted s = false := by
  unfold quoted
  split
  · next a b c hs => exact absurd (by rw [Lib.size_eq, hs]; rfl) h
  · rfl

theorem pre_bd (s : ByteArray) (b : Int) (h0 : -9223372036854775808 ≤ b) (h1 : b ≤ 9223372036854775807) :
    (pre s b).1.size ≤ s.size ∧ -9223372036854775808 ≤ (pre s b).2 ∧ (pre s b).2 ≤ 9223372036854775807 := by
  unfold pre
  split
  · exact ⟨Nat.le_refl _, h0, h1⟩
  · split
    · refine ⟨?_, ?_, ?_⟩ <;> simp
    · split
      · refine ⟨?_, ?_, ?_⟩ <;> simp
      · split
        · refine ⟨?_, ?_, ?_⟩ <;> simp
        · exact ⟨Nat.le_refl _, h0, h1⟩

theorem pars_quoted (s : ByteArray) (b : Int) (h : s.size = 3) (h0 : ((s[0].toNat : Int) == 39) = true) (h2 : ((s[2].toNat : Int) == 39) = true) :
    pars s b = ((s[1].toNat : Int), true) := by
  have hq : quoted s = true := by rw [quoted3 s h, h0, h2]; rfl
  unfold pars
  rw [if_pos hq, list3 s h]
  rfl

/-- The three ways in which a text is no byte within quotes. -/
theorem not_quoted (s : ByteArray) (hq : quoted s = false) :
    ((s.size : Int) == 3) = false ∨
    (∃ _ : 2 < s.size, ((s.size : Int) == 3) = true ∧ ((s[0].toNat : Int) == 39) = false) ∨
    (∃ _ : 2 < s.size, ((s.size : Int) == 3) = true ∧ ((s[0].toNat : Int) == 39) = true ∧ ((s[2].toNat : Int) == 39) = false) := by
  by_cases h3 : s.size = 3
  · rw [quoted3 s h3] at hq
    refine .inr ?_
    have l3 : 2 < s.size := by omega
    have e3 : ((s.size : Int) == 3) = true := by simp [h3]
    by_cases h0 : ((s[0].toNat : Int) == 39) = true
    · rw [h0] at hq
      exact .inr ⟨l3, e3, h0, by simpa using hq⟩
    · exact .inl ⟨l3, e3, by simpa using h0⟩
  · exact .inl (by simp; omega)

theorem pars_minus (s : ByteArray) (b : Int) (hq : quoted s = false) (t : ByteArray) (c : Int) (hp : pre s b = (t, c)) (ht : 0 < t.size) (h : ((t[0].toNat : Int) == 45) = true) :
    pars s b = (wrap64 (IntKind.u64.wrap (-(digs (t.extract 1 t.size) c).1)), (digs (t.extract 1 t.size) c).2) := by
  unfold pars
  rw [if_neg (by simp [hq]), hp]
  simp only []
  rw [if_pos]
  rw [head_of ht]
  exact h

theorem pars_plus (s : ByteArray) (b : Int) (hq : quoted s = false) (t : ByteArray) (c : Int) (hp : pre s b = (t, c)) (ht : 0 < t.size) (h : ((t[0].toNat : Int) == 45) = false) :
    pars s b = (wrap64 (digs t c).1, (digs t c).2) := by
  unfold pars
  rw [if_neg (by simp [hq]), hp]
  simp only []
  rw [if_neg]
  rw [head_of ht]
  simpa using h

theorem pars_empty (s : ByteArray) (b : Int) (hq : quoted s = false) (c : Int) (hp : pre s b = (ByteArray.empty, c)) :
    pars s b = (0, false) := by
  unfold pars
  have hd : digs ByteArray.empty c = (0, false) := rfl
  rw [if_neg (by simp [hq]), hp]
  simp only []
  rw [if_neg (by decide), hd]
  exact congrArg (fun x => (x, false)) (IntWalk.wrap64_in 0 ⟨by omega, by omega⟩)

/-- How many bytes choose the base: 0 or 1. -/
def pat (s : ByteArray) : Nat :=
  match s.data.toList with
  | [] => 0
  | c :: _ => if ((c.toNat : Int) == 35) = true then 1 else if ((c.toNat : Int) == 36) = true then 1 else if ((c.toNat : Int) == 37) = true then 1 else 0

theorem pat_full (s : ByteArray) (h : 0 < s.size) : pat s =
    if ((s[0].toNat : Int) == 35) = true then 1 else if ((s[0].toNat : Int) == 36) = true then 1 else if ((s[0].toNat : Int) == 37) = true then 1 else 0 := by
  unfold pat
  rw [head_of h]

theorem pat_le (s : ByteArray) : pat s ≤ s.size := by
  by_cases h : 0 < s.size
  · rw [pat_full s h]
    split
    · omega
    · split
      · omega
      · split <;> omega
  · obtain rfl := empty_of s (by omega)
    decide

theorem pre_drop (s : ByteArray) (b : Int) : (pre s b).1.data.toList = s.data.toList.drop (pat s) := by
  unfold pre pat
  split
  · next h => rw [h]; rfl
  · next c l h =>
    have hx : (s.extract 1 s.size).data.toList = s.data.toList.drop 1 := by
      rw [Lib.extract_data, List.take_of_length_le]
      rw [List.length_drop, ← Lib.size_eq]; omega
    split
    · exact hx
    · split
      · exact hx
      · split
        · exact hx
        · rfl

/-- What digits come to, with a sign. -/
def res (L : List UInt8) (c : Int) (neg : Bool) : Int × Bool :=
  if L.isEmpty || !right c || !allDig c L then (0, false) else (wrap64 (if neg then -(dig c L) else dig c L), true)

theorem wrap_m64 (x : Int) : wrap64 (m64 x) = wrap64 x := by unfold wrap64 m64; omega
theorem wrap_neg (x : Int) : wrap64 (IntKind.u64.wrap (-(m64 x))) = wrap64 (-x) := by rw [wrap_u64, wrap_m64]; unfold wrap64 m64; omega
theorem wrap_wneg (x : Int) : wrap64 (-(wrap64 x)) = wrap64 (-x) := by unfold wrap64; omega
theorem wrap_step (x b c : Int) : wrap64 (wrap64 (wrap64 x * b) + c) = wrap64 (x * b + c) := by
  have h1 : ∀ y : Int, wrap64 (wrap64 y + c) = wrap64 (y + c) := fun y => by unfold wrap64; omega
  rw [h1]
  have h2 : ∃ q : Int, wrap64 x = x + 18446744073709551616 * q := by
    refine ⟨-((x + 9223372036854775808) / 18446744073709551616), ?_⟩
    unfold wrap64; omega
  obtain ⟨q, hq⟩ := h2
  have e : wrap64 x * b + c = x * b + c + 18446744073709551616 * (q * b) := by
    rw [hq, Int.add_mul, Int.mul_assoc]; omega
  rw [e]
  generalize x * b + c = y
  generalize q * b = z
  unfold wrap64; omega

theorem digs_res (t : ByteArray) (c : Int) : (wrap64 (digs t c).1, (digs t c).2) = res t.data.toList c false := by
  unfold digs res
  by_cases h : (!t.data.toList.isEmpty && right c && allDig c t.data.toList) = true
  · rw [if_pos h, if_neg (by simpa [and_assoc] using h)]
    simp [wrap_m64]
  · rw [if_neg h, if_pos (by revert h; cases t.data.toList.isEmpty <;> cases right c <;> cases allDig c t.data.toList <;> simp)]
    exact congrArg (fun x => (x, false)) (IntWalk.wrap64_in 0 ⟨by omega, by omega⟩)

theorem digs_res_neg (t : ByteArray) (c : Int) : (wrap64 (IntKind.u64.wrap (-(digs t c).1)), (digs t c).2) = res t.data.toList c true := by
  unfold digs res
  by_cases h : (!t.data.toList.isEmpty && right c && allDig c t.data.toList) = true
  · rw [if_pos h, if_neg (by simpa [and_assoc] using h)]
    simp [wrap_neg]
  · rw [if_neg h, if_pos (by revert h; cases t.data.toList.isEmpty <;> cases right c <;> cases allDig c t.data.toList <;> simp)]
    refine congrArg (fun x => (x, false)) ?_
    rw [wrap_u64, wrap_m64]
    exact IntWalk.wrap64_in _ ⟨by omega, by omega⟩

theorem drop_at (s : ByteArray) (a : Nat) (h : a < s.size) : s.data.toList.drop a = s[a] :: s.data.toList.drop (a + 1) := by
  rw [List.drop_eq_getElem_cons (by rwa [← Lib.size_eq])]; rfl

/-- The number of a text that is no byte within quotes, by what stands behind the byte that chooses the base. -/
theorem pars_res (s : ByteArray) (b : Int) (hq : quoted s = false) (neg : Bool)
    (hn : neg = decide (((s.data.toList.drop (pat s)).head?.map fun a => (a.toNat : Int)) = some 45)) :
    pars s b = res (s.data.toList.drop (if neg then pat s + 1 else pat s)) (pre s b).2 neg := by
  have hd := pre_drop s b
  generalize hp : pre s b = p at hd
  obtain ⟨t, c⟩ := p
  simp only [] at hd ⊢
  by_cases h0 : t.size = 0
  · obtain rfl := empty_of t h0
    rw [pars_empty s b hq c hp]
    have hd' : s.data.toList.drop (pat s) = [] := by rw [← hd]; rfl
    have : neg = false := by rw [hn, hd']; simp
    subst this
    simp only [Bool.false_eq_true, if_false]
    rw [hd']
    rfl
  · have ht : 0 < t.size := by omega
    rw [← hd] at hn
    rw [head_of ht] at hn
    simp only [List.head?_cons, Option.map_some, Option.some.injEq] at hn
    cases hm : ((t[0].toNat : Int) == 45) with
    | true =>
      rw [pars_minus s b hq t c hp ht hm]
      have : neg = true := by rw [hn]; simpa using hm
      subst this
      simp only [if_true]
      rw [digs_res_neg, Lib.extract_data, List.take_of_length_le (by rw [List.length_drop, ← Lib.size_eq]; omega), hd, List.drop_drop]
    | false =>
      rw [pars_plus s b hq t c hp ht hm]
      have : neg = false := by rw [hn]; simpa using hm
      subst this
      simp only [Bool.false_eq_true, if_false]
      rw [digs_res, hd]

theorem pre_full2 (s : ByteArray) (b : Int) (h : 0 < s.size) : (pre s b).2 =
    if ((s[0].toNat : Int) == 35) = true then 10 else if ((s[0].toNat : Int) == 36) = true then 16 else if ((s[0].toNat : Int) == 37) = true then 2 else b := by
  rw [pre_full s b h]
  split
  · rfl
  · split
    · rfl
    · split <;> rfl

theorem pre_empty2 (b : Int) : (pre ByteArray.empty b).2 = b := rfl
theorem pat_empty : pat ByteArray.empty = 0 := rfl

/-- A digit of the document's answer. -/
theorem figv_of {c b : Int} (h2 : 2 ≤ b) (h36 : b ≤ 36) : (figv c b < 0 ↔ b ≤ val c) ∧ (¬ b ≤ val c → figv c b = val c) := by
  have := val_bd c
  unfold figv
  constructor
  · split <;> omega
  · intro h; rw [if_neg (by omega)]

/-- The loop's number: of the digits from 'st' up to 'k'. -/
def upto (s : ByteArray) (st k : Nat) : List UInt8 := (s.data.toList.drop st).take (k - st)
theorem upto_start (s : ByteArray) (st : Nat) : upto s st st = [] := by simp [upto]
theorem start_num (s : ByteArray) (c : Int) (st : Nat) : (Value.int .i64 0) = Value.int .i64 (wrap64 (dig c (upto s st st))) := by
  rw [upto_start]
  exact congrArg (Value.int .i64) (IntWalk.wrap64_in 0 ⟨by omega, by omega⟩).symm
theorem upto_snoc (s : ByteArray) (st k : Nat) (h : st ≤ k) (hk : k < s.size) : upto s st (k + 1) = upto s st k ++ [s[k]] := by
  unfold upto
  have hl : k - st < (s.data.toList.drop st).length := by rw [List.length_drop, ← Lib.size_eq]; omega
  rw [show k + 1 - st = (k - st) + 1 by omega, List.take_succ_eq_append_getElem hl]
  congr 1
  rw [List.getElem_drop]
  have : s[k] = s.data.toList[k]'(by rwa [← Lib.size_eq]) := rfl
  rw [this]
  simp [show st + (k - st) = k by omega]
theorem upto_all (s : ByteArray) (st : Nat) : upto s st s.size = s.data.toList.drop st := by
  unfold upto
  rw [List.take_of_length_le (by rw [List.length_drop, ← Lib.size_eq]; omega)]

theorem res_bad {L : List UInt8} {c : Int} {neg : Bool} (h : allDig c L = false) : res L c neg = (0, false) := by
  unfold res
  rw [h]; simp
theorem res_nil {c : Int} {neg : Bool} : res [] c neg = (0, false) := rfl
theorem res_right {L : List UInt8} {c : Int} {neg : Bool} (h : right c = false) : res L c neg = (0, false) := by
  unfold res
  rw [h]; simp
theorem res_good {L : List UInt8} {c : Int} {neg : Bool} (h0 : L ≠ []) (hr : right c = true) (h : allDig c L = true) : res L c neg = (wrap64 (if neg then -(dig c L) else dig c L), true) := by
  unfold res
  rw [h, hr]
  cases L with
  | nil => exact absurd rfl h0
  | cons a l => rfl
theorem drop_ne (s : ByteArray) (a : Nat) (h : a < s.size) : s.data.toList.drop a ≠ [] := by rw [drop_at s a h]; simp
theorem drop_nil (s : ByteArray) (a : Nat) (h : s.size ≤ a) : s.data.toList.drop a = [] := List.drop_eq_nil_of_le (by rwa [← Lib.size_eq])
theorem bad_at (s : ByteArray) (c : Int) (st k : Nat) (h : st ≤ k) (hk : k < s.size) (hv : c ≤ val s[k].toNat) : allDig c (s.data.toList.drop st) = false := by
  have hl : k - st < (s.data.toList.drop st).length := by rw [List.length_drop, ← Lib.size_eq]; omega
  refine allDig_false (k - st) hl ?_
  rw [List.getElem_drop]
  have : s[k] = s.data.toList[k]'(by rwa [← Lib.size_eq]) := rfl
  rw [this] at hv
  simpa [show st + (k - st) = k by omega] using hv

/-- A figure. -/
def dch (n : Int) : Int := if n < 10 then n + 48 else n + 55
theorem dch_bd {n : Int} (h0 : 0 ≤ n) (h1 : n < 36) : 48 ≤ dch n ∧ dch n ≤ 90 := by unfold dch; split <;> omega

/-- A number in figures of a base. -/
def udig (b m : Nat) : List UInt8 :=
  if h : m < b ∨ b < 2 then [UInt8.ofNat (dch m).toNat] else udig b (m / b) ++ [UInt8.ofNat (dch ((m % b : Nat) : Int)).toNat]
termination_by m
decreasing_by exact Nat.div_lt_self (by omega) (by omega)

theorem udig_last {b m : Nat} (h2 : 2 ≤ b) (h : m / b = 0) : udig b m = [UInt8.ofNat (dch ((m % b : Nat) : Int)).toNat] := by
  have hlt : m < b := by
    rcases Nat.lt_or_ge m b with h' | h'
    · exact h'
    · have := Nat.div_pos h' (by omega); omega
  rw [udig, dif_pos (.inl hlt), Nat.mod_eq_of_lt hlt]
theorem udig_more {b m : Nat} (h2 : 2 ≤ b) (h : m / b ≠ 0) : udig b m = udig b (m / b) ++ [UInt8.ofNat (dch ((m % b : Nat) : Int)).toNat] := by
  have hge : ¬ m < b := fun hlt => h (Nat.div_eq_of_lt hlt)
  rw [udig, dif_neg (by omega)]

theorem pow_half {m a b : Nat} (h2 : 2 ≤ b) (h : m < 2 ^ (a + 1)) : m / b < 2 ^ a := by
  have : m / b ≤ m / 2 := Nat.div_le_div_left h2 (by omega)
  have : m / 2 < 2 ^ a := by rw [Nat.pow_succ] at h; omega
  omega

theorem wrap_quo {m a b : Nat} (h : m < 2 ^ (a + 1)) (ha : a < 64) : IntKind.u64.wrap ((m : Int) / b) = ((m / b : Nat) : Int) := by
  have h1 : m < 2 ^ 64 := Nat.lt_of_lt_of_le h (Nat.pow_le_pow_right (by omega) (by omega))
  have h2 : m / b ≤ m := Nat.div_le_self m b
  rw [wrap_u64, ← Int.natCast_ediv]
  generalize m / b = q at *
  unfold m64
  omega

end Go.Proofs.Ytcimiijmffblgaa.Num
