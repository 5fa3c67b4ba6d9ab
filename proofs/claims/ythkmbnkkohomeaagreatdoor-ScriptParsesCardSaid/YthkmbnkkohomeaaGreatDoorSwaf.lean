/- Several texts in one: MemP, MemA, ScC. -/
import Derived.IntWalk
import Derived.WalkArith
import Derived.Below
import Derived.Lib.Strings
import Derived.Laws.Bits64b
import Derived.Test.YthkmbnkkohomeaaGreatDoorChecked
import Derived.Test.YthkmbnkkohomeaaGreatDoorSwac
import Derived.WalkKit
import Derived.WalkSpells
import Derived.WalkLawsBesides
import Derived.Lib.Hide
import Derived.BigQuiet
import Derived.Deep.QuietTactic
import Derived.Deep.LoopGhost
import Derived.Deep.RegionHeld3
import Derived.Test.YthkmbnkkohomeaaGreatDoorSwae
set_option linter.unusedSimpArgs false
set_option linter.unusedVariables false
/- Plain mathematics of a memory of bytes: what a cell holds, what a store leaves. No program. -/
namespace Go.Proofs.YthkmbnkkohomeaaGreatDoor.Mem
open Go.RowKit

/-- Modulo 2^64. -/
def m64 (x : Int) : Int := x % 18446744073709551616
theorem m64_bd (x : Int) : 0 ≤ m64 x ∧ m64 x ≤ 18446744073709551615 := by unfold m64; omega
theorem wrap_u64 (x : Int) : IntKind.u64.wrap x = m64 x := by
  simp only [IntKind.wrap, m64]
  simp [IntKind.bits, IntKind.signed]

/-- Are so many bytes there? -/
def has (n : Nat) (a k : Int) : Bool := decide (0 ≤ a) && decide (0 ≤ k) && decide (k ≤ n) && decide (a ≤ n - k)

/-- The code of an access to a cell. -/
def code (n : Nat) (a : Int) : Int := if has n a 8 = true then (if a % 8 = 0 then 0 else -23) else -9

theorem code_ok {n : Nat} {a : Int} (h : code n a = 0) : 0 ≤ a ∧ a + 8 ≤ n ∧ a % 8 = 0 := by
  unfold code at h
  split at h
  · rename_i hh
    split at h
    · simp [has] at hh; omega
    · omega
  · omega

theorem code_of {n : Nat} {a : Int} (h0 : 0 ≤ a) (h1 : a + 8 ≤ n) (h2 : a % 8 = 0) : code n a = 0 := by
  unfold code
  rw [if_pos (by simp [has]; omega), if_pos h2]

/-- The number of the first k bytes from a on, the least one first. -/
def rd (bs : List UInt8) (a : Nat) : Nat → Nat
  | 0 => 0
  | k + 1 => rd bs a k + (bs.getD (a + k) 0).toNat * 256 ^ k
theorem rd_lt (bs : List UInt8) (a : Nat) : ∀ k, rd bs a k < 256 ^ k
  | 0 => by simp [rd]
  | k + 1 => by
    have ih := rd_lt bs a k
    have hb := (bs.getD (a + k) 0).toNat_lt
    have : (bs.getD (a + k) 0).toNat * 256 ^ k ≤ 255 * 256 ^ k := Nat.mul_le_mul_right _ (by omega)
    rw [rd, Nat.pow_succ]
    omega

/-- The number of the bytes from a + j up to a + 7, the greatest one first. -/
def rdH (bs : List UInt8) (a : Nat) : Nat → Nat
  | 0 => 0
  | k + 1 => rdH bs a k * 256 + (bs.getD (a + (7 - k)) 0).toNat
theorem rdH_lt (bs : List UInt8) (a : Nat) : ∀ k, rdH bs a k < 256 ^ k
  | 0 => by simp [rdH]
  | k + 1 => by
    have ih := rdH_lt bs a k
    have hb := (bs.getD (a + (7 - k)) 0).toNat_lt
    rw [rdH, Nat.pow_succ]
    omega
theorem rdH_rd (bs : List UInt8) (a : Nat) : rdH bs a 8 = rd bs a 8 := by
  simp only [rdH, rd, Nat.reduceSub, Nat.add_zero, Nat.sub_zero]
  omega

/-- A cell's number. -/
def cellv (bs : List UInt8) (a : Nat) : Int := wrap64 (rd bs a 8 : Nat)

/-- What a load of a cell tells: the number, and the code. -/
def cell (bs : List UInt8) (a : Int) : Int × Int := if code bs.length a = 0 then (cellv bs a.toNat, 0) else (0, code bs.length a)

/-- The first k bytes of a number written from a on. -/
def wr (bs : List UInt8) (a u : Nat) : Nat → List UInt8
  | 0 => bs
  | k + 1 => (wr bs a u k).set (a + k) (UInt8.ofNat (u / 256 ^ k % 256))
theorem wr_length (bs : List UInt8) (a u : Nat) : ∀ k, (wr bs a u k).length = bs.length
  | 0 => rfl
  | k + 1 => by rw [wr, List.length_set, wr_length bs a u k]

/-- The memory behind a store of a cell. -/
def setv (bs : List UInt8) (a : Nat) (n : Int) : List UInt8 := wr bs a (m64 n).toNat 8
theorem setv_length (bs : List UInt8) (a : Nat) (n : Int) : (setv bs a n).length = bs.length := wr_length _ _ _ _

/-- What a store of a cell leaves, and its code. -/
def setc (bs : List UInt8) (a n : Int) : List UInt8 := if code bs.length a = 0 then setv bs a.toNat n else bs
theorem setc_length (bs : List UInt8) (a n : Int) : (setc bs a n).length = bs.length := by
  unfold setc; split
  · exact setv_length _ _ _
  · rfl

theorem wr_get (bs : List UInt8) (a u : Nat) : ∀ k i, (wr bs a u k).getD i 0 = if a ≤ i ∧ i < a + k ∧ i < bs.length then UInt8.ofNat (u / 256 ^ (i - a) % 256) else bs.getD i 0
  | 0, i => by rw [wr, if_neg (by omega)]
  | k + 1, i => by
    have ih := wr_get bs a u k i
    rw [wr, List.getD_eq_getElem?_getD, List.getElem?_set, wr_length]
    by_cases h : a + k = i
    · subst h
      rw [if_pos rfl]
      by_cases hl : a + k < bs.length
      · rw [if_pos hl, if_pos (by omega)]
        simp [show a + k - a = k by omega]
      · rw [if_neg hl, if_neg (by omega)]
        simp [hl]
    · rw [if_neg h, ← List.getD_eq_getElem?_getD, ih]
      by_cases hc : a ≤ i ∧ i < a + k ∧ i < bs.length
      · rw [if_pos hc, if_pos (by omega)]
      · rw [if_neg hc, if_neg (by omega)]

theorem rd_congr {bs cs : List UInt8} {a b : Nat} : ∀ k, (∀ i, i < k → bs.getD (a + i) 0 = cs.getD (b + i) 0) → rd bs a k = rd cs b k
  | 0, _ => rfl
  | k + 1, h => by rw [rd, rd, rd_congr k (fun i hi => h i (by omega)), h k (by omega)]

theorem rd_wr (bs : List UInt8) (a u : Nat) (h : a + 8 ≤ bs.length) (hu : u < 256 ^ 8) : rd (wr bs a u 8) a 8 = u := by
  have hb : ∀ i, i < 8 → (wr bs a u 8).getD (a + i) 0 = UInt8.ofNat (u / 256 ^ i % 256) := fun i hi => by
    rw [wr_get, if_pos (by omega)]
    simp [show a + i - a = i by omega]
  have ht : ∀ x : Nat, (UInt8.ofNat (x % 256)).toNat = x % 256 := fun x => by simp
  simp only [rd, hb 0 (by omega), hb 1 (by omega), hb 2 (by omega), hb 3 (by omega), hb 4 (by omega), hb 5 (by omega), hb 6 (by omega), hb 7 (by omega), ht]
  simp only [Nat.reducePow] at hu ⊢
  omega

/-- A cell behind a store into it. -/
theorem cellv_same (bs : List UInt8) (a : Nat) (n : Int) (h : a + 8 ≤ bs.length) (hn : -9223372036854775808 ≤ n ∧ n ≤ 9223372036854775807) : cellv (setv bs a n) a = n := by
  unfold cellv setv
  have hm := m64_bd n
  rw [rd_wr bs a _ h (by simp only [Nat.reducePow]; omega)]
  unfold wrap64 m64
  omega

/-- A cell behind a store into another one. -/
theorem cellv_other (bs : List UInt8) (a b : Nat) (n : Int) (h : b + 8 ≤ a ∨ a + 8 ≤ b) : cellv (setv bs a n) b = cellv bs b := by
  unfold cellv setv
  rw [rd_congr (bs := wr bs a _ 8) (cs := bs) 8 (fun i hi => by rw [wr_get, if_neg (by omega)])]

/-- Bytes taken out. -/
def text (bs : List UInt8) (a k : Nat) : List UInt8 := (bs.drop a).take k
/-- Bytes put in. -/
def put (bs : List UInt8) (a : Nat) (t : List UInt8) : List UInt8 := bs.take a ++ t ++ bs.drop (a + t.length)
theorem put_length (bs : List UInt8) (a : Nat) (t : List UInt8) (h : a + t.length ≤ bs.length) : (put bs a t).length = bs.length := by
  simp [put]; omega

/-- A byte set above the bytes below it. -/
theorem or_byte (r y k : Nat) (hr : r < 256 ^ k) (hy : y ≤ 255) (hk : k < 8) : bits .or .u64 (r : Int) (IntKind.u64.wrap ((y : Int) * (2 : Int) ^ (8 * k))) = ((r + y * 256 ^ k : Nat) : Int) := by
  rw [show ((2 : Int) ^ (8 * k)) = ((2 ^ (8 * k) : Nat) : Int) by rw [Int.natCast_pow]; rfl]
  have e : (256 : Nat) ^ k = 2 ^ (8 * k) := by rw [Nat.pow_mul]
  rw [e] at hr ⊢
  have h64 : (2 : Nat) ^ (8 * k) * 256 ≤ 18446744073709551616 := by
    have : (2 : Nat) ^ (8 * k) * 256 = 2 ^ (8 * (k + 1)) := by rw [Nat.mul_add, Nat.pow_add]
    rw [this]
    exact Nat.pow_le_pow_right (by omega) (by omega : 8 * (k + 1) ≤ 64)
  have hyb : y * 2 ^ (8 * k) ≤ 255 * 2 ^ (8 * k) := Nat.mul_le_mul_right _ hy
  have hw : IntKind.u64.wrap ((y : Int) * ((2 ^ (8 * k) : Nat) : Int)) = ((y * 2 ^ (8 * k) : Nat) : Int) := by
    rw [wrap_u64, ← Int.natCast_mul]
    unfold m64
    omega
  rw [hw, bits_or_u64_nat _ _ (by omega) (by omega), Nat.or_comm, Nat.mul_comm, ← Nat.two_pow_add_eq_or_of_lt hr y, Nat.add_comm]

/-- The k-th byte of a number. -/
theorem byte_of (n : Int) (k : Nat) : IntKind.u64.wrap n / (2 : Int) ^ (8 * k) % 256 = ((UInt8.ofNat ((m64 n).toNat / 256 ^ k % 256)).toNat : Int) := by
  rw [show ((2 : Int) ^ (8 * k)) = ((256 ^ k : Nat) : Int) by rw [show (256 : Nat) ^ k = 2 ^ (8 * k) by rw [Nat.pow_mul], Int.natCast_pow]; rfl, wrap_u64]
  obtain ⟨u, hu⟩ : ∃ u : Nat, m64 n = u := ⟨(m64 n).toNat, by have := m64_bd n; omega⟩
  rw [hu]
  simp

/-- What a read of bytes tells: them, and the code. -/
def txt (bs : List UInt8) (a n : Int) : List UInt8 × Int := if has bs.length a n = true then (text bs a.toNat n.toNat, 0) else ([], -9)
/-- What a write of bytes leaves, and its code. -/
def sett (bs : List UInt8) (a : Int) (t : List UInt8) : List UInt8 := if has bs.length a t.length = true then put bs a.toNat t else bs
def codet (bs : List UInt8) (a : Int) (t : List UInt8) : Int := if has bs.length a t.length = true then 0 else -9
theorem sett_length (bs : List UInt8) (a : Int) (t : List UInt8) : (sett bs a t).length = bs.length := by
  unfold sett; split
  · rename_i h
    simp [has] at h
    exact put_length _ _ _ (by omega)
  · rfl
theorem text_length (bs : List UInt8) (a k : Nat) (h : a + k ≤ bs.length) : (text bs a k).length = k := by simp [text]; omega
theorem text_get (bs : List UInt8) (a k i : Nat) (hi : i < k) : (text bs a k).getD i 0 = bs.getD (a + i) 0 := by
  simp [text, List.getD_eq_getElem?_getD, List.getElem?_take, List.getElem?_drop, hi]

/-- The first k bytes of l put in at a. -/
def putk (bs : List UInt8) (a : Nat) (l : List UInt8) (k : Nat) : List UInt8 := bs.take a ++ l.take k ++ bs.drop (a + k)
theorem putk_zero (bs : List UInt8) (a : Nat) (l : List UInt8) : putk bs a l 0 = bs := by simp [putk]
theorem putk_all (bs : List UInt8) (a : Nat) (l : List UInt8) : putk bs a l l.length = put bs a l := by simp [putk, put]
theorem putk_length (bs : List UInt8) (a : Nat) (l : List UInt8) (k : Nat) (hk : k ≤ l.length) (h : a + l.length ≤ bs.length) : (putk bs a l k).length = bs.length := by
  simp [putk]; omega
theorem putk_set (bs : List UInt8) (a : Nat) (l : List UInt8) (k : Nat) (hk : k < l.length) (h : a + l.length ≤ bs.length) : (putk bs a l k).set (a + k) (l.getD k 0) = putk bs a l (k + 1) := by
  have h1 : (bs.take a ++ l.take k).length = a + k := by simp; omega
  have h2 : bs.drop (a + k) = bs[a + k] :: bs.drop (a + k + 1) := List.drop_eq_getElem_cons (by omega)
  have h3 : l.take (k + 1) = l.take k ++ [l.getD k 0] := by
    rw [List.take_add_one, List.getD_eq_getElem?_getD, List.getElem?_eq_getElem hk]
    simp
  unfold putk
  rw [List.set_append_right _ _ (by rw [h1]; omega), h1, Nat.sub_self, h2, h3]
  simp [Nat.add_assoc]

theorem code_in {n x : Nat} (h : x + 8 ≤ n) : code n (x : Int) = if x % 8 = 0 then 0 else -23 := by
  unfold code
  rw [if_pos (by simp [has]; omega)]
  by_cases h8 : x % 8 = 0
  · rw [if_pos h8, if_pos (by omega)]
  · rw [if_neg h8, if_neg (by omega)]


end Go.Proofs.YthkmbnkkohomeaaGreatDoor.Mem

/- Contracts of package mem: a memory is a list of bytes. -/
namespace Go.Proofs.YthkmbnkkohomeaaGreatDoor.Mem
open Go.RowKit

/-- A byte as a cell. -/
def bv (b : UInt8) : Value := .int .u8 (b.toNat : Int)

/-- At p lies a memory (a value of type t, whose one field is the slice) of these bytes, which lie at g. -/
def Mat (t : TypeId) (w : World) (p g : Nat) (bs : List UInt8) : Prop :=
  p ≠ g ∧ w.heap[p]? = some (.cells #[.slice (some ⟨g, 0, none⟩) bs.length bs.length] t (0, 0)) ∧
  w.heap[g]? = some (.cells (bs.map bv).toArray 5 (0, 0)) ∧ bs.length ≤ 1048576

theorem Mat.hd {t : TypeId} {w : World} {p g : Nat} {bs : List UInt8} (h : Mat t w p g bs) : w.cell? ⟨p, 0, none⟩ = some (.slice (some ⟨g, 0, none⟩) bs.length bs.length) := cell_of_one h.2.1
theorem Mat.at {t : TypeId} {w : World} {p g : Nat} {bs : List UInt8} (h : Mat t w p g bs) (i : Nat) (hi : i < bs.length) : w.cell? ⟨g, i, none⟩ = some (.int .u8 ((bs.getD i 0).toNat : Int)) := by
  rw [cell_of_row w g i _ _ _ h.2.2.1]
  simp [bv, List.getD, hi]
theorem Mat.free {t : TypeId} {w : World} {p g : Nat} {bs : List UInt8} (h : Mat t w p g bs) (i : Nat) : w.frozen? ⟨g, i, none⟩ = false := frozen_of_row w g i _ _ h.2.2.1
theorem Mat.lt {t : TypeId} {w : World} {p g : Nat} {bs : List UInt8} (h : Mat t w p g bs) : p < w.heap.size ∧ g < w.heap.size := ⟨lt_of_block h.2.1, lt_of_block h.2.2.1⟩
theorem Mat.fr {t : TypeId} {S : Nat → Prop} {w w' : World} {p g : Nat} {bs : List UInt8} (h : Mat t w p g bs) (f : Fr S w w') (hp : ¬ S p) (hg : ¬ S g) : Mat t w' p g bs :=
  ⟨h.1, f.obj h.2.1 hp, f.obj h.2.2.1 hg, h.2.2.2⟩
theorem Mat.set {t : TypeId} {w : World} {p g : Nat} {bs : List UInt8} (h : Mat t w p g bs) (i : Nat) (c : UInt8) : Mat t (w.setCell ⟨g, i, none⟩ (bv c)) p g (bs.set i c) := by
  refine ⟨h.1, ?_, ?_, by rw [List.length_set]; exact h.2.2.2⟩
  · rw [heap_setCell_other w ⟨g, i, none⟩ p _ h.1, List.length_set]
    exact h.2.1
  · rw [heap_setCell_same w g i _ _ _ h.2.2.1]
    simp [List.map_set]

/-- Only the bytes at g may have been written. -/
abbrev Only (g : Nat) := Fr fun j => j = g

theorem ret_int {k : IntKind} {a b : Int} (h : a = b) : Ending.returned (.int k a) = .returned (.int k b) := by rw [h]

set_option maxHeartbeats 400000 in
theorem size_any (p g : Nat) (bs : List UInt8) (w : World) (h : Mat 221 w p g bs) :
    Calls Tryz.prog 120 #[.pointer (some ⟨p, 0, none⟩)] w fun e w' => e = .returned (.int .i64 bs.length) ∧ w' = w := by
  have h0 := h.hd
  have hn := h.2.2.2
  clear h
  go_enter Tryz.func120, Tryz.ntmps120
  go_wp2
  go_ret
  exact ⟨rfl, rfl⟩

set_option maxHeartbeats 1000000 in
theorem has_any (p g : Nat) (bs : List UInt8) (a k : Int) (w : World) (h : Mat 221 w p g bs) (hk1 : -9223372036854775808 ≤ k) (hk2 : k ≤ 9223372036854775807) :
    Calls Tryz.prog 297 #[.pointer (some ⟨p, 0, none⟩), .int .i64 a, .int .i64 k] w fun e w' => e = .returned (.bool (has bs.length a k)) ∧ w' = w := by
  have HS := Lib.hid (fun w h => size_any p g bs w h)
  have H := Lib.hid h
  have hn := h.2.2.2
  obtain ⟨n, hnn⟩ : ∃ n, bs.length = n := ⟨_, rfl⟩
  rw [hnn] at HS hn ⊢
  clear h hnn
  unfold has
  by_cases h1 : 0 ≤ a
  · by_cases h2 : 0 ≤ k
    · by_cases h3 : k ≤ (n : Int)
      · by_cases h4 : a ≤ (n : Int) - k
        all_goals
          go_enter Tryz.func297, Tryz.ntmps297
          go_wp2_with (go_at_call 120; refine (HS.out _ H.out).mono ?_; rintro e w' ⟨rfl, rfl⟩)
          go_ret
          exact ⟨by simp [h1, h2, h3, h4], rfl⟩
      · go_enter Tryz.func297, Tryz.ntmps297
        go_wp2_with (go_at_call 120; refine (HS.out _ H.out).mono ?_; rintro e w' ⟨rfl, rfl⟩)
        go_ret
        exact ⟨by simp; omega, rfl⟩
    · go_enter Tryz.func297, Tryz.ntmps297
      go_wp2_with (go_at_call 120; refine (HS.out _ H.out).mono ?_; rintro e w' ⟨rfl, rfl⟩)
      go_ret
      exact ⟨by simp; omega, rfl⟩
  · go_enter Tryz.func297, Tryz.ntmps297
    go_wp2_with (go_at_call 120; refine (HS.out _ H.out).mono ?_; rintro e w' ⟨rfl, rfl⟩)
    go_ret
    exact ⟨by simp; omega, rfl⟩

set_option maxHeartbeats 1000000 in
theorem cellAt_any (p g : Nat) (bs : List UInt8) (a : Int) (w : World) (h : Mat 221 w p g bs) :
    Calls Tryz.prog 162 #[.pointer (some ⟨p, 0, none⟩), .int .i64 a] w fun e w' => e = .returned (.int .i64 (code bs.length a)) ∧ w' = w := by
  have hh := fun w h => has_any p g bs a 8 w h (by omega) (by omega)
  have H := Lib.hid h
  clear h
  obtain ⟨c, hc⟩ : ∃ c, code bs.length a = c := ⟨_, rfl⟩
  rw [hc]
  unfold code at hc
  by_cases h1 : has bs.length a 8 = true
  · rw [h1, if_pos rfl] at hc
    rw [h1] at hh
    have HH := Lib.hid hh
    have ha : 0 ≤ a := by simp [has] at h1; omega
    clear hh h1
    by_cases h2 : a % 8 = 0
    · have h2' : (a % 8 != 0) = false := by simp [h2]
      rw [if_pos h2] at hc
      subst hc
      clear h2
      go_enter Tryz.func162, Tryz.ntmps162
      go_wp2_with (go_at_call 297; refine (HH.out _ H.out).mono ?_; rintro e w' ⟨rfl, rfl⟩)
      go_ret
      exact ⟨rfl, rfl⟩
    · have h2' : (a % 8 != 0) = true := by simp [h2]
      rw [if_neg h2] at hc
      subst hc
      clear h2
      go_enter Tryz.func162, Tryz.ntmps162
      go_wp2_with (go_at_call 297; refine (HH.out _ H.out).mono ?_; rintro e w' ⟨rfl, rfl⟩)
      go_ret
      exact ⟨rfl, rfl⟩
  · have h1' : has bs.length a 8 = false := by simpa using h1
    rw [if_neg h1] at hc
    subst hc
    rw [h1'] at hh
    have HH := Lib.hid hh
    clear hh h1 h1'
    go_enter Tryz.func162, Tryz.ntmps162
    go_wp2_with (go_at_call 297; refine (HH.out _ H.out).mono ?_; rintro e w' ⟨rfl, rfl⟩)
    go_ret
    exact ⟨rfl, rfl⟩

set_option maxHeartbeats 1000000 in
theorem cell_any (p g : Nat) (bs : List UInt8) (a : Int) (w : World) (h : Mat 221 w p g bs) :
    Calls Tryz.prog 100 #[.pointer (some ⟨p, 0, none⟩), .int .i64 a] w fun e w' => e = .returned (.tuple #[.int .i64 (cell bs a).1, .int .i64 (cell bs a).2]) ∧ w' = w := by
  have hcall := fun w h => cellAt_any p g bs a w h
  have H := Lib.hid h
  have h0 := h.hd
  obtain ⟨c, hc⟩ : ∃ c, code bs.length a = c := ⟨_, rfl⟩
  rw [hc] at hcall
  have HC := Lib.hid hcall
  clear hcall
  by_cases hz : c = 0
  · subst hz
    have hp : cell bs a = (cellv bs a.toNat, 0) := by unfold cell; rw [if_pos hc]
    obtain ⟨ha0, ha1, _⟩ := code_ok hc
    obtain ⟨x, rfl⟩ : ∃ x : Nat, a = x := ⟨a.toNat, by omega⟩
    rw [hp]
    simp only [Int.toNat_natCast]
    have hn := h.2.2.2
    have HA := Lib.hid (fun i hi => h.at i hi)
    obtain ⟨n, hnn⟩ : ∃ n, bs.length = n := ⟨_, rfl⟩
    rw [hnn] at h0 hn HA ha1
    clear h hc hp hnn
    go_enter Tryz.func100, Tryz.ntmps100
    go_wp2_with (go_at_call 162; refine (HC.out _ H.out).mono ?_; rintro e w' ⟨rfl, rfl⟩)
    go_loop [7, 15] (fun nv iv => ∃ k : Nat, k ≤ 8 ∧ iv = .int .i64 k ∧ nv = .int .u64 (rd bs x k : Nat)) (fun _ iv => 8 - (intOf iv).toNat)
    case atStart => exact ⟨0, by omega, rfl, rfl⟩
    case round =>
      obtain ⟨k, hk, rfl, rfl⟩ := hrel
      by_cases hlt : k < 8
      · have hcell := HA.out (x + k) (by omega)
        have hb : ((bs.getD (x + k) 0).toNat : Int) ≤ 255 := by have := (bs.getD (x + k) 0).toNat_lt; omega
        obtain ⟨y, hy⟩ : ∃ y : Nat, (bs.getD (x + k) 0).toNat = y := ⟨_, rfl⟩
        rw [hy] at hcell hb
        have HY := Lib.hid hy
        clear hy
        go_wp2
        refine ⟨⟨k + 1, by omega, rfl, ?_⟩, by simp only [intOf]; omega⟩
        rw [or_byte _ _ _ (rd_lt bs x k) (by omega) hlt, rd, HY.out]
      · obtain rfl : k = 8 := by omega
        go_wp2
        go_ret2
        exact ⟨rfl, rfl⟩
  · have hp : cell bs a = (0, c) := by unfold cell; rw [if_neg (by rw [hc]; exact hz), hc]
    rw [hp]
    have hz' : (c != 0) = true := by simp [hz]
    clear h hc hp hz
    go_enter Tryz.func100, Tryz.ntmps100
    go_wp2_with (go_at_call 162; refine (HC.out _ H.out).mono ?_; rintro e w' ⟨rfl, rfl⟩)
    go_ret2
    exact ⟨rfl, rfl⟩

end Go.Proofs.YthkmbnkkohomeaaGreatDoor.Mem

/- script.fields: the closures that set the numbers. -/
namespace Go.Proofs.YthkmbnkkohomeaaGreatDoor.Mem
open Go.RowKit Go.Maps

def numPost (i sb : Nat) (s : Scr) (t : ByteArray) (sp : Bool) (w : World) (e : Ending) (w' : World) : Prop :=
  match pnum t.data.toList, sp with
  | some n, true => e = .returned (.bool true) ∧ ScrAt w' sb (s.set i n) ∧ Fr (fun j => j = sb) w w'
  | _, _ => e = .returned (.bool false) ∧ ScrAt w' sb s ∧ Fr (fun _ => False) w w'

set_option maxRecDepth 100000 in
theorem numF0_ok (k b1 sb : Nat) (s : Scr) (t : ByteArray) (sp : Bool) (w : World) (ht : t.size ≤ 5000) (hk : Kn w) (h : ScrAt w sb s) (h1 : w.cell? ⟨b1, 0, none⟩ = some (.pointer (some ⟨sb, 0, none⟩)))
    (h2 : w.cell? ⟨k, 0, none⟩ = some (.func (.func 25) #[] #[.pointer (some ⟨b1, 0, none⟩)])) :
    Calls Tryz.prog 23 #[.string t, .bool sp, .pointer (some ⟨k, 0, none⟩)] w fun e w' => numPost 0 sb s t sp w e w' := by
  have HP := Lib.hid (pnum_ok t ht w hk)
  unfold numPost
  have HH := Lib.hid (And.intro h (And.intro h1 h2))
  rcases hp : pnum t.data.toList with _ | n
  · rw [hp] at HP
    simp only [Option.getD_none, Option.isSome_none] at HP
    clear hp h hk h1 h2
    go_enter Tryz.func23, Tryz.ntmps23
    go_wp2_with (go_at_call 24; refine HP.out.mono ?_; rintro e w1 ⟨rfl, F1⟩)
    go_ret
    exact ⟨rfl, HH.out.1.fr F1 id, F1⟩
  · rw [hp] at HP
    simp only [Option.getD_some, Option.isSome_some] at HP
    cases sp with
    | false =>
      clear hp h hk h1 h2
      go_enter Tryz.func23, Tryz.ntmps23
      go_wp2_with (go_at_call 24; refine HP.out.mono ?_; rintro e w1 ⟨rfl, F1⟩)
      go_ret
      exact ⟨rfl, HH.out.1.fr F1 id, F1⟩
    | true =>
      clear hp h hk h1 h2
      go_enter Tryz.func23, Tryz.ntmps23
      go_wp2_with (first | (go_at_call 24; refine HP.out.mono ?_; rintro e w1 ⟨rfl, F1⟩; have g2 := F1.cell HH.out.2.2 id; have G := Lib.hid (set_f2 b1 sb s n w1 (HH.out.1.fr F1 id) (F1.cell HH.out.2.1 id))) | (go_at_call 25; refine G.out.mono ?_; rintro e w2 ⟨rfl, h2, f2⟩))
      go_ret
      exact ⟨rfl, h2, (F1.mono fun _ _ e => e.elim).trans f2⟩

set_option maxRecDepth 100000 in
theorem numF1_ok (k b1 sb : Nat) (s : Scr) (t : ByteArray) (sp : Bool) (w : World) (ht : t.size ≤ 5000) (hk : Kn w) (h : ScrAt w sb s) (h1 : w.cell? ⟨b1, 0, none⟩ = some (.pointer (some ⟨sb, 0, none⟩)))
    (h2 : w.cell? ⟨k, 0, none⟩ = some (.func (.func 26) #[] #[.pointer (some ⟨b1, 0, none⟩)])) :
    Calls Tryz.prog 23 #[.string t, .bool sp, .pointer (some ⟨k, 0, none⟩)] w fun e w' => numPost 1 sb s t sp w e w' := by
  have HP := Lib.hid (pnum_ok t ht w hk)
  unfold numPost
  have HH := Lib.hid (And.intro h (And.intro h1 h2))
  rcases hp : pnum t.data.toList with _ | n
  · rw [hp] at HP
    simp only [Option.getD_none, Option.isSome_none] at HP
    clear hp h hk h1 h2
    go_enter Tryz.func23, Tryz.ntmps23
    go_wp2_with (go_at_call 24; refine HP.out.mono ?_; rintro e w1 ⟨rfl, F1⟩)
    go_ret
    exact ⟨rfl, HH.out.1.fr F1 id, F1⟩
  · rw [hp] at HP
    simp only [Option.getD_some, Option.isSome_some] at HP
    cases sp with
    | false =>
      clear hp h hk h1 h2
      go_enter Tryz.func23, Tryz.ntmps23
      go_wp2_with (go_at_call 24; refine HP.out.mono ?_; rintro e w1 ⟨rfl, F1⟩)
      go_ret
      exact ⟨rfl, HH.out.1.fr F1 id, F1⟩
    | true =>
      clear hp h hk h1 h2
      go_enter Tryz.func23, Tryz.ntmps23
      go_wp2_with (first | (go_at_call 24; refine HP.out.mono ?_; rintro e w1 ⟨rfl, F1⟩; have g2 := F1.cell HH.out.2.2 id; have G := Lib.hid (set_f3 b1 sb s n w1 (HH.out.1.fr F1 id) (F1.cell HH.out.2.1 id))) | (go_at_call 26; refine G.out.mono ?_; rintro e w2 ⟨rfl, h2, f2⟩))
      go_ret
      exact ⟨rfl, h2, (F1.mono fun _ _ e => e.elim).trans f2⟩

set_option maxRecDepth 100000 in
theorem numF2_ok (k b1 sb : Nat) (s : Scr) (t : ByteArray) (sp : Bool) (w : World) (ht : t.size ≤ 5000) (hk : Kn w) (h : ScrAt w sb s) (h1 : w.cell? ⟨b1, 0, none⟩ = some (.pointer (some ⟨sb, 0, none⟩)))
    (h2 : w.cell? ⟨k, 0, none⟩ = some (.func (.func 27) #[] #[.pointer (some ⟨b1, 0, none⟩)])) :
    Calls Tryz.prog 23 #[.string t, .bool sp, .pointer (some ⟨k, 0, none⟩)] w fun e w' => numPost 2 sb s t sp w e w' := by
  have HP := Lib.hid (pnum_ok t ht w hk)
  unfold numPost
  have HH := Lib.hid (And.intro h (And.intro h1 h2))
  rcases hp : pnum t.data.toList with _ | n
  · rw [hp] at HP
    simp only [Option.getD_none, Option.isSome_none] at HP
    clear hp h hk h1 h2
    go_enter Tryz.func23, Tryz.ntmps23
    go_wp2_with (go_at_call 24; refine HP.out.mono ?_; rintro e w1 ⟨rfl, F1⟩)
    go_ret
    exact ⟨rfl, HH.out.1.fr F1 id, F1⟩
  · rw [hp] at HP
    simp only [Option.getD_some, Option.isSome_some] at HP
    cases sp with
    | false =>
      clear hp h hk h1 h2
      go_enter Tryz.func23, Tryz.ntmps23
      go_wp2_with (go_at_call 24; refine HP.out.mono ?_; rintro e w1 ⟨rfl, F1⟩)
      go_ret
      exact ⟨rfl, HH.out.1.fr F1 id, F1⟩
    | true =>
      clear hp h hk h1 h2
      go_enter Tryz.func23, Tryz.ntmps23
      go_wp2_with (first | (go_at_call 24; refine HP.out.mono ?_; rintro e w1 ⟨rfl, F1⟩; have g2 := F1.cell HH.out.2.2 id; have G := Lib.hid (set_f4 b1 sb s n w1 (HH.out.1.fr F1 id) (F1.cell HH.out.2.1 id))) | (go_at_call 27; refine G.out.mono ?_; rintro e w2 ⟨rfl, h2, f2⟩))
      go_ret
      exact ⟨rfl, h2, (F1.mono fun _ _ e => e.elim).trans f2⟩

set_option maxRecDepth 100000 in
theorem numF3_ok (k b1 sb : Nat) (s : Scr) (t : ByteArray) (sp : Bool) (w : World) (ht : t.size ≤ 5000) (hk : Kn w) (h : ScrAt w sb s) (h1 : w.cell? ⟨b1, 0, none⟩ = some (.pointer (some ⟨sb, 0, none⟩)))
    (h2 : w.cell? ⟨k, 0, none⟩ = some (.func (.func 28) #[] #[.pointer (some ⟨b1, 0, none⟩)])) :
    Calls Tryz.prog 23 #[.string t, .bool sp, .pointer (some ⟨k, 0, none⟩)] w fun e w' => numPost 3 sb s t sp w e w' := by
  have HP := Lib.hid (pnum_ok t ht w hk)
  unfold numPost
  have HH := Lib.hid (And.intro h (And.intro h1 h2))
  rcases hp : pnum t.data.toList with _ | n
  · rw [hp] at HP
    simp only [Option.getD_none, Option.isSome_none] at HP
    clear hp h hk h1 h2
    go_enter Tryz.func23, Tryz.ntmps23
    go_wp2_with (go_at_call 24; refine HP.out.mono ?_; rintro e w1 ⟨rfl, F1⟩)
    go_ret
    exact ⟨rfl, HH.out.1.fr F1 id, F1⟩
  · rw [hp] at HP
    simp only [Option.getD_some, Option.isSome_some] at HP
    cases sp with
    | false =>
      clear hp h hk h1 h2
      go_enter Tryz.func23, Tryz.ntmps23
      go_wp2_with (go_at_call 24; refine HP.out.mono ?_; rintro e w1 ⟨rfl, F1⟩)
      go_ret
      exact ⟨rfl, HH.out.1.fr F1 id, F1⟩
    | true =>
      clear hp h hk h1 h2
      go_enter Tryz.func23, Tryz.ntmps23
      go_wp2_with (first | (go_at_call 24; refine HP.out.mono ?_; rintro e w1 ⟨rfl, F1⟩; have g2 := F1.cell HH.out.2.2 id; have G := Lib.hid (set_f5 b1 sb s n w1 (HH.out.1.fr F1 id) (F1.cell HH.out.2.1 id))) | (go_at_call 28; refine G.out.mono ?_; rintro e w2 ⟨rfl, h2, f2⟩))
      go_ret
      exact ⟨rfl, h2, (F1.mono fun _ _ e => e.elim).trans f2⟩

set_option maxRecDepth 100000 in
theorem numF4_ok (k b1 sb : Nat) (s : Scr) (t : ByteArray) (sp : Bool) (w : World) (ht : t.size ≤ 5000) (hk : Kn w) (h : ScrAt w sb s) (h1 : w.cell? ⟨b1, 0, none⟩ = some (.pointer (some ⟨sb, 0, none⟩)))
    (h2 : w.cell? ⟨k, 0, none⟩ = some (.func (.func 29) #[] #[.pointer (some ⟨b1, 0, none⟩)])) :
    Calls Tryz.prog 23 #[.string t, .bool sp, .pointer (some ⟨k, 0, none⟩)] w fun e w' => numPost 4 sb s t sp w e w' := by
  have HP := Lib.hid (pnum_ok t ht w hk)
  unfold numPost
  have HH := Lib.hid (And.intro h (And.intro h1 h2))
  rcases hp : pnum t.data.toList with _ | n
  · rw [hp] at HP
    simp only [Option.getD_none, Option.isSome_none] at HP
    clear hp h hk h1 h2
    go_enter Tryz.func23, Tryz.ntmps23
    go_wp2_with (go_at_call 24; refine HP.out.mono ?_; rintro e w1 ⟨rfl, F1⟩)
    go_ret
    exact ⟨rfl, HH.out.1.fr F1 id, F1⟩
  · rw [hp] at HP
    simp only [Option.getD_some, Option.isSome_some] at HP
    cases sp with
    | false =>
      clear hp h hk h1 h2
      go_enter Tryz.func23, Tryz.ntmps23
      go_wp2_with (go_at_call 24; refine HP.out.mono ?_; rintro e w1 ⟨rfl, F1⟩)
      go_ret
      exact ⟨rfl, HH.out.1.fr F1 id, F1⟩
    | true =>
      clear hp h hk h1 h2
      go_enter Tryz.func23, Tryz.ntmps23
      go_wp2_with (first | (go_at_call 24; refine HP.out.mono ?_; rintro e w1 ⟨rfl, F1⟩; have g2 := F1.cell HH.out.2.2 id; have G := Lib.hid (set_f6 b1 sb s n w1 (HH.out.1.fr F1 id) (F1.cell HH.out.2.1 id))) | (go_at_call 29; refine G.out.mono ?_; rintro e w2 ⟨rfl, h2, f2⟩))
      go_ret
      exact ⟨rfl, h2, (F1.mono fun _ _ e => e.elim).trans f2⟩

set_option maxRecDepth 100000 in
theorem numF5_ok (k b1 sb : Nat) (s : Scr) (t : ByteArray) (sp : Bool) (w : World) (ht : t.size ≤ 5000) (hk : Kn w) (h : ScrAt w sb s) (h1 : w.cell? ⟨b1, 0, none⟩ = some (.pointer (some ⟨sb, 0, none⟩)))
    (h2 : w.cell? ⟨k, 0, none⟩ = some (.func (.func 30) #[] #[.pointer (some ⟨b1, 0, none⟩)])) :
    Calls Tryz.prog 23 #[.string t, .bool sp, .pointer (some ⟨k, 0, none⟩)] w fun e w' => numPost 5 sb s t sp w e w' := by
  have HP := Lib.hid (pnum_ok t ht w hk)
  unfold numPost
  have HH := Lib.hid (And.intro h (And.intro h1 h2))
  rcases hp : pnum t.data.toList with _ | n
  · rw [hp] at HP
    simp only [Option.getD_none, Option.isSome_none] at HP
    clear hp h hk h1 h2
    go_enter Tryz.func23, Tryz.ntmps23
    go_wp2_with (go_at_call 24; refine HP.out.mono ?_; rintro e w1 ⟨rfl, F1⟩)
    go_ret
    exact ⟨rfl, HH.out.1.fr F1 id, F1⟩
  · rw [hp] at HP
    simp only [Option.getD_some, Option.isSome_some] at HP
    cases sp with
    | false =>
      clear hp h hk h1 h2
      go_enter Tryz.func23, Tryz.ntmps23
      go_wp2_with (go_at_call 24; refine HP.out.mono ?_; rintro e w1 ⟨rfl, F1⟩)
      go_ret
      exact ⟨rfl, HH.out.1.fr F1 id, F1⟩
    | true =>
      clear hp h hk h1 h2
      go_enter Tryz.func23, Tryz.ntmps23
      go_wp2_with (first | (go_at_call 24; refine HP.out.mono ?_; rintro e w1 ⟨rfl, F1⟩; have g2 := F1.cell HH.out.2.2 id; have G := Lib.hid (set_f7 b1 sb s n w1 (HH.out.1.fr F1 id) (F1.cell HH.out.2.1 id))) | (go_at_call 30; refine G.out.mono ?_; rintro e w2 ⟨rfl, h2, f2⟩))
      go_ret
      exact ⟨rfl, h2, (F1.mono fun _ _ e => e.elim).trans f2⟩
end Go.Proofs.YthkmbnkkohomeaaGreatDoor.Mem
