/- Plain mathematics of a memory of bytes: what a cell holds, what a store leaves. No program. -/
import Derived.IntWalk
import Derived.WalkArith
import Derived.Below
import Derived.Lib.Strings
import Derived.Laws.Bits64b
namespace Go.Proofs.Ytajeiccfgnpbpaa.Mem
open Go.RowKit

/-- Modulo 2^64. -/
def m64 (x : Int) : Int := x % 18446744073709551616
theorem m64_bd (x : Int) : 0 ≤ m64 x ∧ m64 x ≤ 18446744073709551615 := by unfold m64; omega
theorem wrap_u64 (x : Int) : IntKind.u64.wrap x = m64 x := by
  simp only [IntKind.wrap, m64]
  simp [IntKind.bits, IntKind.signed]

/-- Are so many bytes there? -/
def has (n : Nat) (a k : Int) : Bool := decide (0 ≤ a) && decide (0 ≤ k) && decide (k ≤ n) && decide (a ≤ n - k)

/-- The code of an access to a cell. -/
def code (n : Nat) (a : Int) : Int := if has n a 8 = true then (if a % 8 = 0 then 0 else -23) else -9

theorem code_ok {n : Nat} {a : Int} (h : code n a = 0) : 0 ≤ a ∧ a + 8 ≤ n ∧ a % 8 = 0 := by
  unfold code at h
  split at h
  · rename_i hh
    split at h
    · simp [has] at hh; omega
    · omega
  · omega

theorem code_of {n : Nat} {a : Int} (h0 : 0 ≤ a) (h1 : a + 8 ≤ n) (h2 : a % 8 = 0) : code n a = 0 := by
  unfold code
  rw [if_pos (by simp [has]; omega), if_pos h2]

/-- The number of the first k bytes from a on, the least one first. -/
def rd (bs : List UInt8) (a : Nat) : Nat → Nat
  | 0 => 0
  | k + 1 => rd bs a k + (bs.getD (a + k) 0).toNat * 256 ^ k
theorem rd_lt (bs : List UInt8) (a : Nat) : ∀ k, rd bs a k < 256 ^ k
  | 0 => by simp [rd]
  | k + 1 => by
    have ih := rd_lt bs a k
    have hb := (bs.getD (a + k) 0).toNat_lt
    have : (bs.getD (a + k) 0).toNat * 256 ^ k ≤ 255 * 256 ^ k := Nat.mul_le_mul_right _ (by omega)
    rw [rd, Nat.pow_succ]
    omega

/-- The number of the bytes from a + j up to a + 7, the greatest one first. -/
def rdH (bs : List UInt8) (a : Nat) : Nat → Nat
  | 0 => 0
  | k + 1 => rdH bs a k * 256 + (bs.getD (a + (7 - k)) 0).toNat
theorem rdH_lt (bs : List UInt8) (a : Nat) : ∀ k, rdH bs a k < 256 ^ k
  | 0 => by simp [rdH]
  | k + 1 => by
    have ih := rdH_lt bs a k
    have hb := (bs.getD (a + (7 - k)) 0).toNat_lt
    rw [rdH, Nat.pow_succ]
    omega
theorem rdH_rd (bs : List UInt8) (a : Nat) : rdH bs a 8 = rd bs a 8 := by
  simp only [rdH, rd, Nat.reduceSub, Nat.add_zero, Nat.sub_zero]
  omega

/-- A cell's number. -/
def cellv (bs : List UInt8) (a : Nat) : Int := wrap64 (rd bs a 8 : Nat)

/-- What a load of a cell tells: the number, and the code. -/
def cell (bs : List UInt8) (a : Int) : Int × Int := if code bs.length a = 0 then (cellv bs a.toNat, 0) else (0, code bs.length a)

/-- The first k bytes of a number written from a on. -/
def wr (bs : List UInt8) (a u : Nat) : Nat → List UInt8
  | 0 => bs
  | k + 1 => (wr bs a u k).set (a + k) (UInt8.ofNat (u / 256 ^ k % 256))
theorem wr_length (bs : List UInt8) (a u : Nat) : ∀ k, (wr bs a u k).length = bs.length
  | 0 => rfl
  | k + 1 => by rw [wr, List.length_set, wr_length bs a u k]

/-- The memory behind a store of a cell. -/
def setv (bs : List UInt8) (a : Nat) (n : Int) : List UInt8 := wr bs a (m64 n).toNat 8
theorem setv_length (bs : List UInt8) (a : Nat) (n : Int) : (setv bs a n).length = bs.length := wr_length _ _ _ _

/-- What a store of a cell leaves, and its code. -/
def setc (bs : List UInt8) (a n : Int) : List UInt8 := if code bs.length a = 0 then setv bs a.toNat n else bs
theorem setc_length (bs : List UInt8) (a n : Int) : (setc bs a n).length = bs.length := by
  unfold setc; split
  · exact setv_length _ _ _
  · rfl

theorem wr_get (bs : List UInt8) (a u : Nat) : ∀ k i, (wr bs a u k).getD i 0 = if a ≤ i ∧ i < a + k ∧ i < bs.length then UInt8.ofNat (u / 256 ^ (i - a) % 256) else bs.getD i 0
  | 0, i => by rw [wr, if_neg (by omega)]
  | k + 1, i => by
    have ih := wr_get bs a u k i
    rw [wr, List.getD_eq_getElem?_getD, List.getElem?_set, wr_length]
    by_cases h : a + k = i
    · subst h
      rw [if_pos rfl]
      by_cases hl : a + k < bs.length
      · rw [if_pos hl, if_pos (by omega)]
        simp [show a + k - a = k by omega]
      · rw [if_neg hl, if_neg (by omega)]
        simp [hl]
    · rw [if_neg h, ← List.getD_eq_getElem?_getD, ih]
      by_cases hc : a ≤ i ∧ i < a + k ∧ i < bs.length
      · rw [if_pos hc, if_pos (by omega)]
      · rw [if_neg hc, if_neg (by omega)]

theorem rd_congr {bs cs : List UInt8} {a b : Nat} : ∀ k, (∀ i, i < k → bs.getD (a + i) 0 = cs.getD (b + i) 0) → rd bs a k = rd cs b k
  | 0, _ => rfl
  | k + 1, h => by rw [rd, rd, rd_congr k (fun i hi => h i (by omega)), h k (by omega)]

theorem rd_wr (bs : List UInt8) (a u : Nat) (h : a + 8 ≤ bs.length) (hu : u < 256 ^ 8) : rd (wr bs a u 8) a 8 = u := by
  have hb : ∀ i, i < 8 → (wr bs a u 8).getD (a + i) 0 = UInt8.ofNat (u / 256 ^ i % 256) := fun i hi => by
    rw [wr_get, if_pos (by omega)]
    simp [show a + i - a = i by omega]
  have ht : ∀ x : Nat, (UInt8.ofNat (x % 256)).toNat = x % 256 := fun x => by simp
  simp only [rd, hb 0 (by omega), hb 1 (by omega), hb 2 (by omega), hb 3 (by omega), hb 4 (by omega), hb 5 (by omega), hb 6 (by omega), hb 7 (by omega), ht]
  simp only [Nat.reducePow] at hu ⊢
  omega

/-- A cell behind a store into it. -/
theorem cellv_same (bs : List UInt8) (a : Nat) (n : Int) (h : a + 8 ≤ bs.length) (hn : -9223372036854775808 ≤ n ∧ n ≤ 9223372036854775807) : cellv (setv bs a n) a = n := by
  unfold cellv setv
  have hm := m64_bd n
  rw [rd_wr bs a _ h (by simp only [Nat.reducePow]; omega)]
  unfold wrap64 m64
  omega

/-- A cell behind a store into another one. -/
theorem cellv_other (bs : List UInt8) (a b : Nat) (n : Int) (h : b + 8 ≤ a ∨ a + 8 ≤ b) : cellv (setv bs a n) b = cellv bs b := by
  unfold cellv setv
  rw [rd_congr (bs := wr bs a _ 8) (cs := bs) 8 (fun i hi => by rw [wr_get, if_neg (by omega)])]

/-- Bytes taken out. -/
def text (bs : List UInt8) (a k : Nat) : List UInt8 := (bs.drop a).take k
/-- Bytes put in. -/
def put (bs : List UInt8) (a : Nat) (t : List UInt8) : List UInt8 := bs.take a ++ t ++ bs.drop (a + t.length)
theorem put_length (bs : List UInt8) (a : Nat) (t : List UInt8) (h : a + t.length ≤ bs.length) : (put bs a t).length = bs.length := by
  simp [put]; omega

/-- A byte set above the bytes below it. -/
theorem or_byte (r y k : Nat) (hr : r < 256 ^ k) (hy : y ≤ 255) (hk : k < 8) : bits .or .u64 (r : Int) (IntKind.u64.wrap ((y : Int) * (2 : Int) ^ (8 * k))) = ((r + y * 256 ^ k : Nat) : Int) := by
  rw [show ((2 : Int) ^ (8 * k)) = ((2 ^ (8 * k) : Nat) : Int) by rw [Int.natCast_pow]; rfl]
  have e : (256 : Nat) ^ k = 2 ^ (8 * k) := by rw [Nat.pow_mul]
  rw [e] at hr ⊢
  have h64 : (2 : Nat) ^ (8 * k) * 256 ≤ 18446744073709551616 := by
    have : (2 : Nat) ^ (8 * k) * 256 = 2 ^ (8 * (k + 1)) := by rw [Nat.mul_add, Nat.pow_add]
    rw [this]
    exact Nat.pow_le_pow_right (by omega) (by omega : 8 * (k + 1) ≤ 64)
  have hyb : y * 2 ^ (8 * k) ≤ 255 * 2 ^ (8 * k) := Nat.mul_le_mul_right _ hy
  have hw : IntKind.u64.wrap ((y : Int) * ((2 ^ (8 * k) : Nat) : Int)) = ((y * 2 ^ (8 * k) : Nat) : Int) := by
    rw [wrap_u64, ← Int.natCast_mul]
    unfold m64
    omega
  rw [hw, bits_or_u64_nat _ _ (by omega) (by omega), Nat.or_comm, Nat.mul_comm, ← Nat.two_pow_add_eq_or_of_lt hr y, Nat.add_comm]

/-- The k-th byte of a number. -/
theorem byte_of (n : Int) (k : Nat) : IntKind.u64.wrap n / (2 : Int) ^ (8 * k) % 256 = ((UInt8.ofNat ((m64 n).toNat / 256 ^ k % 256)).toNat : Int) := by
  rw [show ((2 : Int) ^ (8 * k)) = ((256 ^ k : Nat) : Int) by rw [show (256 : Nat) ^ k = 2 ^ (8 * k) by rw [Nat.pow_mul], Int.natCast_pow]; rfl, wrap_u64]
  obtain ⟨u, hu⟩ : ∃ u : Nat, m64 n = u := ⟨(m64 n).toNat, by have := m64_bd n; omega⟩
  rw [hu]
  simp

/-- What a read of bytes tells: them, and the code. -/
def txt (bs : List UInt8) (a n : Int) : List UInt8 × Int := if has bs.length a n = true then (text bs a.toNat n.toNat, 0) else ([], -9)
/-- What a write of bytes leaves, and its code. -/
def sett (bs : List UInt8) (a : Int) (t : List UInt8) : List UInt8 := if has bs.length a t.length = true then put bs a.toNat t else bs
def codet (bs : List UInt8) (a : Int) (t : List UInt8) : Int := if has bs.length a t.length = true then 0 else -9
theorem sett_length (bs : List UInt8) (a : Int) (t : List UInt8) : (sett bs a t).length = bs.length := by
  unfold sett; split
  · rename_i h
    simp [has] at h
    exact put_length _ _ _ (by omega)
  · rfl
theorem text_length (bs : List UInt8) (a k : Nat) (h : a + k ≤ bs.length) : (text bs a k).length = k := by simp [text]; omega
theorem text_get (bs : List UInt8) (a k i : Nat) (hi : i < k) : (text bs a k).getD i 0 = bs.getD (a + i) 0 := by
  simp [text, List.getD_eq_getElem?_getD, List.getElem?_take, List.getElem?_drop, hi]

/-- The first k bytes of l put in at a. -/
def putk (bs : List UInt8) (a : Nat) (l : List UInt8) (k : Nat) : List UInt8 := bs.take a ++ l.take k ++ bs.drop (a + k)
theorem putk_zero (bs : List UInt8) (a : Nat) (l : List UInt8) : putk bs a l 0 = bs := by simp [putk]
theorem putk_all (bs : List UInt8) (a : Nat) (l : List UInt8) : putk bs a l l.length = put bs a l := by simp [putk, put]
theorem putk_length (bs : List UInt8) (a : Nat) (l : List UInt8) (k : Nat) (hk : k ≤ l.length) (h : a + l.length ≤ bs.length) : (putk bs a l k).length = bs.length := by
  simp [putk]; omega
theorem putk_set (bs : List UInt8) (a : Nat) (l : List UInt8) (k : Nat) (hk : k < l.length) (h : a + l.length ≤ bs.length) : (putk bs a l k).set (a + k) (l.getD k 0) = putk bs a l (k + 1) := by
  have h1 : (bs.take a ++ l.take k).length = a + k := by simp; omega
  have h2 : bs.drop (a + k) = bs[a + k] :: bs.drop (a + k + 1) := List.drop_eq_getElem_cons (by omega)
  have h3 : l.take (k + 1) = l.take k ++ [l.getD k 0] := by
    rw [List.take_add_one, List.getD_eq_getElem?_getD, List.getElem?_eq_getElem hk]
    simp
  unfold putk
  rw [List.set_append_right _ _ (by rw [h1]; omega), h1, Nat.sub_self, h2, h3]
  simp [Nat.add_assoc]

theorem code_in {n x : Nat} (h : x + 8 ≤ n) : code n (x : Int) = if x % 8 = 0 then 0 else -23 := by
  unfold code
  rw [if_pos (by simp [has]; omega)]
  by_cases h8 : x % 8 = 0
  · rw [if_pos h8, if_pos (by omega)]
  · rw [if_neg h8, if_neg (by omega)]


end Go.Proofs.Ytajeiccfgnpbpaa.Mem
