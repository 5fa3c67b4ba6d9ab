/- Plain mathematics of classes in a memory of bytes. No program. -/
import Derived.Test.YtajeiccfgnpbpaaTabR
namespace Go.Proofs.Ytajeiccfgnpbpaa.Mem
open Go.RowKit

/-- A class: its place, its parent's, its objects' size, its table, the class before it. -/
structure Cl where
  a : Int
  par : Int
  size : Int
  tab : Int
  prev : Int
def magic : Int := 357694784579
/-- Is there a class at a? -/
def isCl (bs : List UInt8) (a : Int) : Bool :=
  (cell bs a).2 == 0 && (cell bs (a + 8)).2 == 0 && (cell bs (a + 16)).2 == 0 && (cell bs (a + 24)).2 == 0 && (cell bs (a + 32)).2 == 0 && (cell bs a).1 == magic
/-- The class at a; all 0: there is none. -/
def clv (bs : List UInt8) (a : Int) : Cl := if isCl bs a = true then ⟨a, (cell bs (a + 8)).1, (cell bs (a + 16)).1, (cell bs (a + 24)).1, (cell bs (a + 32)).1⟩ else ⟨0, 0, 0, 0, 0⟩

theorem cell_code {bs : List UInt8} {a : Int} (h : (cell bs a).2 = 0) : 0 ≤ a ∧ a + 8 ≤ bs.length ∧ a % 8 = 0 := by
  unfold cell at h
  split at h
  · rename_i hc; exact code_ok hc
  · rename_i hc; exact absurd h hc
theorem cell_bd' (bs : List UInt8) (a : Int) : -9223372036854775808 ≤ (cell bs a).1 ∧ (cell bs a).1 ≤ 9223372036854775807 := by
  unfold cell; split
  · simp only [cellv, wrap64]; omega
  · simp
theorem isCl_in {bs : List UInt8} {a : Int} (h : isCl bs a = true) : 0 ≤ a ∧ a + 40 ≤ bs.length ∧ a % 8 = 0 ∧ (cell bs a).1 = magic := by
  unfold isCl at h
  simp only [Bool.and_eq_true, beq_iff_eq] at h
  obtain ⟨⟨⟨⟨⟨h0, h1⟩, h2⟩, h3⟩, h4⟩, h5⟩ := h
  have := cell_code h0
  have := cell_code h4
  exact ⟨by omega, by omega, by omega, h5⟩

/-- Is one of the classes from x downwards (below lim) at a? -/
def chainIs (bs : List UInt8) (a : Int) : Nat → Int → Int → Bool
  | 0, _, _ => false
  | f + 1, lim, x => if 0 < x ∧ x < lim ∧ isCl bs x = true then (if x = a then true else chainIs bs a f x (clv bs x).prev) else false
theorem chainIs_end (bs : List UInt8) (a : Int) (f : Nat) (lim x : Int) (h : ¬ (0 < x ∧ x < lim ∧ isCl bs x = true)) : chainIs bs a f lim x = false := by
  cases f with
  | zero => rfl
  | succ f => rw [chainIs, if_neg h]
/-- Is one of a root's classes at a? -/
def isIn (bs : List UInt8) (root a : Int) : Bool := chainIs bs a (bs.length + 1) bs.length (cell bs root).1

/-- Cells allocated one by one, as far as there is room up to z: where allocation stands, the bytes, was there room for all. -/
def layl (z : Nat) : List Int → Nat → List UInt8 → Nat × List UInt8 × Bool
  | [], x, bs => (x, bs, true)
  | n :: l, x, bs => if x + 8 ≤ z then layl z l (x + 8) (setv bs x n) else (x, bs, false)
theorem layl_inv (z : Nat) : ∀ (l : List Int) x bs, x ≤ z → x ≤ (layl z l x bs).1 ∧ (layl z l x bs).1 ≤ z ∧ (layl z l x bs).1 % 8 = x % 8 ∧ (layl z l x bs).2.1.length = bs.length
  | [], _, _, h => ⟨Nat.le_refl _, h, rfl, rfl⟩
  | n :: l, x, bs, h => by
    rw [layl]
    split
    · rename_i h8
      have ih := layl_inv z l (x + 8) (setv bs x n) h8
      rw [setv_length] at ih
      exact ⟨by omega, ih.2.1, by omega, ih.2.2.2⟩
    · exact ⟨Nat.le_refl _, h, rfl, rfl⟩
end Go.Proofs.Ytajeiccfgnpbpaa.Mem
