/- Plain mathematics of the statement ObjectNone: a memory with one class. -/
import Derived.Test.YtajeiccfgnpbpaaOnnA
namespace Go.Proofs.Ytajeiccfgnpbpaa.Mem
open Go.RowKit

/-- The class at 104 stands. -/
structure Cls104 (bs : List UInt8) : Prop where
  len : bs.length = 1024
  c0 : cell bs 104 = (magic, 0)
  c1 : cell bs 112 = (0, 0)
  c2 : cell bs 120 = (8, 0)
  c3 : cell bs 128 = (16, 0)
  c4 : cell bs 136 = (0, 0)
/-- And it is the root's only one, without methods. -/
structure One (bs : List UInt8) : Prop extends Cls104 bs where
  r : cell bs 8 = (104, 0)
  t : cell bs 16 = (3, 0)
  s : cell bs 56 = (0, 0)

theorem Cls104.set {bs : List UInt8} (h : Cls104 bs) (a n : Int) (ha : a ≤ 96 ∨ 144 ≤ a) : Cls104 (setc bs a n) := by
  refine ⟨by rw [setc_length]; exact h.len, ?_, ?_, ?_, ?_, ?_⟩
  · rw [cell_setc_other _ _ _ _ (by omega)]; exact h.c0
  · rw [cell_setc_other _ _ _ _ (by omega)]; exact h.c1
  · rw [cell_setc_other _ _ _ _ (by omega)]; exact h.c2
  · rw [cell_setc_other _ _ _ _ (by omega)]; exact h.c3
  · rw [cell_setc_other _ _ _ _ (by omega)]; exact h.c4
theorem One.set {bs : List UInt8} (h : One bs) (a n : Int) (ha : 512 ≤ a) : One (setc bs a n) := by
  refine ⟨h.toCls104.set a n (by omega), ?_, ?_, ?_⟩
  · rw [cell_setc_other _ _ _ _ (by omega)]; exact h.r
  · rw [cell_setc_other _ _ _ _ (by omega)]; exact h.t
  · rw [cell_setc_other _ _ _ _ (by omega)]; exact h.s

theorem Cls104.is {bs : List UInt8} (h : Cls104 bs) : isCl bs 104 = true := by
  unfold isCl
  rw [show (104 : Int) + 8 = 112 from rfl, show (104 : Int) + 16 = 120 from rfl, show (104 : Int) + 24 = 128 from rfl, show (104 : Int) + 32 = 136 from rfl, h.c0, h.c1, h.c2, h.c3, h.c4]
  rfl
theorem Cls104.v {bs : List UInt8} (h : Cls104 bs) : clv bs 104 = ⟨104, 0, 8, 16, 0⟩ := by
  unfold clv
  rw [if_pos h.is, show (104 : Int) + 8 = 112 from rfl, show (104 : Int) + 16 = 120 from rfl, show (104 : Int) + 24 = 128 from rfl, show (104 : Int) + 32 = 136 from rfl, h.c1, h.c2, h.c3, h.c4]
theorem Cls104.sz {bs : List UInt8} (h : Cls104 bs) : sizev bs 104 = (8, 0) := by
  unfold sizev
  rw [if_pos h.is, h.v]
  rfl

theorem One.isIn {bs : List UInt8} (h : One bs) (x : Int) : isIn bs 8 x = decide (x = 104) := by
  unfold Mem.isIn
  rw [h.r, h.len, chainIs, if_pos ⟨by decide, by decide, h.is⟩, h.v]
  by_cases hx : x = 104
  · rw [if_pos hx.symm]; simp [hx]
  · rw [if_neg (fun e => hx e.symm), chainIs_end _ _ _ _ _ (by dsimp only; omega)]; simp [hx]

theorem One.cls {bs : List UInt8} (h : One bs) (a : Int) : ocls bs 8 a = if (cell bs a).2 = 0 ∧ (cell bs a).1 = 104 then (104, 0) else (0, -2048) := by
  unfold ocls
  rw [h.isIn]
  by_cases hc : (cell bs a).2 = 0 ∧ (cell bs a).1 = 104
  · rw [if_pos hc, if_pos ⟨hc.1, by simp [hc.2]⟩, hc.2]
  · rw [if_neg hc, if_neg (fun e => hc ⟨e.1, by simpa using e.2⟩)]

theorem One.look {bs : List UInt8} (h : One bs) : (lookv bs 104 1).2.2 = false := by
  unfold lookv
  rw [if_pos h.is, h.v]
  have hs : slots bs 16 = 3 := by
    unfold slots
    rw [h.t, h.len]
    rfl
  have hse : (search bs 16 1).found = false := by
    unfold search
    rw [hs, if_neg (by decide), show (3 : Int).toNat = 2 + 1 from rfl, probe]
    have hst : slotAt 16 ((home 1 3 + ((0 : Nat) : Int)) % 3) = 56 := by decide
    have h0 : stops bs 16 1 3 0 = true := by
      unfold stops
      rw [hst, h.s]
      rfl
    rw [if_pos h0, hst, h.s]
    rfl
  unfold getv
  rw [if_neg (by dsimp only; rw [hse]; simp)]

theorem One.send {bs : List UInt8} (h : One bs) (a : Int) : osend bs 8 a 1 = if (cell bs a).2 = 0 ∧ (cell bs a).1 = 104 then (0, 0, -2049) else (0, 0, -2048) := by
  unfold osend
  rw [h.cls]
  by_cases hc : (cell bs a).2 = 0 ∧ (cell bs a).1 = 104
  · rw [if_pos hc, if_pos hc, if_pos rfl, h.look, if_neg (by decide)]
  · rw [if_neg hc, if_neg hc, if_neg (by decide)]

theorem sett_nil (bs : List UInt8) (a : Int) (h : 0 ≤ a ∧ a ≤ bs.length) : sett bs a [] = bs := by
  unfold sett
  split
  · unfold put
    simp
  · rfl
/-- What Make leaves where there is a cell, and where there is none. -/
theorem make_ok {bs : List UInt8} (h : Cls104 bs) (a : Int) (ha : (cell bs a).2 = 0) : omake bs a 104 = (0, setc bs a 104) := by
  obtain ⟨h0, h1, _⟩ := cell_code ha
  unfold omake olay
  rw [h.sz, if_pos rfl, if_pos ha, if_pos (by unfold txt; rw [if_pos (by simp [has]; omega)]), show ((8 : Int) - 8).toNat = 0 from rfl, List.replicate_zero, sett_nil _ _ (by rw [setc_length]; omega)]
theorem make_bad {bs : List UInt8} (h : Cls104 bs) (a : Int) (ha : (cell bs a).2 ≠ 0) : omake bs a 104 = ((cell bs a).2, bs) := by
  unfold omake olay
  rw [h.sz, if_pos rfl, if_neg ha]
theorem cell_setc_same (bs : List UInt8) (a n : Int) (h : (cell bs a).2 = 0) (hn : -9223372036854775808 ≤ n ∧ n ≤ 9223372036854775807) : cell (setc bs a n) a = (n, 0) := by
  obtain ⟨h0, h1, h2⟩ := cell_code h
  rw [setc_in _ _ _ h0 h1 h2]
  unfold cell
  rw [setv_length, if_pos (code_of h0 h1 h2), cellv_same _ _ _ (by omega) hn]
theorem none_520 {bs : List UInt8} (h : (cell bs 520).1 ≠ magic) : (sizev bs 520).2 = -2048 := by
  unfold sizev
  rw [if_neg]
  intro e
  exact h (isCl_in e).2.2.2

/-- The bytes with one class. -/
def on1 : List UInt8 := (cnewv 1024 16 ex0 8 0 3).2.2
theorem on_new : cnewv 1024 16 ex0 8 0 3 = ((104, 0), 144, on1) := by
  have h0 : (cnewv 1024 16 ex0 8 0 3).1 = (104, 0) := by decide +kernel
  have h1 : (cnewv 1024 16 ex0 8 0 3).2.1 = 144 := by decide +kernel
  unfold on1
  obtain ⟨v, hv⟩ : ∃ v, cnewv 1024 16 ex0 8 0 3 = v := ⟨_, rfl⟩
  rw [hv] at h0 h1 ⊢
  exact Prod.ext h0 (Prod.ext h1 rfl)
theorem on_one : One on1 := ⟨⟨by decide +kernel, by decide +kernel, by decide +kernel, by decide +kernel, by decide +kernel, by decide +kernel⟩, by decide +kernel, by decide +kernel, by decide +kernel⟩
theorem on_520 : (cell on1 520).1 ≠ magic := by decide +kernel
end Go.Proofs.Ytajeiccfgnpbpaa.Mem
