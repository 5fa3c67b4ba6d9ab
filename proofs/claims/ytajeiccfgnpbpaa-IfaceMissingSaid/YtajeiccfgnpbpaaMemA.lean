/- Contracts of package mem: a memory is a list of bytes. -/
import Derived.Test.YtajeiccfgnpbpaaChecked
import Derived.Test.YtajeiccfgnpbpaaUtil
import Derived.Test.YtajeiccfgnpbpaaMemP
import Derived.WalkKit
import Derived.WalkSpells
import Derived.WalkLawsBesides
import Derived.Lib.Hide
import Derived.BigQuiet
import Derived.Deep.QuietTactic
import Derived.Deep.LoopGhost
import Derived.Deep.RegionHeld3
namespace Go.Proofs.Ytajeiccfgnpbpaa.Mem
open Go.RowKit

/-- A byte as a cell. -/
def bv (b : UInt8) : Value := .int .u8 (b.toNat : Int)

/-- At p lies a memory (a value of type t, whose one field is the slice) of these bytes, which lie at g. -/
def Mat (t : TypeId) (w : World) (p g : Nat) (bs : List UInt8) : Prop :=
  p ≠ g ∧ w.heap[p]? = some (.cells #[.slice (some ⟨g, 0, none⟩) bs.length bs.length] t (0, 0)) ∧
  w.heap[g]? = some (.cells (bs.map bv).toArray 5 (0, 0)) ∧ bs.length ≤ 1048576

theorem Mat.hd {t : TypeId} {w : World} {p g : Nat} {bs : List UInt8} (h : Mat t w p g bs) : w.cell? ⟨p, 0, none⟩ = some (.slice (some ⟨g, 0, none⟩) bs.length bs.length) := cell_of_one h.2.1
theorem Mat.at {t : TypeId} {w : World} {p g : Nat} {bs : List UInt8} (h : Mat t w p g bs) (i : Nat) (hi : i < bs.length) : w.cell? ⟨g, i, none⟩ = some (.int .u8 ((bs.getD i 0).toNat : Int)) := by
  rw [cell_of_row w g i _ _ _ h.2.2.1]
  simp [bv, List.getD, hi]
theorem Mat.free {t : TypeId} {w : World} {p g : Nat} {bs : List UInt8} (h : Mat t w p g bs) (i : Nat) : w.frozen? ⟨g, i, none⟩ = false := frozen_of_row w g i _ _ h.2.2.1
theorem Mat.lt {t : TypeId} {w : World} {p g : Nat} {bs : List UInt8} (h : Mat t w p g bs) : p < w.heap.size ∧ g < w.heap.size := ⟨lt_of_block h.2.1, lt_of_block h.2.2.1⟩
theorem Mat.fr {t : TypeId} {S : Nat → Prop} {w w' : World} {p g : Nat} {bs : List UInt8} (h : Mat t w p g bs) (f : Fr S w w') (hp : ¬ S p) (hg : ¬ S g) : Mat t w' p g bs :=
  ⟨h.1, f.obj h.2.1 hp, f.obj h.2.2.1 hg, h.2.2.2⟩
theorem Mat.set {t : TypeId} {w : World} {p g : Nat} {bs : List UInt8} (h : Mat t w p g bs) (i : Nat) (c : UInt8) : Mat t (w.setCell ⟨g, i, none⟩ (bv c)) p g (bs.set i c) := by
  refine ⟨h.1, ?_, ?_, by rw [List.length_set]; exact h.2.2.2⟩
  · rw [heap_setCell_other w ⟨g, i, none⟩ p _ h.1, List.length_set]
    exact h.2.1
  · rw [heap_setCell_same w g i _ _ _ h.2.2.1]
    simp [List.map_set]

/-- Only the bytes at g may have been written. -/
abbrev Only (g : Nat) := Fr fun j => j = g

theorem ret_int {k : IntKind} {a b : Int} (h : a = b) : Ending.returned (.int k a) = .returned (.int k b) := by rw [h]

set_option maxHeartbeats 400000 in
theorem size_any (p g : Nat) (bs : List UInt8) (w : World) (h : Mat 108 w p g bs) :
    Calls Try.prog 51 #[.pointer (some ⟨p, 0, none⟩)] w fun e w' => e = .returned (.int .i64 bs.length) ∧ w' = w := by
  have h0 := h.hd
  have hn := h.2.2.2
  clear h
  go_enter Try.func51, Try.ntmps51
  go_wp2
  go_ret
  exact ⟨rfl, rfl⟩

set_option maxHeartbeats 1000000 in
theorem has_any (p g : Nat) (bs : List UInt8) (a k : Int) (w : World) (h : Mat 108 w p g bs) (hk1 : -9223372036854775808 ≤ k) (hk2 : k ≤ 9223372036854775807) :
    Calls Try.prog 99 #[.pointer (some ⟨p, 0, none⟩), .int .i64 a, .int .i64 k] w fun e w' => e = .returned (.bool (has bs.length a k)) ∧ w' = w := by
  have HS := Lib.hid (fun w h => size_any p g bs w h)
  have H := Lib.hid h
  have hn := h.2.2.2
  obtain ⟨n, hnn⟩ : ∃ n, bs.length = n := ⟨_, rfl⟩
  rw [hnn] at HS hn ⊢
  clear h hnn
  unfold has
  by_cases h1 : 0 ≤ a
  · by_cases h2 : 0 ≤ k
    · by_cases h3 : k ≤ (n : Int)
      · by_cases h4 : a ≤ (n : Int) - k
        all_goals
          go_enter Try.func99, Try.ntmps99
          go_wp2_with (go_at_call 51; refine (HS.out _ H.out).mono ?_; rintro e w' ⟨rfl, rfl⟩)
          go_ret
          exact ⟨by simp [h1, h2, h3, h4], rfl⟩
      · go_enter Try.func99, Try.ntmps99
        go_wp2_with (go_at_call 51; refine (HS.out _ H.out).mono ?_; rintro e w' ⟨rfl, rfl⟩)
        go_ret
        exact ⟨by simp; omega, rfl⟩
    · go_enter Try.func99, Try.ntmps99
      go_wp2_with (go_at_call 51; refine (HS.out _ H.out).mono ?_; rintro e w' ⟨rfl, rfl⟩)
      go_ret
      exact ⟨by simp; omega, rfl⟩
  · go_enter Try.func99, Try.ntmps99
    go_wp2_with (go_at_call 51; refine (HS.out _ H.out).mono ?_; rintro e w' ⟨rfl, rfl⟩)
    go_ret
    exact ⟨by simp; omega, rfl⟩

set_option maxHeartbeats 1000000 in
theorem cellAt_any (p g : Nat) (bs : List UInt8) (a : Int) (w : World) (h : Mat 108 w p g bs) :
    Calls Try.prog 57 #[.pointer (some ⟨p, 0, none⟩), .int .i64 a] w fun e w' => e = .returned (.int .i64 (code bs.length a)) ∧ w' = w := by
  have hh := fun w h => has_any p g bs a 8 w h (by omega) (by omega)
  have H := Lib.hid h
  clear h
  obtain ⟨c, hc⟩ : ∃ c, code bs.length a = c := ⟨_, rfl⟩
  rw [hc]
  unfold code at hc
  by_cases h1 : has bs.length a 8 = true
  · rw [h1, if_pos rfl] at hc
    rw [h1] at hh
    have HH := Lib.hid hh
    have ha : 0 ≤ a := by simp [has] at h1; omega
    clear hh h1
    by_cases h2 : a % 8 = 0
    · have h2' : (a % 8 != 0) = false := by simp [h2]
      rw [if_pos h2] at hc
      subst hc
      clear h2
      go_enter Try.func57, Try.ntmps57
      go_wp2_with (go_at_call 99; refine (HH.out _ H.out).mono ?_; rintro e w' ⟨rfl, rfl⟩)
      go_ret
      exact ⟨rfl, rfl⟩
    · have h2' : (a % 8 != 0) = true := by simp [h2]
      rw [if_neg h2] at hc
      subst hc
      clear h2
      go_enter Try.func57, Try.ntmps57
      go_wp2_with (go_at_call 99; refine (HH.out _ H.out).mono ?_; rintro e w' ⟨rfl, rfl⟩)
      go_ret
      exact ⟨rfl, rfl⟩
  · have h1' : has bs.length a 8 = false := by simpa using h1
    rw [if_neg h1] at hc
    subst hc
    rw [h1'] at hh
    have HH := Lib.hid hh
    clear hh h1 h1'
    go_enter Try.func57, Try.ntmps57
    go_wp2_with (go_at_call 99; refine (HH.out _ H.out).mono ?_; rintro e w' ⟨rfl, rfl⟩)
    go_ret
    exact ⟨rfl, rfl⟩

set_option maxHeartbeats 1000000 in
theorem cell_any (p g : Nat) (bs : List UInt8) (a : Int) (w : World) (h : Mat 108 w p g bs) :
    Calls Try.prog 46 #[.pointer (some ⟨p, 0, none⟩), .int .i64 a] w fun e w' => e = .returned (.tuple #[.int .i64 (cell bs a).1, .int .i64 (cell bs a).2]) ∧ w' = w := by
  have hcall := fun w h => cellAt_any p g bs a w h
  have H := Lib.hid h
  have h0 := h.hd
  obtain ⟨c, hc⟩ : ∃ c, code bs.length a = c := ⟨_, rfl⟩
  rw [hc] at hcall
  have HC := Lib.hid hcall
  clear hcall
  by_cases hz : c = 0
  · subst hz
    have hp : cell bs a = (cellv bs a.toNat, 0) := by unfold cell; rw [if_pos hc]
    obtain ⟨ha0, ha1, _⟩ := code_ok hc
    obtain ⟨x, rfl⟩ : ∃ x : Nat, a = x := ⟨a.toNat, by omega⟩
    rw [hp]
    simp only [Int.toNat_natCast]
    have hn := h.2.2.2
    have HA := Lib.hid (fun i hi => h.at i hi)
    obtain ⟨n, hnn⟩ : ∃ n, bs.length = n := ⟨_, rfl⟩
    rw [hnn] at h0 hn HA ha1
    clear h hc hp hnn
    go_enter Try.func46, Try.ntmps46
    go_wp2_with (go_at_call 57; refine (HC.out _ H.out).mono ?_; rintro e w' ⟨rfl, rfl⟩)
    go_loop [7, 15] (fun nv iv => ∃ k : Nat, k ≤ 8 ∧ iv = .int .i64 k ∧ nv = .int .u64 (rd bs x k : Nat)) (fun _ iv => 8 - (intOf iv).toNat)
    case atStart => exact ⟨0, by omega, rfl, rfl⟩
    case round =>
      obtain ⟨k, hk, rfl, rfl⟩ := hrel
      by_cases hlt : k < 8
      · have hcell := HA.out (x + k) (by omega)
        have hb : ((bs.getD (x + k) 0).toNat : Int) ≤ 255 := by have := (bs.getD (x + k) 0).toNat_lt; omega
        obtain ⟨y, hy⟩ : ∃ y : Nat, (bs.getD (x + k) 0).toNat = y := ⟨_, rfl⟩
        rw [hy] at hcell hb
        have HY := Lib.hid hy
        clear hy
        go_wp2
        refine ⟨⟨k + 1, by omega, rfl, ?_⟩, by simp only [intOf]; omega⟩
        rw [or_byte _ _ _ (rd_lt bs x k) (by omega) hlt, rd, HY.out]
      · obtain rfl : k = 8 := by omega
        go_wp2
        go_ret2
        exact ⟨rfl, rfl⟩
  · have hp : cell bs a = (0, c) := by unfold cell; rw [if_neg (by rw [hc]; exact hz), hc]
    rw [hp]
    have hz' : (c != 0) = true := by simp [hz]
    clear h hc hp hz
    go_enter Try.func46, Try.ntmps46
    go_wp2_with (go_at_call 57; refine (HC.out _ H.out).mono ?_; rintro e w' ⟨rfl, rfl⟩)
    go_ret2
    exact ⟨rfl, rfl⟩

end Go.Proofs.Ytajeiccfgnpbpaa.Mem
