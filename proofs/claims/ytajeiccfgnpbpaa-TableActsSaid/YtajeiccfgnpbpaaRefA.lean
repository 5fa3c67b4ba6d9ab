/- Contracts of the document's answers for spaces. -/
import Derived.Test.YtajeiccfgnpbpaaTabG
namespace Go.Proofs.Ytajeiccfgnpbpaa.Mem
open Go.RowKit

/-- At b lies the document's space of the memory at p (bytes at g), from a to z, allocated up to x. -/
def Rat (w : World) (b p g a z x : Nat) (bs : List UInt8) : Prop :=
  b ≠ p ∧ b ≠ g ∧ w.heap[b]? = some (.cells #[.pointer (some ⟨p, 0, none⟩), .int .i64 a, .int .i64 z, .int .i64 x] 35 (0, 0)) ∧ Mat 112 w p g bs ∧ a ≤ x ∧ x ≤ z ∧ z ≤ bs.length

theorem Rat.cells {w : World} {b p g a z x : Nat} {bs : List UInt8} (h : Rat w b p g a z x bs) :
    w.cell? ⟨b, 0, none⟩ = some (.pointer (some ⟨p, 0, none⟩)) ∧ w.cell? ⟨b, 1, none⟩ = some (.int .i64 a) ∧ w.cell? ⟨b, 2, none⟩ = some (.int .i64 z) ∧ w.cell? ⟨b, 3, none⟩ = some (.int .i64 x) := by
  refine ⟨?_, ?_, ?_, ?_⟩ <;> rw [cell_of_row w b _ _ _ _ h.2.2.1] <;> rfl
theorem Rat.free {w : World} {b p g a z x : Nat} {bs : List UInt8} (h : Rat w b p g a z x bs) (i : Nat) : w.frozen? ⟨b, i, none⟩ = false := frozen_of_row w b i _ _ h.2.2.1
theorem Rat.mat {w : World} {b p g a z x : Nat} {bs : List UInt8} (h : Rat w b p g a z x bs) : Mat 112 w p g bs := h.2.2.2.1
theorem Rat.bd {w : World} {b p g a z x : Nat} {bs : List UInt8} (h : Rat w b p g a z x bs) : a ≤ x ∧ x ≤ z ∧ z ≤ bs.length ∧ bs.length ≤ 1048576 := ⟨h.2.2.2.2.1, h.2.2.2.2.2.1, h.2.2.2.2.2.2, h.mat.2.2.2⟩
theorem Rat.lt {w : World} {b p g a z x : Nat} {bs : List UInt8} (h : Rat w b p g a z x bs) : b < w.heap.size ∧ p < w.heap.size ∧ g < w.heap.size := ⟨lt_of_block h.2.2.1, h.mat.lt⟩
theorem Rat.fr {S : Nat → Prop} {w w' : World} {b p g a z x : Nat} {bs : List UInt8} (h : Rat w b p g a z x bs) (f : Fr S w w') (hb : ¬ S b) (hp : ¬ S p) (hg : ¬ S g) : Rat w' b p g a z x bs :=
  ⟨h.1, h.2.1, f.obj h.2.2.1 hb, h.mat.fr f hp hg, h.2.2.2.2⟩
/-- The space behind a write into its memory. -/
theorem Rat.wrote {w w' : World} {b p g a z x : Nat} {bs cs : List UInt8} (h : Rat w b p g a z x bs) (f : Only g w w') (hm : Mat 112 w' p g cs) (hl : cs.length = bs.length) : Rat w' b p g a z x cs :=
  ⟨h.1, h.2.1, f.obj h.2.2.1 h.2.1, hm, h.2.2.2.2.1, h.2.2.2.2.2.1, by rw [hl]; exact h.2.2.2.2.2.2⟩
/-- The space behind a step of what is allocated. -/
theorem Rat.move {w : World} {b p g a z x : Nat} {bs : List UInt8} (h : Rat w b p g a z x bs) (y : Nat) (ha : a ≤ y) (hz : y ≤ z) : Rat (w.setCell ⟨b, 3, none⟩ (.int .i64 y)) b p g a z y bs := by
  refine ⟨h.1, h.2.1, ?_, ⟨h.mat.1, ?_, ?_, h.mat.2.2.2⟩, ha, hz, h.2.2.2.2.2.2⟩
  · rw [heap_setCell_same w b 3 _ _ _ h.2.2.1]
    rfl
  · rw [heap_setCell_other w ⟨b, 3, none⟩ p _ (Ne.symm h.1)]
    exact h.mat.2.1
  · rw [heap_setCell_other w ⟨b, 3, none⟩ g _ (Ne.symm h.2.1)]
    exact h.mat.2.2.1

theorem Rat.drew {w : World} {b p g a z x : Nat} {bs : List UInt8} (h : Rat w b p g a z x bs) : Rat w.drew b p g a z x bs := h

set_option maxRecDepth 100000 in
set_option maxHeartbeats 1000000 in
theorem room_any (b p g a z x : Nat) (bs : List UInt8) (w : World) (h : Rat w b p g a z x bs) :
    Calls Try.prog 104 #[.pointer (some ⟨b, 0, none⟩), .int .i64 8] w fun e w' => e = .returned (.bool (decide (x + 8 ≤ z))) ∧ Rat w' b p g a z x bs ∧ Fr (fun _ => False) w w' := by
  obtain ⟨h0, h1, h2, h3⟩ := h.cells
  have hb := h.bd
  have HS := Lib.hid (fun n => (show Rat (w.drewN n) b p g a z x bs from h))
  have hbd : x ≤ 1048576 ∧ z ≤ 1048576 := by omega
  have hxz : x ≤ z := hb.2.1
  have hd : decide (x + 8 ≤ z) = decide ((8 : Int) ≤ (z : Int) - (x : Int)) := by
    by_cases hh : x + 8 ≤ z
    · rw [decide_eq_true hh, decide_eq_true (by omega)]
    · rw [decide_eq_false hh, decide_eq_false (by omega)]
  rw [hd]
  clear h hb hd
  go_enter Try.func104, Try.ntmps104
  go_wp2
  go_quiet (fail)
  go_wp2
  go_ret
  exact ⟨rfl, HS.out _, Fr.drewN (Fr.refl _ _) _⟩

set_option maxRecDepth 100000 in
set_option maxHeartbeats 1000000 in
theorem rcomma_full (b p g a z x : Nat) (bs : List UInt8) (n : Int) (w : World) (h : Rat w b p g a z x bs) (hz : ¬ x + 8 ≤ z) :
    Calls Try.prog 62 #[.pointer (some ⟨b, 0, none⟩), .int .i64 n] w
      fun e w' => e = .returned (.int .i64 (-8)) ∧ Rat w' b p g a z x bs ∧ Fr (fun _ => False) w w' := by
  have HR := Lib.hid (room_any b p g a z x bs w h)
  rw [decide_eq_false hz] at HR
  clear h hz
  go_enter Try.func62, Try.ntmps62
  go_wp2_with (go_at_call 104; refine HR.out.mono ?_; rintro e w1 ⟨rfl, hs, hf⟩; have HS1 := Lib.hid hs; have HF1 := Lib.hid hf; clear hs hf)
  go_ret
  exact ⟨rfl, HS1.out, HF1.out⟩

set_option maxRecDepth 100000 in
set_option maxHeartbeats 1000000 in
theorem rcomma_ok (b p g a z x : Nat) (bs : List UInt8) (n : Int) (w : World) (h : Rat w b p g a z x bs) (h8 : x % 8 = 0) (hz : x + 8 ≤ z) :
    Calls Try.prog 62 #[.pointer (some ⟨b, 0, none⟩), .int .i64 n] w
      fun e w' => e = .returned (.int .i64 0) ∧ Rat w' b p g a z (x + 8) (setv bs x n) ∧ Both b g w w' := by
  have HR := Lib.hid (room_any b p g a z x bs w h)
  rw [decide_eq_true hz] at HR
  have hb := h.bd
  have hc0 : code bs.length (x : Int) = 0 := by rw [code_in (by omega), if_pos h8]
  have hset : setc bs x n = setv bs x n := by unfold setc; rw [if_pos hc0]; rfl
  have HC := Lib.hid (fun w h => rsetCell_any p g bs x n w h)
  rw [hc0, hset] at HC
  have HL := Lib.hid (setv_length bs x n)
  have hbd : x ≤ 1048576 ∧ z ≤ 1048576 := by omega
  have HB := Lib.hid hb
  have HZ := Lib.hid hz
  clear h hb h8 hc0 hset hz
  go_enter Try.func62, Try.ntmps62
  go_wp2_with (go_at_call 104; refine HR.out.mono ?_; rintro e w1 ⟨rfl, hs, hf⟩; obtain ⟨q0, q1, q2, q3⟩ := hs.cells; have HS1 := Lib.hid hs; have HF1 := Lib.hid hf; clear hs hf)
  go_region_with (go_at_call 16; refine (HC.out _ (Mat.drew HS1.out.mat)).mono ?_; rintro e w2 ⟨rfl, hm, hf⟩; have hS2 := HS1.out.wrote (Fr.undrew hf) hm HL.out; obtain ⟨k0, k1, k2, k3⟩ := hS2.cells; have k4 := hS2.free 3; have HS2 := Lib.hid hS2; have HF2 := Lib.hid (Fr.undrew hf); clear hS2 hm hf)
  all_goals
    go_wp2
    go_ret
    refine ⟨rfl, HS2.out.move (x + 8) (by have := HB.out; omega) HZ.out, ?_⟩
    refine Fr.setCell (S := fun j => j = b ∨ j = g) ?_ (.inr (.inl rfl)) _
    exact (Fr.some HF1.out fun _ e => e.elim).trans (Fr.some HF2.out fun _ e => .inr e)

set_option maxRecDepth 100000 in
set_option maxHeartbeats 1000000 in
theorem ralign_ok (b p g a z x : Nat) (bs : List UInt8) (w : World) (h : Rat w b p g a z x bs) (h8 : x % 8 = 0) :
    Calls Try.prog 61 #[.pointer (some ⟨b, 0, none⟩)] w fun e w' => e = .returned (.int .i64 0) ∧ w' = w := by
  obtain ⟨q0, q1, q2, q3⟩ := h.cells
  have h8' : ((x : Int) % 8 != 0) = false := by
    have : (x : Int) % 8 = 0 := by omega
    simp [this]
  clear h
  go_enter Try.func61, Try.ntmps61
  go_wp2
  go_loop [2] (fun v => v = .int .i64 0) (fun _ => 0)
  case atStart => rfl
  case round =>
    subst hrel
    go_wp2
    go_ret
    exact ⟨rfl, rfl⟩
end Go.Proofs.Ytajeiccfgnpbpaa.Mem
