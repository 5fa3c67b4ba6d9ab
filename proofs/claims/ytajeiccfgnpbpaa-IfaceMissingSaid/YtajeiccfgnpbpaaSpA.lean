/- Contracts of package space: a part of a memory that is allocated from its start on. -/
import Derived.Test.YtajeiccfgnpbpaaMemC
import Derived.Deep.RegionWith
namespace Go.Proofs.Ytajeiccfgnpbpaa.Mem
open Go.RowKit

/-- At b lies a space of the memory at p (bytes at g), from a to z, allocated up to x. -/
def Sat (w : World) (b p g a z x : Nat) (bs : List UInt8) : Prop :=
  b ≠ p ∧ b ≠ g ∧ w.heap[b]? = some (.cells #[.pointer (some ⟨p, 0, none⟩), .int .i64 a, .int .i64 z, .int .i64 x] 110 (0, 0)) ∧ Mat 108 w p g bs ∧ a ≤ x ∧ x ≤ z ∧ z ≤ bs.length

theorem Sat.cells {w : World} {b p g a z x : Nat} {bs : List UInt8} (h : Sat w b p g a z x bs) :
    w.cell? ⟨b, 0, none⟩ = some (.pointer (some ⟨p, 0, none⟩)) ∧ w.cell? ⟨b, 1, none⟩ = some (.int .i64 a) ∧ w.cell? ⟨b, 2, none⟩ = some (.int .i64 z) ∧ w.cell? ⟨b, 3, none⟩ = some (.int .i64 x) := by
  refine ⟨?_, ?_, ?_, ?_⟩ <;> rw [cell_of_row w b _ _ _ _ h.2.2.1] <;> rfl
theorem Sat.free {w : World} {b p g a z x : Nat} {bs : List UInt8} (h : Sat w b p g a z x bs) (i : Nat) : w.frozen? ⟨b, i, none⟩ = false := frozen_of_row w b i _ _ h.2.2.1
theorem Sat.mat {w : World} {b p g a z x : Nat} {bs : List UInt8} (h : Sat w b p g a z x bs) : Mat 108 w p g bs := h.2.2.2.1
theorem Sat.bd {w : World} {b p g a z x : Nat} {bs : List UInt8} (h : Sat w b p g a z x bs) : a ≤ x ∧ x ≤ z ∧ z ≤ bs.length ∧ bs.length ≤ 1048576 := ⟨h.2.2.2.2.1, h.2.2.2.2.2.1, h.2.2.2.2.2.2, h.mat.2.2.2⟩
theorem Sat.lt {w : World} {b p g a z x : Nat} {bs : List UInt8} (h : Sat w b p g a z x bs) : b < w.heap.size ∧ p < w.heap.size ∧ g < w.heap.size := ⟨lt_of_block h.2.2.1, h.mat.lt⟩
theorem Sat.fr {S : Nat → Prop} {w w' : World} {b p g a z x : Nat} {bs : List UInt8} (h : Sat w b p g a z x bs) (f : Fr S w w') (hb : ¬ S b) (hp : ¬ S p) (hg : ¬ S g) : Sat w' b p g a z x bs :=
  ⟨h.1, h.2.1, f.obj h.2.2.1 hb, h.mat.fr f hp hg, h.2.2.2.2⟩
/-- The space behind a write into its memory. -/
theorem Sat.wrote {w w' : World} {b p g a z x : Nat} {bs cs : List UInt8} (h : Sat w b p g a z x bs) (f : Only g w w') (hm : Mat 108 w' p g cs) (hl : cs.length = bs.length) : Sat w' b p g a z x cs :=
  ⟨h.1, h.2.1, f.obj h.2.2.1 h.2.1, hm, h.2.2.2.2.1, h.2.2.2.2.2.1, by rw [hl]; exact h.2.2.2.2.2.2⟩
/-- The space behind a step of what is allocated. -/
theorem Sat.move {w : World} {b p g a z x : Nat} {bs : List UInt8} (h : Sat w b p g a z x bs) (y : Nat) (ha : a ≤ y) (hz : y ≤ z) : Sat (w.setCell ⟨b, 3, none⟩ (.int .i64 y)) b p g a z y bs := by
  refine ⟨h.1, h.2.1, ?_, ⟨h.mat.1, ?_, ?_, h.mat.2.2.2⟩, ha, hz, h.2.2.2.2.2.2⟩
  · rw [heap_setCell_same w b 3 _ _ _ h.2.2.1]
    rfl
  · rw [heap_setCell_other w ⟨b, 3, none⟩ p _ (Ne.symm h.1)]
    exact h.mat.2.1
  · rw [heap_setCell_other w ⟨b, 3, none⟩ g _ (Ne.symm h.2.1)]
    exact h.mat.2.2.1

set_option maxHeartbeats 400000 in
theorem here_any (b p g a z x : Nat) (bs : List UInt8) (w : World) (h : Sat w b p g a z x bs) :
    Calls Try.prog 21 #[.pointer (some ⟨b, 0, none⟩)] w fun e w' => e = .returned (.int .i64 x) ∧ w' = w := by
  obtain ⟨h0, h1, h2, h3⟩ := h.cells
  clear h
  go_enter Try.func21, Try.ntmps21
  go_wp2
  go_ret
  exact ⟨rfl, rfl⟩

set_option maxRecDepth 100000 in
set_option maxHeartbeats 1000000 in
theorem snew_ok (p g a z : Nat) (bs : List UInt8) (w : World) (h : Mat 108 w p g bs) (ha : a ≤ z) (hz : z ≤ bs.length) :
    Calls Try.prog 11 #[.pointer (some ⟨p, 0, none⟩), .int .i64 a, .int .i64 z] w fun e w' => e = .returned (.tuple #[.pointer (some ⟨w.heap.size, 0, none⟩), .int .i64 0]) ∧ Sat w' w.heap.size p g a z a bs ∧ Fr (fun _ => False) w w' := by
  have HS := Lib.hid (fun w h => size_any p g bs w h)
  have H := Lib.hid h
  have hl := h.lt
  have hn := h.2.2.2
  have HN := Lib.hid (show a ≤ a ∧ a ≤ z ∧ z ≤ bs.length from ⟨Nat.le_refl _, ha, hz⟩)
  obtain ⟨nb, hnn⟩ : ∃ nb, bs.length = nb := ⟨_, rfl⟩
  rw [hnn] at hz HS hn
  clear h hnn
  have hA := heap_alloc_last w (.cells #[.pointer (some ⟨p, 0, none⟩), .int .i64 a, .int .i64 z, .int .i64 a] 110)
  have hL := Lib.hid hl
  clear hl
  go_enter Try.func11, Try.ntmps11
  go_wp2_with (go_at_call 51; refine (HS.out _ H.out).mono ?_; rintro e w' ⟨rfl, rfl⟩)
  go_ret2
  have hl := hL.out
  exact ⟨rfl, ⟨by omega, by omega, hA, H.out.fr (Fr.alloc (S := fun _ => False) (Fr.refl _ _) _) id id, HN.out⟩, Fr.alloc (Fr.refl _ _) _⟩

set_option maxRecDepth 100000 in
set_option maxHeartbeats 1000000 in
theorem back_ok (b p g a z x : Nat) (y : Nat) (bs : List UInt8) (w : World) (h : Sat w b p g a z x bs) (ha : a ≤ y) (hx : y ≤ x) :
    Calls Try.prog 60 #[.pointer (some ⟨b, 0, none⟩), .int .i64 y] w fun e w' => e = .returned (.int .i64 0) ∧ Sat w' b p g a z y bs ∧ Fr (fun j => j = b) w w' := by
  obtain ⟨h0, h1, h2, h3⟩ := h.cells
  have hf := h.free 3
  have hb := h.bd
  have HM := Lib.hid (h.move y ha (by omega))
  have hbd : y ≤ 1048576 ∧ x ≤ 1048576 ∧ a ≤ 1048576 := by omega
  clear h
  go_enter Try.func60, Try.ntmps60
  go_wp2
  go_ret
  exact ⟨rfl, HM.out, (Fr.refl _ _).setOne _ _⟩
end Go.Proofs.Ytajeiccfgnpbpaa.Mem
