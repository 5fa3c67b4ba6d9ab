/- Several texts in one: SpA, SpB, TabA. -/
import Derived.Test.YtajeiccfgnpbpaaQb
import Derived.Deep.RegionWith
import Derived.Test.YtajeiccfgnpbpaaQa
set_option linter.unusedSimpArgs false
set_option linter.unusedVariables false
/- Contracts of package space: a part of a memory that is allocated from its start on. -/
namespace Go.Proofs.Ytajeiccfgnpbpaa.Mem
open Go.RowKit

/-- At b lies a space of the memory at p (bytes at g), from a to z, allocated up to x. -/
def Sat (w : World) (b p g a z x : Nat) (bs : List UInt8) : Prop :=
  b ≠ p ∧ b ≠ g ∧ w.heap[b]? = some (.cells #[.pointer (some ⟨p, 0, none⟩), .int .i64 a, .int .i64 z, .int .i64 x] 110 (0, 0)) ∧ Mat 108 w p g bs ∧ a ≤ x ∧ x ≤ z ∧ z ≤ bs.length

theorem Sat.cells {w : World} {b p g a z x : Nat} {bs : List UInt8} (h : Sat w b p g a z x bs) :
    w.cell? ⟨b, 0, none⟩ = some (.pointer (some ⟨p, 0, none⟩)) ∧ w.cell? ⟨b, 1, none⟩ = some (.int .i64 a) ∧ w.cell? ⟨b, 2, none⟩ = some (.int .i64 z) ∧ w.cell? ⟨b, 3, none⟩ = some (.int .i64 x) := by
  refine ⟨?_, ?_, ?_, ?_⟩ <;> rw [cell_of_row w b _ _ _ _ h.2.2.1] <;> rfl
theorem Sat.free {w : World} {b p g a z x : Nat} {bs : List UInt8} (h : Sat w b p g a z x bs) (i : Nat) : w.frozen? ⟨b, i, none⟩ = false := frozen_of_row w b i _ _ h.2.2.1
theorem Sat.mat {w : World} {b p g a z x : Nat} {bs : List UInt8} (h : Sat w b p g a z x bs) : Mat 108 w p g bs := h.2.2.2.1
theorem Sat.bd {w : World} {b p g a z x : Nat} {bs : List UInt8} (h : Sat w b p g a z x bs) : a ≤ x ∧ x ≤ z ∧ z ≤ bs.length ∧ bs.length ≤ 1048576 := ⟨h.2.2.2.2.1, h.2.2.2.2.2.1, h.2.2.2.2.2.2, h.mat.2.2.2⟩
theorem Sat.lt {w : World} {b p g a z x : Nat} {bs : List UInt8} (h : Sat w b p g a z x bs) : b < w.heap.size ∧ p < w.heap.size ∧ g < w.heap.size := ⟨lt_of_block h.2.2.1, h.mat.lt⟩
theorem Sat.fr {S : Nat → Prop} {w w' : World} {b p g a z x : Nat} {bs : List UInt8} (h : Sat w b p g a z x bs) (f : Fr S w w') (hb : ¬ S b) (hp : ¬ S p) (hg : ¬ S g) : Sat w' b p g a z x bs :=
  ⟨h.1, h.2.1, f.obj h.2.2.1 hb, h.mat.fr f hp hg, h.2.2.2.2⟩
/-- The space behind a write into its memory. -/
theorem Sat.wrote {w w' : World} {b p g a z x : Nat} {bs cs : List UInt8} (h : Sat w b p g a z x bs) (f : Only g w w') (hm : Mat 108 w' p g cs) (hl : cs.length = bs.length) : Sat w' b p g a z x cs :=
  ⟨h.1, h.2.1, f.obj h.2.2.1 h.2.1, hm, h.2.2.2.2.1, h.2.2.2.2.2.1, by rw [hl]; exact h.2.2.2.2.2.2⟩
/-- The space behind a step of what is allocated. -/
theorem Sat.move {w : World} {b p g a z x : Nat} {bs : List UInt8} (h : Sat w b p g a z x bs) (y : Nat) (ha : a ≤ y) (hz : y ≤ z) : Sat (w.setCell ⟨b, 3, none⟩ (.int .i64 y)) b p g a z y bs := by
  refine ⟨h.1, h.2.1, ?_, ⟨h.mat.1, ?_, ?_, h.mat.2.2.2⟩, ha, hz, h.2.2.2.2.2.2⟩
  · rw [heap_setCell_same w b 3 _ _ _ h.2.2.1]
    rfl
  · rw [heap_setCell_other w ⟨b, 3, none⟩ p _ (Ne.symm h.1)]
    exact h.mat.2.1
  · rw [heap_setCell_other w ⟨b, 3, none⟩ g _ (Ne.symm h.2.1)]
    exact h.mat.2.2.1

set_option maxHeartbeats 400000 in
theorem here_any (b p g a z x : Nat) (bs : List UInt8) (w : World) (h : Sat w b p g a z x bs) :
    Calls Try.prog 21 #[.pointer (some ⟨b, 0, none⟩)] w fun e w' => e = .returned (.int .i64 x) ∧ w' = w := by
  obtain ⟨h0, h1, h2, h3⟩ := h.cells
  clear h
  go_enter Try.func21, Try.ntmps21
  go_wp2
  go_ret
  exact ⟨rfl, rfl⟩

set_option maxRecDepth 100000 in
set_option maxHeartbeats 1000000 in
theorem snew_ok (p g a z : Nat) (bs : List UInt8) (w : World) (h : Mat 108 w p g bs) (ha : a ≤ z) (hz : z ≤ bs.length) :
    Calls Try.prog 11 #[.pointer (some ⟨p, 0, none⟩), .int .i64 a, .int .i64 z] w fun e w' => e = .returned (.tuple #[.pointer (some ⟨w.heap.size, 0, none⟩), .int .i64 0]) ∧ Sat w' w.heap.size p g a z a bs ∧ Fr (fun _ => False) w w' := by
  have HS := Lib.hid (fun w h => size_any p g bs w h)
  have H := Lib.hid h
  have hl := h.lt
  have hn := h.2.2.2
  have HN := Lib.hid (show a ≤ a ∧ a ≤ z ∧ z ≤ bs.length from ⟨Nat.le_refl _, ha, hz⟩)
  obtain ⟨nb, hnn⟩ : ∃ nb, bs.length = nb := ⟨_, rfl⟩
  rw [hnn] at hz HS hn
  clear h hnn
  have hA := heap_alloc_last w (.cells #[.pointer (some ⟨p, 0, none⟩), .int .i64 a, .int .i64 z, .int .i64 a] 110)
  have hL := Lib.hid hl
  clear hl
  go_enter Try.func11, Try.ntmps11
  go_wp2_with (go_at_call 51; refine (HS.out _ H.out).mono ?_; rintro e w' ⟨rfl, rfl⟩)
  go_ret2
  have hl := hL.out
  exact ⟨rfl, ⟨by omega, by omega, hA, H.out.fr (Fr.alloc (S := fun _ => False) (Fr.refl _ _) _) id id, HN.out⟩, Fr.alloc (Fr.refl _ _) _⟩

set_option maxRecDepth 100000 in
set_option maxHeartbeats 1000000 in
theorem back_ok (b p g a z x : Nat) (y : Nat) (bs : List UInt8) (w : World) (h : Sat w b p g a z x bs) (ha : a ≤ y) (hx : y ≤ x) :
    Calls Try.prog 60 #[.pointer (some ⟨b, 0, none⟩), .int .i64 y] w fun e w' => e = .returned (.int .i64 0) ∧ Sat w' b p g a z y bs ∧ Fr (fun j => j = b) w w' := by
  obtain ⟨h0, h1, h2, h3⟩ := h.cells
  have hf := h.free 3
  have hb := h.bd
  have HM := Lib.hid (h.move y ha (by omega))
  have hbd : y ≤ 1048576 ∧ x ≤ 1048576 ∧ a ≤ 1048576 := by omega
  clear h
  go_enter Try.func60, Try.ntmps60
  go_wp2
  go_ret
  exact ⟨rfl, HM.out, (Fr.refl _ _).setOne _ _⟩
end Go.Proofs.Ytajeiccfgnpbpaa.Mem

/- Contracts of package space: a cell, a byte. -/
namespace Go.Proofs.Ytajeiccfgnpbpaa.Mem
open Go.RowKit

theorem Fr.undrew {S : Nat → Prop} {w w' : World} (h : Fr S w.drew w') : Fr S w w' := ⟨h.os, h.tape, h.output, h.size, h.block⟩
theorem Mat.drew {t : TypeId} {w : World} {p g : Nat} {bs : List UInt8} (h : Mat t w p g bs) : Mat t w.drew p g bs := h
theorem Sat.drew {w : World} {b p g a z x : Nat} {bs : List UInt8} (h : Sat w b p g a z x bs) : Sat w.drew b p g a z x bs := h

set_option maxRecDepth 100000 in
set_option maxHeartbeats 1000000 in
theorem comma1_any (b p g a z x c1 c2 : Nat) (bs : List UInt8) (y n : Int) (w : World) (h : Sat w b p g a z x bs) (h1 : w.cell? ⟨c1, 0, none⟩ = some (.pointer (some ⟨b, 0, none⟩))) (h2 : w.cell? ⟨c2, 0, none⟩ = some (.int .i64 n)) :
    Calls Try.prog 122 #[.int .i64 y, .pointer (some ⟨c1, 0, none⟩), .pointer (some ⟨c2, 0, none⟩)] w fun e w' => e = .returned (.int .i64 (code bs.length y)) ∧ Mat 108 w' p g (setc bs y n) ∧ Only g w w' := by
  have h0 := h.cells.1
  have HC := Lib.hid (fun w h => setCell_any p g bs y n w h)
  have HM := Lib.hid h.mat
  clear h
  go_enter Try.func122, Try.ntmps122
  go_wp2
  go_region_with (go_at_call 15; refine (HC.out _ HM.out.drew).mono ?_; rintro e w' ⟨rfl, hm, hf⟩)
  all_goals
    go_wp2
    go_ret
    exact ⟨rfl, hm, Fr.undrew hf⟩

/-- Only the space's own cells, and the bytes, may have been written. -/
abbrev Both (b g : Nat) := Fr fun j => j = b ∨ j = g

theorem Fr.drewN' {S : Nat → Prop} {w w' : World} (n : Nat) (h : Fr S (w.drewN n) w') : Fr S w w' := ⟨h.os, h.tape, h.output, h.size, h.block⟩

set_option maxRecDepth 100000 in
set_option maxHeartbeats 1000000 in
theorem put_full (b p g a z x : Nat) (bs : List UInt8) (f : Value) (w : World) (h : Sat w b p g a z x bs) (hz : ¬ x + 8 ≤ z) :
    Calls Try.prog 121 #[.pointer (some ⟨b, 0, none⟩), .int .i64 8, f] w fun e w' => e = .returned (.int .i64 (-8)) ∧ Sat w' b p g a z x bs ∧ Fr (fun _ => False) w w' := by
  obtain ⟨h0, h1, h2, h3⟩ := h.cells
  have hb := h.bd
  have HS := Lib.hid (fun n => (show Sat (w.drewN n) b p g a z x bs from h))
  have hzz : ¬ (8 : Int) ≤ (z : Int) - (x : Int) := by omega
  have hbd : x ≤ 1048576 ∧ z ≤ 1048576 := by omega
  have hxz : x ≤ z := hb.2.1
  clear h hb hz
  go_enter Try.func121, Try.ntmps121
  go_wp2
  go_quiet (fail)
  go_wp2
  go_ret
  exact ⟨rfl, HS.out _, Fr.drewN (Fr.refl _ _) _⟩

set_option maxRecDepth 100000 in
set_option maxHeartbeats 1000000 in
theorem put_comma (b p g a z x c1 c2 : Nat) (bs : List UInt8) (n : Int) (w : World) (h : Sat w b p g a z x bs) (h8 : x % 8 = 0) (hz : x + 8 ≤ z)
    (k1 : w.cell? ⟨c1, 0, none⟩ = some (.pointer (some ⟨b, 0, none⟩))) (k2 : w.cell? ⟨c2, 0, none⟩ = some (.int .i64 n)) :
    Calls Try.prog 121 #[.pointer (some ⟨b, 0, none⟩), .int .i64 8, .func (.func 122) #[] #[.pointer (some ⟨c1, 0, none⟩), .pointer (some ⟨c2, 0, none⟩)]] w
      fun e w' => e = .returned (.int .i64 0) ∧ Sat w' b p g a z (x + 8) (setv bs x n) ∧ Both b g w w' := by
  obtain ⟨h0, h1, h2, h3⟩ := h.cells
  have hb := h.bd
  have hc0 : code bs.length (x : Int) = 0 := by rw [code_in (by omega), if_pos h8]
  have hset : setc bs x n = setv bs x n := by unfold setc; rw [if_pos hc0]; rfl
  have HC := Lib.hid (fun w h k1 k2 => comma1_any b p g a z x c1 c2 bs x n w h k1 k2)
  rw [hc0, hset] at HC
  have HS := Lib.hid (fun n => (show Sat (w.drewN n) b p g a z x bs from h))
  have HK := Lib.hid (And.intro k1 k2)
  have hzz : (8 : Int) ≤ (z : Int) - (x : Int) := by omega
  have hbd : x ≤ 1048576 ∧ z ≤ 1048576 := by omega
  have HL := Lib.hid (setv_length bs x n)
  have HB := Lib.hid hb
  clear h hb h8 hc0 hset k1 k2
  go_enter Try.func121, Try.ntmps121
  go_wp2
  go_quiet (fail)
  go_wp2_with (go_at_call 122; refine (HC.out _ (HS.out _) HK.out.1 HK.out.2).mono ?_; rintro e w' ⟨rfl, hm, hf⟩; have hS2 := (HS.out _).wrote hf hm HL.out; obtain ⟨q0, q1, q2, q3⟩ := hS2.cells; have q4 := hS2.free 3; have HS2 := Lib.hid hS2; have HF := Lib.hid hf; clear hS2 hm hf)
  go_ret
  refine ⟨rfl, HS2.out.move (x + 8) (by have := HB.out; omega) hz, ?_⟩
  refine Fr.setCell (S := fun j => j = b ∨ j = g) ?_ (.inr (.inl rfl)) _
  exact (Fr.drewN' _ HF.out).mono fun k _ e => .inr e

/-- Two new blocks of one cell each. -/
theorem two_new (w : World) (u v : Value) (t s : TypeId) : ((w.alloc (.cells #[u] t)).alloc (.cells #[v] s)).cell? ⟨w.heap.size, 0, none⟩ = some u ∧ ((w.alloc (.cells #[u] t)).alloc (.cells #[v] s)).cell? ⟨w.heap.size + 1, 0, none⟩ = some v := by
  have hs : (w.alloc (.cells #[u] t)).heap.size = w.heap.size + 1 := by simp
  refine ⟨cell_of_one (t := t) ?_, cell_of_one (t := s) ?_⟩
  · rw [Below.heap_alloc _ _ _ (by omega)]
    exact heap_alloc_last _ _
  · have := heap_alloc_last (w.alloc (.cells #[u] t)) (.cells #[v] s)
    rw [hs] at this
    exact this

set_option maxRecDepth 100000 in
set_option maxHeartbeats 1000000 in
theorem comma_ok (b p g a z x : Nat) (bs : List UInt8) (n : Int) (w : World) (h : Sat w b p g a z x bs) (h8 : x % 8 = 0) (hz : x + 8 ≤ z) :
    Calls Try.prog 102 #[.pointer (some ⟨b, 0, none⟩), .int .i64 n] w
      fun e w' => e = .returned (.int .i64 0) ∧ Sat w' b p g a z (x + 8) (setv bs x n) ∧ Both b g w w' := by
  have hmf : ∀ (fn : Fn) (first cap : Array Value) (w : World), (Instr.makeFunc fn first cap).run Try.prog w = .ok (.func fn first cap) w := fun _ _ _ _ => rfl
  have hF : Fr (fun _ => False) w ((w.alloc (.cells #[.pointer (some ⟨b, 0, none⟩)] 28)).alloc (.cells #[.int .i64 n] 2)) := ((Fr.refl _ _).alloc _).alloc _
  have hcl := two_new w (.pointer (some ⟨b, 0, none⟩)) (.int .i64 n) 28 2
  have HP := Lib.hid (put_comma b p g a z x w.heap.size (w.heap.size + 1) bs n _ (h.fr hF id id id) h8 hz hcl.1 hcl.2)
  have hc1 := hcl.1
  have HF := Lib.hid hF
  clear h hcl hF
  go_enter Try.func102, Try.ntmps102
  go_wp2_with (go_at_call 121; refine HP.out.mono ?_; rintro e w' ⟨rfl, hs, hf⟩)
  go_ret
  exact ⟨rfl, hs, Fr.trans (HF.out.mono fun _ _ e => e.elim) hf⟩

set_option maxRecDepth 100000 in
set_option maxHeartbeats 1000000 in
theorem comma_full (b p g a z x : Nat) (bs : List UInt8) (n : Int) (w : World) (h : Sat w b p g a z x bs) (hz : ¬ x + 8 ≤ z) :
    Calls Try.prog 102 #[.pointer (some ⟨b, 0, none⟩), .int .i64 n] w
      fun e w' => e = .returned (.int .i64 (-8)) ∧ Sat w' b p g a z x bs ∧ Fr (fun _ => False) w w' := by
  have hmf : ∀ (fn : Fn) (first cap : Array Value) (w : World), (Instr.makeFunc fn first cap).run Try.prog w = .ok (.func fn first cap) w := fun _ _ _ _ => rfl
  have hF : Fr (fun _ => False) w ((w.alloc (.cells #[.pointer (some ⟨b, 0, none⟩)] 28)).alloc (.cells #[.int .i64 n] 2)) := ((Fr.refl _ _).alloc _).alloc _
  have hcl := two_new w (.pointer (some ⟨b, 0, none⟩)) (.int .i64 n) 28 2
  have HP := Lib.hid (fun f => put_full b p g a z x bs f _ (h.fr hF id id id) hz)
  have hc1 := hcl.1
  have HF := Lib.hid hF
  clear h hcl hF
  go_enter Try.func102, Try.ntmps102
  go_wp2_with (go_at_call 121; refine (HP.out _).mono ?_; rintro e w' ⟨rfl, hs, hf⟩)
  go_ret
  exact ⟨rfl, hs, HF.out.trans hf⟩

set_option maxRecDepth 100000 in
set_option maxHeartbeats 1000000 in
theorem align_ok (b p g a z x : Nat) (bs : List UInt8) (w : World) (h : Sat w b p g a z x bs) (h8 : x % 8 = 0) :
    Calls Try.prog 101 #[.pointer (some ⟨b, 0, none⟩)] w fun e w' => e = .returned (.int .i64 0) ∧ w' = w := by
  have HC := Lib.hid (here_any b p g a z x bs w h)
  have h8' : ((x : Int) % 8 != 0) = false := by
    have : (x : Int) % 8 = 0 := by omega
    simp [this]
  clear h
  go_enter Try.func101, Try.ntmps101
  go_wp2
  go_loop [2] (fun v => v = .int .i64 0) (fun _ => 0)
  case atStart => rfl
  case round =>
    subst hrel
    go_wp2_with (go_at_call 21; refine HC.out.mono ?_; rintro e w' ⟨rfl, rfl⟩)
    go_ret
    exact ⟨rfl, rfl⟩
end Go.Proofs.Ytajeiccfgnpbpaa.Mem

/- Contracts of package table: what reads. -/
namespace Go.Proofs.Ytajeiccfgnpbpaa.Mem
open Go.RowKit

set_option maxHeartbeats 400000 in
theorem tsize_any (n : Int) (h : 0 ≤ n ∧ n ≤ 1048576) (w : World) :
    Calls Try.prog 53 #[.int .i64 n] w fun e w' => e = .returned (.int .i64 (16 + n * 24)) ∧ w' = w := by
  go_enter Try.func53, Try.ntmps53
  go_wp2
  go_ret
  exact ⟨rfl, rfl⟩

set_option maxHeartbeats 400000 in
theorem slot_any (t i : Int) (h : 0 ≤ t ∧ t ≤ 1048576 ∧ 0 ≤ i ∧ i ≤ 1048576) (w : World) :
    Calls Try.prog 105 #[.int .i64 t, .int .i64 i] w fun e w' => e = .returned (.int .i64 (slotAt t i)) ∧ w' = w := by
  unfold slotAt
  go_enter Try.func105, Try.ntmps105
  go_wp2
  go_ret
  exact ⟨rfl, rfl⟩

theorem cell_bd (bs : List UInt8) (a : Int) : -9223372036854775808 ≤ (cell bs a).1 ∧ (cell bs a).1 ≤ 9223372036854775807 := by
  unfold cell; split
  · simp only [cellv, wrap64]; omega
  · simp

set_option maxRecDepth 100000 in
set_option maxHeartbeats 1000000 in
theorem slots_any (p g : Nat) (bs : List UInt8) (t : Int) (w : World) (h : Mat 108 w p g bs) :
    Calls Try.prog 50 #[.pointer (some ⟨p, 0, none⟩), .int .i64 t] w fun e w' => e = .returned (.int .i64 (slots bs t)) ∧ w' = w := by
  have HC := Lib.hid (cell_any p g bs t w h)
  have H := Lib.hid h
  have hb := cell_bd bs t
  obtain ⟨c, d, hcd⟩ : ∃ c d, cell bs t = (c, d) := ⟨_, _, rfl⟩
  rw [hcd] at HC hb
  unfold slots
  rw [hcd]
  by_cases h1 : d = 0
  · have h1' : (d != 0) = false := by simp [h1]
    by_cases h2 : 1 ≤ c
    · by_cases h3 : c ≤ 1024
      · have HS := Lib.hid (fun w => tsize_any c (by omega) w)
        have HT := Lib.hid (fun w h => text_any p g bs t (16 + c * 24) w h (by omega) (by omega))
        clear h hcd
        subst h1
        by_cases h4 : has bs.length t (16 + 24 * c) = true
        · have ht2 : (txt bs t (16 + c * 24)).2 = 0 := by unfold txt; rw [if_pos (by rw [Int.mul_comm]; exact h4)]
          rw [ht2] at HT
          obtain ⟨s, hs⟩ : ∃ s : ByteArray, ⟨(txt bs t (16 + c * 24)).1.toArray⟩ = s := ⟨_, rfl⟩
          rw [hs] at HT
          rw [if_pos ⟨rfl, h2, h3, h4⟩]
          clear ht2 hs h4 h1'
          go_enter Try.func50, Try.ntmps50
          go_wp2_with (first | (go_at_call 46; refine HC.out.mono ?_; rintro e w' ⟨rfl, rfl⟩) | (go_at_call 53; refine (HS.out _).mono ?_; rintro e w' ⟨rfl, rfl⟩) | (go_at_call 52; refine (HT.out _ H.out).mono ?_; rintro e w' ⟨rfl, rfl⟩))
          go_ret
          exact ⟨rfl, rfl⟩
        · have ht2 : txt bs t (16 + c * 24) = ([], -9) := by unfold txt; rw [if_neg (by rw [Int.mul_comm]; exact h4)]
          rw [ht2] at HT
          rw [if_neg (fun e => h4 e.2.2.2)]
          clear ht2 h4 h1'
          go_enter Try.func50, Try.ntmps50
          go_wp2_with (first | (go_at_call 46; refine HC.out.mono ?_; rintro e w' ⟨rfl, rfl⟩) | (go_at_call 53; refine (HS.out _).mono ?_; rintro e w' ⟨rfl, rfl⟩) | (go_at_call 52; refine (HT.out _ H.out).mono ?_; rintro e w' ⟨rfl, rfl⟩))
          go_ret
          exact ⟨rfl, rfl⟩
      · rw [if_neg (fun e => h3 e.2.2.1)]
        clear h hcd
        go_enter Try.func50, Try.ntmps50
        go_wp2_with (go_at_call 46; refine HC.out.mono ?_; rintro e w' ⟨rfl, rfl⟩)
        go_ret
        exact ⟨rfl, rfl⟩
    · rw [if_neg (fun e => h2 e.2.1)]
      clear h hcd
      go_enter Try.func50, Try.ntmps50
      go_wp2_with (go_at_call 46; refine HC.out.mono ?_; rintro e w' ⟨rfl, rfl⟩)
      go_ret
      exact ⟨rfl, rfl⟩
  · have h1' : (d != 0) = true := by simp [h1]
    rw [if_neg (fun e => h1 e.1)]
    clear h hcd h1
    go_enter Try.func50, Try.ntmps50
    go_wp2_with (go_at_call 46; refine HC.out.mono ?_; rintro e w' ⟨rfl, rfl⟩)
    go_ret
    exact ⟨rfl, rfl⟩

set_option maxRecDepth 100000 in
set_option maxHeartbeats 1000000 in
theorem read_any (p g : Nat) (bs : List UInt8) (a : Int) (w : World) (h : Mat 108 w p g bs) (ha : 0 ≤ a ∧ a ≤ 1048576000) :
    Calls Try.prog 106 #[.pointer (some ⟨p, 0, none⟩), .int .i64 a] w fun e w' => e = .returned (.agg #[.int .i64 (read bs a).sel, .int .i64 (read bs a).xt, .int .i64 (read bs a).cls]) ∧ Fr (fun _ => False) w w' := by
  have HC := Lib.hid (fun a w h => cell_any p g bs a w h)
  have H := Lib.hid h
  clear h
  unfold read
  go_enter Try.func106, Try.ntmps106
  go_wp2_with (go_at_call 46; refine (HC.out _ _ (H.out.fr (Fr.alloc (S := fun _ => False) (Fr.refl _ _) _) id id)).mono ?_; rintro e w' ⟨rfl, rfl⟩)
  refine bodyPost_ret (v := .agg #[.int .i64 (cell bs a).1, .int .i64 (cell bs (a + 8)).1, .int .i64 (cell bs (a + 16)).1]) (by simp [results, Try.results106, go_sem]) rfl ⟨rfl, ?_⟩
  exact Fr.alloc (Fr.refl _ _) _
end Go.Proofs.Ytajeiccfgnpbpaa.Mem
