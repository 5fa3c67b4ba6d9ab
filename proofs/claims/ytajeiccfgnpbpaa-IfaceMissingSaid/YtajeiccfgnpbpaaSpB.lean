/- Contracts of package space: a cell, a byte. -/
import Derived.Test.YtajeiccfgnpbpaaSpA
namespace Go.Proofs.Ytajeiccfgnpbpaa.Mem
open Go.RowKit

theorem Fr.undrew {S : Nat → Prop} {w w' : World} (h : Fr S w.drew w') : Fr S w w' := ⟨h.os, h.tape, h.output, h.size, h.block⟩
theorem Mat.drew {t : TypeId} {w : World} {p g : Nat} {bs : List UInt8} (h : Mat t w p g bs) : Mat t w.drew p g bs := h
theorem Sat.drew {w : World} {b p g a z x : Nat} {bs : List UInt8} (h : Sat w b p g a z x bs) : Sat w.drew b p g a z x bs := h

set_option maxRecDepth 100000 in
set_option maxHeartbeats 1000000 in
theorem comma1_any (b p g a z x c1 c2 : Nat) (bs : List UInt8) (y n : Int) (w : World) (h : Sat w b p g a z x bs) (h1 : w.cell? ⟨c1, 0, none⟩ = some (.pointer (some ⟨b, 0, none⟩))) (h2 : w.cell? ⟨c2, 0, none⟩ = some (.int .i64 n)) :
    Calls Try.prog 122 #[.int .i64 y, .pointer (some ⟨c1, 0, none⟩), .pointer (some ⟨c2, 0, none⟩)] w fun e w' => e = .returned (.int .i64 (code bs.length y)) ∧ Mat 108 w' p g (setc bs y n) ∧ Only g w w' := by
  have h0 := h.cells.1
  have HC := Lib.hid (fun w h => setCell_any p g bs y n w h)
  have HM := Lib.hid h.mat
  clear h
  go_enter Try.func122, Try.ntmps122
  go_wp2
  go_region_with (go_at_call 15; refine (HC.out _ HM.out.drew).mono ?_; rintro e w' ⟨rfl, hm, hf⟩)
  all_goals
    go_wp2
    go_ret
    exact ⟨rfl, hm, Fr.undrew hf⟩

/-- Only the space's own cells, and the bytes, may have been written. -/
abbrev Both (b g : Nat) := Fr fun j => j = b ∨ j = g

theorem Fr.drewN' {S : Nat → Prop} {w w' : World} (n : Nat) (h : Fr S (w.drewN n) w') : Fr S w w' := ⟨h.os, h.tape, h.output, h.size, h.block⟩

set_option maxRecDepth 100000 in
set_option maxHeartbeats 1000000 in
theorem put_full (b p g a z x : Nat) (bs : List UInt8) (f : Value) (w : World) (h : Sat w b p g a z x bs) (hz : ¬ x + 8 ≤ z) :
    Calls Try.prog 121 #[.pointer (some ⟨b, 0, none⟩), .int .i64 8, f] w fun e w' => e = .returned (.int .i64 (-8)) ∧ Sat w' b p g a z x bs ∧ Fr (fun _ => False) w w' := by
  obtain ⟨h0, h1, h2, h3⟩ := h.cells
  have hb := h.bd
  have HS := Lib.hid (fun n => (show Sat (w.drewN n) b p g a z x bs from h))
  have hzz : ¬ (8 : Int) ≤ (z : Int) - (x : Int) := by omega
  have hbd : x ≤ 1048576 ∧ z ≤ 1048576 := by omega
  have hxz : x ≤ z := hb.2.1
  clear h hb hz
  go_enter Try.func121, Try.ntmps121
  go_wp2
  go_quiet (fail)
  go_wp2
  go_ret
  exact ⟨rfl, HS.out _, Fr.drewN (Fr.refl _ _) _⟩

set_option maxRecDepth 100000 in
set_option maxHeartbeats 1000000 in
theorem put_comma (b p g a z x c1 c2 : Nat) (bs : List UInt8) (n : Int) (w : World) (h : Sat w b p g a z x bs) (h8 : x % 8 = 0) (hz : x + 8 ≤ z)
    (k1 : w.cell? ⟨c1, 0, none⟩ = some (.pointer (some ⟨b, 0, none⟩))) (k2 : w.cell? ⟨c2, 0, none⟩ = some (.int .i64 n)) :
    Calls Try.prog 121 #[.pointer (some ⟨b, 0, none⟩), .int .i64 8, .func (.func 122) #[] #[.pointer (some ⟨c1, 0, none⟩), .pointer (some ⟨c2, 0, none⟩)]] w
      fun e w' => e = .returned (.int .i64 0) ∧ Sat w' b p g a z (x + 8) (setv bs x n) ∧ Both b g w w' := by
  obtain ⟨h0, h1, h2, h3⟩ := h.cells
  have hb := h.bd
  have hc0 : code bs.length (x : Int) = 0 := by rw [code_in (by omega), if_pos h8]
  have hset : setc bs x n = setv bs x n := by unfold setc; rw [if_pos hc0]; rfl
  have HC := Lib.hid (fun w h k1 k2 => comma1_any b p g a z x c1 c2 bs x n w h k1 k2)
  rw [hc0, hset] at HC
  have HS := Lib.hid (fun n => (show Sat (w.drewN n) b p g a z x bs from h))
  have HK := Lib.hid (And.intro k1 k2)
  have hzz : (8 : Int) ≤ (z : Int) - (x : Int) := by omega
  have hbd : x ≤ 1048576 ∧ z ≤ 1048576 := by omega
  have HL := Lib.hid (setv_length bs x n)
  have HB := Lib.hid hb
  clear h hb h8 hc0 hset k1 k2
  go_enter Try.func121, Try.ntmps121
  go_wp2
  go_quiet (fail)
  go_wp2_with (go_at_call 122; refine (HC.out _ (HS.out _) HK.out.1 HK.out.2).mono ?_; rintro e w' ⟨rfl, hm, hf⟩; have hS2 := (HS.out _).wrote hf hm HL.out; obtain ⟨q0, q1, q2, q3⟩ := hS2.cells; have q4 := hS2.free 3; have HS2 := Lib.hid hS2; have HF := Lib.hid hf; clear hS2 hm hf)
  go_ret
  refine ⟨rfl, HS2.out.move (x + 8) (by have := HB.out; omega) hz, ?_⟩
  refine Fr.setCell (S := fun j => j = b ∨ j = g) ?_ (.inr (.inl rfl)) _
  exact (Fr.drewN' _ HF.out).mono fun k _ e => .inr e

/-- Two new blocks of one cell each. -/
theorem two_new (w : World) (u v : Value) (t s : TypeId) : ((w.alloc (.cells #[u] t)).alloc (.cells #[v] s)).cell? ⟨w.heap.size, 0, none⟩ = some u ∧ ((w.alloc (.cells #[u] t)).alloc (.cells #[v] s)).cell? ⟨w.heap.size + 1, 0, none⟩ = some v := by
  have hs : (w.alloc (.cells #[u] t)).heap.size = w.heap.size + 1 := by simp
  refine ⟨cell_of_one (t := t) ?_, cell_of_one (t := s) ?_⟩
  · rw [Below.heap_alloc _ _ _ (by omega)]
    exact heap_alloc_last _ _
  · have := heap_alloc_last (w.alloc (.cells #[u] t)) (.cells #[v] s)
    rw [hs] at this
    exact this

set_option maxRecDepth 100000 in
set_option maxHeartbeats 1000000 in
theorem comma_ok (b p g a z x : Nat) (bs : List UInt8) (n : Int) (w : World) (h : Sat w b p g a z x bs) (h8 : x % 8 = 0) (hz : x + 8 ≤ z) :
    Calls Try.prog 102 #[.pointer (some ⟨b, 0, none⟩), .int .i64 n] w
      fun e w' => e = .returned (.int .i64 0) ∧ Sat w' b p g a z (x + 8) (setv bs x n) ∧ Both b g w w' := by
  have hmf : ∀ (fn : Fn) (first cap : Array Value) (w : World), (Instr.makeFunc fn first cap).run Try.prog w = .ok (.func fn first cap) w := fun _ _ _ _ => rfl
  have hF : Fr (fun _ => False) w ((w.alloc (.cells #[.pointer (some ⟨b, 0, none⟩)] 28)).alloc (.cells #[.int .i64 n] 2)) := ((Fr.refl _ _).alloc _).alloc _
  have hcl := two_new w (.pointer (some ⟨b, 0, none⟩)) (.int .i64 n) 28 2
  have HP := Lib.hid (put_comma b p g a z x w.heap.size (w.heap.size + 1) bs n _ (h.fr hF id id id) h8 hz hcl.1 hcl.2)
  have hc1 := hcl.1
  have HF := Lib.hid hF
  clear h hcl hF
  go_enter Try.func102, Try.ntmps102
  go_wp2_with (go_at_call 121; refine HP.out.mono ?_; rintro e w' ⟨rfl, hs, hf⟩)
  go_ret
  exact ⟨rfl, hs, Fr.trans (HF.out.mono fun _ _ e => e.elim) hf⟩

set_option maxRecDepth 100000 in
set_option maxHeartbeats 1000000 in
theorem comma_full (b p g a z x : Nat) (bs : List UInt8) (n : Int) (w : World) (h : Sat w b p g a z x bs) (hz : ¬ x + 8 ≤ z) :
    Calls Try.prog 102 #[.pointer (some ⟨b, 0, none⟩), .int .i64 n] w
      fun e w' => e = .returned (.int .i64 (-8)) ∧ Sat w' b p g a z x bs ∧ Fr (fun _ => False) w w' := by
  have hmf : ∀ (fn : Fn) (first cap : Array Value) (w : World), (Instr.makeFunc fn first cap).run Try.prog w = .ok (.func fn first cap) w := fun _ _ _ _ => rfl
  have hF : Fr (fun _ => False) w ((w.alloc (.cells #[.pointer (some ⟨b, 0, none⟩)] 28)).alloc (.cells #[.int .i64 n] 2)) := ((Fr.refl _ _).alloc _).alloc _
  have hcl := two_new w (.pointer (some ⟨b, 0, none⟩)) (.int .i64 n) 28 2
  have HP := Lib.hid (fun f => put_full b p g a z x bs f _ (h.fr hF id id id) hz)
  have hc1 := hcl.1
  have HF := Lib.hid hF
  clear h hcl hF
  go_enter Try.func102, Try.ntmps102
  go_wp2_with (go_at_call 121; refine (HP.out _).mono ?_; rintro e w' ⟨rfl, hs, hf⟩)
  go_ret
  exact ⟨rfl, hs, HF.out.trans hf⟩

set_option maxRecDepth 100000 in
set_option maxHeartbeats 1000000 in
theorem align_ok (b p g a z x : Nat) (bs : List UInt8) (w : World) (h : Sat w b p g a z x bs) (h8 : x % 8 = 0) :
    Calls Try.prog 101 #[.pointer (some ⟨b, 0, none⟩)] w fun e w' => e = .returned (.int .i64 0) ∧ w' = w := by
  have HC := Lib.hid (here_any b p g a z x bs w h)
  have h8' : ((x : Int) % 8 != 0) = false := by
    have : (x : Int) % 8 = 0 := by omega
    simp [this]
  clear h
  go_enter Try.func101, Try.ntmps101
  go_wp2
  go_loop [2] (fun v => v = .int .i64 0) (fun _ => 0)
  case atStart => rfl
  case round =>
    subst hrel
    go_wp2_with (go_at_call 21; refine HC.out.mono ?_; rintro e w' ⟨rfl, rfl⟩)
    go_ret
    exact ⟨rfl, rfl⟩
end Go.Proofs.Ytajeiccfgnpbpaa.Mem
