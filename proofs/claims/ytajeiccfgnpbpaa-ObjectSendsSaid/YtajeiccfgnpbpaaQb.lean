/- Several texts in one: Util, MemA, MemB, MemC. -/
import Derived.WalkKit
import Derived.Lib.Hide
import Derived.Deep.Draws
import Derived.Test.YtajeiccfgnpbpaaChecked
import Derived.Test.YtajeiccfgnpbpaaQa
import Derived.WalkSpells
import Derived.WalkLawsBesides
import Derived.BigQuiet
import Derived.Deep.QuietTactic
import Derived.Deep.LoopGhost
import Derived.Deep.RegionHeld3
import Derived.StillTailTactics
import Derived.BigRegion
import Derived.Laws.BytesArg
import Derived.Lib.BufferWrite
import Derived.Deep.OwnRows
import Derived.Deep.WholeRow
set_option linter.unusedSimpArgs false
set_option linter.unusedVariables false
/- Words on worlds that all texts here use: what a call may have written (a set of blocks), and small facts on blocks. No program. -/
namespace Go.Proofs.Ytajeiccfgnpbpaa
open Go.RowKit

/-- Of the blocks that were there, only those of S may have been written. -/
structure Fr (S : Nat → Prop) (w w' : World) : Prop where
  os : w'.os = w.os
  tape : w'.tape = w.tape
  output : w'.output = w.output
  size : w.heap.size ≤ w'.heap.size
  block : ∀ k, k < w.heap.size → ¬ S k → w'.heap[k]? = w.heap[k]?

theorem Fr.refl (S : Nat → Prop) (w : World) : Fr S w w := ⟨rfl, rfl, rfl, Nat.le_refl _, fun _ _ _ => rfl⟩
theorem Fr.trans {S : Nat → Prop} {a b c : World} (h : Fr S a b) (k : Fr S b c) : Fr S a c :=
  ⟨k.os.trans h.os, k.tape.trans h.tape, k.output.trans h.output, Nat.le_trans h.size k.size, fun i hi hs => (k.block i (Nat.lt_of_lt_of_le hi h.size) hs).trans (h.block i hi hs)⟩
theorem Fr.mono {S T : Nat → Prop} {a b : World} (h : Fr S a b) (hs : ∀ k, k < a.heap.size → S k → T k) : Fr T a b :=
  ⟨h.os, h.tape, h.output, h.size, fun k hk ht => h.block k hk (fun s => ht (hs k hk s))⟩
theorem Fr.drew {S : Nat → Prop} {a b : World} (h : Fr S a b) : Fr S a b.drew := ⟨h.os, h.tape, h.output, h.size, h.block⟩
theorem Fr.drewN {S : Nat → Prop} {a b : World} (h : Fr S a b) (n : Nat) : Fr S a (b.drewN n) := ⟨h.os, h.tape, h.output, h.size, h.block⟩
theorem Fr.alloc {S : Nat → Prop} {a b : World} (h : Fr S a b) (o : Obj) : Fr S a (b.alloc o) :=
  h.trans ⟨rfl, rfl, rfl, by simp, fun k hk _ => Below.heap_alloc _ _ _ hk⟩
theorem Fr.setCell {S : Nat → Prop} {a b : World} (h : Fr S a b) {p : Addr} (hp : a.heap.size ≤ p.block ∨ S p.block) (u : Value) : Fr S a (b.setCell p u) :=
  ⟨h.os, h.tape, h.output, by simpa [World.setCell] using h.size, fun k hk hs => by
    rw [Below.heap_setCell _ _ _ _ (fun e => by rcases hp with hp | hp
                                                · omega
                                                · exact hs (e ▸ hp))]
    exact h.block k hk hs⟩
theorem Fr.setOne {p : Nat} {a b : World} (h : Fr (fun j => j = p) a b) (off : Nat) (u : Value) : Fr (fun j => j = p) a (b.setCell ⟨p, off, none⟩ u) :=
  Fr.setCell (S := fun j => j = p) h (.inr rfl) u
theorem Fr.grown {S : Nat → Prop} {a b c : World} {row : Option Nat} (h : Fr S a b) (hg : b.grownBy c row) (hr : ∀ k, row = some k → a.heap.size ≤ k ∨ S k) : Fr S a c :=
  ⟨hg.os.trans h.os, hg.tape.trans h.tape, hg.output.trans h.output, Nat.le_trans h.size hg.size, fun k hk hs => by
    rw [hg.block k (Nat.lt_of_lt_of_le hk h.size) (fun e => by rcases hr k e.symm with hr | hr
                                                               · omega
                                                               · exact hs hr)]
    exact h.block k hk hs⟩
/-- What a callee that knows more blocks as new has left. -/
theorem Fr.after {S T : Nat → Prop} {a b c : World} (h : Fr S a b) (k : Fr T b c) (hs : ∀ k, k < a.heap.size → T k → S k) : Fr S a c :=
  ⟨k.os.trans h.os, k.tape.trans h.tape, k.output.trans h.output, Nat.le_trans h.size k.size, fun i hi hsi => (k.block i (Nat.lt_of_lt_of_le hi h.size) (fun t => hsi (hs i hi t))).trans (h.block i hi hsi)⟩
theorem Fr.below {S : Nat → Prop} {a b : World} (h : Fr S a b) (hs : ∀ k, k < a.heap.size → ¬ S k) : Below a.heap.size a b :=
  ⟨h.os, h.tape, h.output, h.size, fun k hk => h.block k hk (hs k hk)⟩
theorem Fr.of_below {a b : World} (h : Below a.heap.size a b) (S : Nat → Prop) : Fr S a b := ⟨h.os, h.tape, h.output, h.size, fun k hk _ => h.block k hk⟩
theorem Fr.cell {S : Nat → Prop} {a b : World} (h : Fr S a b) {p : Addr} {v : Value} (hv : a.cell? p = some v) (hs : ¬ S p.block) : b.cell? p = some v :=
  (World.cell?_of_block (h.block p.block (World.block_lt_of_cell? a p hv) hs)).trans hv
theorem Fr.obj {S : Nat → Prop} {a b : World} (h : Fr S a b) {p : Nat} {o : Obj} (hv : a.heap[p]? = some o) (hs : ¬ S p) : b.heap[p]? = some o :=
  (h.block p (lt_of_block hv) hs).trans hv
theorem Fr.owns {S : Nat → Prop} {a b : World} (h : Fr S a b) {base : Nat} {e : TypeId} {size : Nat} {v : Value} {n : Nat} {xs : List Value} (ho : a.ownsRow base e size v n xs)
    (hs : ∀ k, v.ownBlock = some k → ¬ S k) : b.ownsRow base e size v n xs := by
  refine ⟨ho.1, ?_⟩
  rcases ho.2 with hn | ⟨g, cap, cur, rfl, hb, hgg, rest⟩
  · exact .inl hn
  · exact .inr ⟨g, cap, cur, rfl, hb, h.obj hgg (hs g rfl), rest⟩

theorem owns_mono {w : World} {base base' : Nat} {e : TypeId} {size : Nat} {v : Value} {n : Nat} {xs : List Value} (ho : w.ownsRow base e size v n xs) (h : base' ≤ base) : w.ownsRow base' e size v n xs := by
  refine ⟨ho.1, ?_⟩
  rcases ho.2 with hn | ⟨g, cap, cur, rfl, hb, rest⟩
  · exact .inl hn
  · exact .inr ⟨g, cap, cur, rfl, by omega, rest⟩

/-- A slice's value, out of what it owns. -/
theorem owns_form {w : World} {base : Nat} {e : TypeId} {size : Nat} {v : Value} {n : Nat} {xs : List Value} (ho : w.ownsRow base e size v n xs) :
    ∃ o c, v = .slice o n c ∧ n ≤ c ∧ c ≤ maxLen ∧ (o = none → n = 0 ∧ c = 0) ∧ (∀ b, o = some b → b.off = 0 ∧ b.spot = none ∧ base ≤ b.block ∧ b.block < w.heap.size) := by
  rcases ho.2 with ⟨h, hl⟩ | ⟨g, cap, cur, h, hb, hg, h1, h2, _⟩
  · exact ⟨none, 0, by rw [h, hl], by omega, by decide, fun _ => ⟨hl, rfl⟩, fun b h => by cases h⟩
  · exact ⟨_, _, h, h1, h2, (fun h => by cases h), fun b hb' => by cases hb'; exact ⟨rfl, rfl, hb, lt_of_block hg⟩⟩

theorem owns_holds {w : World} {base : Nat} {e : TypeId} {size : Nat} {o : Option Addr} {n c : Nat} {xs : List Value} (ho : w.ownsRow base e size (.slice o n c) n xs) :
    ∀ b, o = some b → ∀ j u, xs[j]? = some u → w.cell? (b.add j) = some u := by
  intro b hb j u hu
  subst hb
  rcases ho.2 with ⟨h, _⟩ | ⟨g, cap, cur, h, hrest⟩
  · cases h
  · have hg : b = ⟨g, 0, none⟩ := by simp at h; exact h.1
    subst hg
    exact ho.cells rfl j u hu

theorem owns_length {w : World} {base : Nat} {e : TypeId} {size : Nat} {v : Value} {n : Nat} {xs : List Value} (ho : w.ownsRow base e size v n xs) : xs.length = n * size := ho.1

/-- A first part of a slice of the call's own: 's[:k]'. -/
theorem owns_take {w : World} {base : Nat} {e : TypeId} {size g n c k : Nat} {xs : List Value} (ho : w.ownsRow base e size (.slice (some ⟨g, 0, none⟩) n c) n xs) (hk : k ≤ n) :
    w.ownsRow base e size (.slice (some ⟨g, 0, none⟩) k c) k (xs.take (k * size)) := by
  have hks : k * size ≤ n * size := Nat.mul_le_mul_right _ hk
  refine ⟨by rw [List.length_take, ho.1, Nat.min_eq_left hks], ?_⟩
  rcases ho.2 with ⟨h, _⟩ | ⟨g', cap, cur, h, hb, hg, h1, h2, h3, h4⟩
  · cases h
  · simp only [Value.slice.injEq, Option.some.injEq, Addr.mk.injEq, and_true, true_and] at h
    obtain ⟨rfl, rfl⟩ := h
    exact .inr ⟨g, c, cur, rfl, hb, hg, by omega, h2, h3, by rw [← h4, List.take_take, Nat.min_eq_left hks]⟩
end Go.Proofs.Ytajeiccfgnpbpaa

/- Contracts of package mem: a memory is a list of bytes. -/
namespace Go.Proofs.Ytajeiccfgnpbpaa.Mem
open Go.RowKit

/-- A byte as a cell. -/
def bv (b : UInt8) : Value := .int .u8 (b.toNat : Int)

/-- At p lies a memory (a value of type t, whose one field is the slice) of these bytes, which lie at g. -/
def Mat (t : TypeId) (w : World) (p g : Nat) (bs : List UInt8) : Prop :=
  p ≠ g ∧ w.heap[p]? = some (.cells #[.slice (some ⟨g, 0, none⟩) bs.length bs.length] t (0, 0)) ∧
  w.heap[g]? = some (.cells (bs.map bv).toArray 5 (0, 0)) ∧ bs.length ≤ 1048576

theorem Mat.hd {t : TypeId} {w : World} {p g : Nat} {bs : List UInt8} (h : Mat t w p g bs) : w.cell? ⟨p, 0, none⟩ = some (.slice (some ⟨g, 0, none⟩) bs.length bs.length) := cell_of_one h.2.1
theorem Mat.at {t : TypeId} {w : World} {p g : Nat} {bs : List UInt8} (h : Mat t w p g bs) (i : Nat) (hi : i < bs.length) : w.cell? ⟨g, i, none⟩ = some (.int .u8 ((bs.getD i 0).toNat : Int)) := by
  rw [cell_of_row w g i _ _ _ h.2.2.1]
  simp [bv, List.getD, hi]
theorem Mat.free {t : TypeId} {w : World} {p g : Nat} {bs : List UInt8} (h : Mat t w p g bs) (i : Nat) : w.frozen? ⟨g, i, none⟩ = false := frozen_of_row w g i _ _ h.2.2.1
theorem Mat.lt {t : TypeId} {w : World} {p g : Nat} {bs : List UInt8} (h : Mat t w p g bs) : p < w.heap.size ∧ g < w.heap.size := ⟨lt_of_block h.2.1, lt_of_block h.2.2.1⟩
theorem Mat.fr {t : TypeId} {S : Nat → Prop} {w w' : World} {p g : Nat} {bs : List UInt8} (h : Mat t w p g bs) (f : Fr S w w') (hp : ¬ S p) (hg : ¬ S g) : Mat t w' p g bs :=
  ⟨h.1, f.obj h.2.1 hp, f.obj h.2.2.1 hg, h.2.2.2⟩
theorem Mat.set {t : TypeId} {w : World} {p g : Nat} {bs : List UInt8} (h : Mat t w p g bs) (i : Nat) (c : UInt8) : Mat t (w.setCell ⟨g, i, none⟩ (bv c)) p g (bs.set i c) := by
  refine ⟨h.1, ?_, ?_, by rw [List.length_set]; exact h.2.2.2⟩
  · rw [heap_setCell_other w ⟨g, i, none⟩ p _ h.1, List.length_set]
    exact h.2.1
  · rw [heap_setCell_same w g i _ _ _ h.2.2.1]
    simp [List.map_set]

/-- Only the bytes at g may have been written. -/
abbrev Only (g : Nat) := Fr fun j => j = g

theorem ret_int {k : IntKind} {a b : Int} (h : a = b) : Ending.returned (.int k a) = .returned (.int k b) := by rw [h]

set_option maxHeartbeats 400000 in
theorem size_any (p g : Nat) (bs : List UInt8) (w : World) (h : Mat 108 w p g bs) :
    Calls Try.prog 51 #[.pointer (some ⟨p, 0, none⟩)] w fun e w' => e = .returned (.int .i64 bs.length) ∧ w' = w := by
  have h0 := h.hd
  have hn := h.2.2.2
  clear h
  go_enter Try.func51, Try.ntmps51
  go_wp2
  go_ret
  exact ⟨rfl, rfl⟩

set_option maxHeartbeats 1000000 in
theorem has_any (p g : Nat) (bs : List UInt8) (a k : Int) (w : World) (h : Mat 108 w p g bs) (hk1 : -9223372036854775808 ≤ k) (hk2 : k ≤ 9223372036854775807) :
    Calls Try.prog 99 #[.pointer (some ⟨p, 0, none⟩), .int .i64 a, .int .i64 k] w fun e w' => e = .returned (.bool (has bs.length a k)) ∧ w' = w := by
  have HS := Lib.hid (fun w h => size_any p g bs w h)
  have H := Lib.hid h
  have hn := h.2.2.2
  obtain ⟨n, hnn⟩ : ∃ n, bs.length = n := ⟨_, rfl⟩
  rw [hnn] at HS hn ⊢
  clear h hnn
  unfold has
  by_cases h1 : 0 ≤ a
  · by_cases h2 : 0 ≤ k
    · by_cases h3 : k ≤ (n : Int)
      · by_cases h4 : a ≤ (n : Int) - k
        all_goals
          go_enter Try.func99, Try.ntmps99
          go_wp2_with (go_at_call 51; refine (HS.out _ H.out).mono ?_; rintro e w' ⟨rfl, rfl⟩)
          go_ret
          exact ⟨by simp [h1, h2, h3, h4], rfl⟩
      · go_enter Try.func99, Try.ntmps99
        go_wp2_with (go_at_call 51; refine (HS.out _ H.out).mono ?_; rintro e w' ⟨rfl, rfl⟩)
        go_ret
        exact ⟨by simp; omega, rfl⟩
    · go_enter Try.func99, Try.ntmps99
      go_wp2_with (go_at_call 51; refine (HS.out _ H.out).mono ?_; rintro e w' ⟨rfl, rfl⟩)
      go_ret
      exact ⟨by simp; omega, rfl⟩
  · go_enter Try.func99, Try.ntmps99
    go_wp2_with (go_at_call 51; refine (HS.out _ H.out).mono ?_; rintro e w' ⟨rfl, rfl⟩)
    go_ret
    exact ⟨by simp; omega, rfl⟩

set_option maxHeartbeats 1000000 in
theorem cellAt_any (p g : Nat) (bs : List UInt8) (a : Int) (w : World) (h : Mat 108 w p g bs) :
    Calls Try.prog 57 #[.pointer (some ⟨p, 0, none⟩), .int .i64 a] w fun e w' => e = .returned (.int .i64 (code bs.length a)) ∧ w' = w := by
  have hh := fun w h => has_any p g bs a 8 w h (by omega) (by omega)
  have H := Lib.hid h
  clear h
  obtain ⟨c, hc⟩ : ∃ c, code bs.length a = c := ⟨_, rfl⟩
  rw [hc]
  unfold code at hc
  by_cases h1 : has bs.length a 8 = true
  · rw [h1, if_pos rfl] at hc
    rw [h1] at hh
    have HH := Lib.hid hh
    have ha : 0 ≤ a := by simp [has] at h1; omega
    clear hh h1
    by_cases h2 : a % 8 = 0
    · have h2' : (a % 8 != 0) = false := by simp [h2]
      rw [if_pos h2] at hc
      subst hc
      clear h2
      go_enter Try.func57, Try.ntmps57
      go_wp2_with (go_at_call 99; refine (HH.out _ H.out).mono ?_; rintro e w' ⟨rfl, rfl⟩)
      go_ret
      exact ⟨rfl, rfl⟩
    · have h2' : (a % 8 != 0) = true := by simp [h2]
      rw [if_neg h2] at hc
      subst hc
      clear h2
      go_enter Try.func57, Try.ntmps57
      go_wp2_with (go_at_call 99; refine (HH.out _ H.out).mono ?_; rintro e w' ⟨rfl, rfl⟩)
      go_ret
      exact ⟨rfl, rfl⟩
  · have h1' : has bs.length a 8 = false := by simpa using h1
    rw [if_neg h1] at hc
    subst hc
    rw [h1'] at hh
    have HH := Lib.hid hh
    clear hh h1 h1'
    go_enter Try.func57, Try.ntmps57
    go_wp2_with (go_at_call 99; refine (HH.out _ H.out).mono ?_; rintro e w' ⟨rfl, rfl⟩)
    go_ret
    exact ⟨rfl, rfl⟩

set_option maxHeartbeats 1000000 in
theorem cell_any (p g : Nat) (bs : List UInt8) (a : Int) (w : World) (h : Mat 108 w p g bs) :
    Calls Try.prog 46 #[.pointer (some ⟨p, 0, none⟩), .int .i64 a] w fun e w' => e = .returned (.tuple #[.int .i64 (cell bs a).1, .int .i64 (cell bs a).2]) ∧ w' = w := by
  have hcall := fun w h => cellAt_any p g bs a w h
  have H := Lib.hid h
  have h0 := h.hd
  obtain ⟨c, hc⟩ : ∃ c, code bs.length a = c := ⟨_, rfl⟩
  rw [hc] at hcall
  have HC := Lib.hid hcall
  clear hcall
  by_cases hz : c = 0
  · subst hz
    have hp : cell bs a = (cellv bs a.toNat, 0) := by unfold cell; rw [if_pos hc]
    obtain ⟨ha0, ha1, _⟩ := code_ok hc
    obtain ⟨x, rfl⟩ : ∃ x : Nat, a = x := ⟨a.toNat, by omega⟩
    rw [hp]
    simp only [Int.toNat_natCast]
    have hn := h.2.2.2
    have HA := Lib.hid (fun i hi => h.at i hi)
    obtain ⟨n, hnn⟩ : ∃ n, bs.length = n := ⟨_, rfl⟩
    rw [hnn] at h0 hn HA ha1
    clear h hc hp hnn
    go_enter Try.func46, Try.ntmps46
    go_wp2_with (go_at_call 57; refine (HC.out _ H.out).mono ?_; rintro e w' ⟨rfl, rfl⟩)
    go_loop [7, 15] (fun nv iv => ∃ k : Nat, k ≤ 8 ∧ iv = .int .i64 k ∧ nv = .int .u64 (rd bs x k : Nat)) (fun _ iv => 8 - (intOf iv).toNat)
    case atStart => exact ⟨0, by omega, rfl, rfl⟩
    case round =>
      obtain ⟨k, hk, rfl, rfl⟩ := hrel
      by_cases hlt : k < 8
      · have hcell := HA.out (x + k) (by omega)
        have hb : ((bs.getD (x + k) 0).toNat : Int) ≤ 255 := by have := (bs.getD (x + k) 0).toNat_lt; omega
        obtain ⟨y, hy⟩ : ∃ y : Nat, (bs.getD (x + k) 0).toNat = y := ⟨_, rfl⟩
        rw [hy] at hcell hb
        have HY := Lib.hid hy
        clear hy
        go_wp2
        refine ⟨⟨k + 1, by omega, rfl, ?_⟩, by simp only [intOf]; omega⟩
        rw [or_byte _ _ _ (rd_lt bs x k) (by omega) hlt, rd, HY.out]
      · obtain rfl : k = 8 := by omega
        go_wp2
        go_ret2
        exact ⟨rfl, rfl⟩
  · have hp : cell bs a = (0, c) := by unfold cell; rw [if_neg (by rw [hc]; exact hz), hc]
    rw [hp]
    have hz' : (c != 0) = true := by simp [hz]
    clear h hc hp hz
    go_enter Try.func46, Try.ntmps46
    go_wp2_with (go_at_call 57; refine (HC.out _ H.out).mono ?_; rintro e w' ⟨rfl, rfl⟩)
    go_ret2
    exact ⟨rfl, rfl⟩

end Go.Proofs.Ytajeiccfgnpbpaa.Mem

/- Contracts of package mem: what writes. -/
namespace Go.Proofs.Ytajeiccfgnpbpaa.Mem
open Go.RowKit

set_option maxRecDepth 100000 in
set_option maxHeartbeats 1000000 in
theorem setCell_any (p g : Nat) (bs : List UInt8) (a n : Int) (w : World) (h : Mat 108 w p g bs) :
    Calls Try.prog 15 #[.pointer (some ⟨p, 0, none⟩), .int .i64 a, .int .i64 n] w fun e w' => e = .returned (.int .i64 (code bs.length a)) ∧ Mat 108 w' p g (setc bs a n) ∧ Only g w w' := by
  have hcall := fun w h => cellAt_any p g bs a w h
  have H := Lib.hid h
  obtain ⟨c, hc⟩ : ∃ c, code bs.length a = c := ⟨_, rfl⟩
  rw [hc] at hcall ⊢
  have HC := Lib.hid hcall
  clear hcall
  by_cases hz : c = 0
  · subst hz
    have hp : setc bs a n = setv bs a.toNat n := by unfold setc; rw [if_pos hc]
    obtain ⟨ha0, ha1, _⟩ := code_ok hc
    obtain ⟨x, rfl⟩ : ∃ x : Nat, a = x := ⟨a.toNat, by omega⟩
    rw [hp]
    simp only [Int.toNat_natCast]
    have hbl := h.2.2.2
    have HL := Lib.hid (wr_length bs x (m64 n).toNat)
    obtain ⟨nb, hnn⟩ : ∃ nb, bs.length = nb := ⟨_, rfl⟩
    rw [hnn] at hbl ha1 HL
    clear h hc hp
    have HNN := Lib.hid hnn
    clear hnn
    go_enter Try.func15, Try.ntmps15
    go_wp2_with (go_at_call 57; refine (HC.out _ H.out).mono ?_; rintro e w' ⟨rfl, rfl⟩)
    go_loopw [15] (fun iv wr' => ∃ k : Nat, k ≤ 8 ∧ iv = .int .i64 k ∧ Mat 108 wr' p g (wr bs x (m64 n).toNat k) ∧ Only g w' wr') (fun iv _ => 8 - (intOf iv).toNat)
    case atStart => exact ⟨0, by omega, rfl, H.out, Fr.refl _ _⟩
    case round =>
      obtain ⟨k, hk, rfl, hM, hF⟩ := hrel
      by_cases hlt : k < 8
      · have h0 := hM.hd
        rw [HL.out] at h0
        have hcell := hM.at (x + k) (by rw [HL.out]; omega)
        have hfree := hM.free (x + k)
        have HM := Lib.hid hM
        have HF := Lib.hid hF
        clear hM hF
        go_wp2
        go_region
        go_wp2
        go_roundw
        case rel =>
          refine ⟨k + 1, by omega, by go_num, ?_, ?_⟩
          · have hs := HM.out.set (x + k) (UInt8.ofNat ((m64 n).toNat / 256 ^ k % 256))
            rw [byte_of]
            exact hs
          · exact (HF.out.setOne _ _).drew
        case measure => simp only [intOf]; omega
      · obtain rfl : k = 8 := by omega
        have HM := Lib.hid hM
        have HF := Lib.hid hF
        clear hM hF
        go_wp2
        go_ret
        exact ⟨rfl, HM.out, HF.out⟩
  · have hp : setc bs a n = bs := by unfold setc; rw [if_neg (by rw [hc]; exact hz)]
    rw [hp]
    have hz' : (c != 0) = true := by simp [hz]
    clear h hc hp hz
    go_enter Try.func15, Try.ntmps15
    go_wp2_with (go_at_call 57; refine (HC.out _ H.out).mono ?_; rintro e w' ⟨rfl, rfl⟩)
    go_ret
    exact ⟨rfl, H.out, Fr.refl _ _⟩
theorem strOf_bytes (l : List UInt8) : strOfNums (l.map fun b => (b.toNat : Int)) = ⟨l.toArray⟩ := by
  unfold strOfNums
  rw [List.map_map]
  simp [Function.comp_def]
theorem getD_bytes (l : List UInt8) (i : Nat) : (l.map fun b => (b.toNat : Int)).getD i 0 = ((l.getD i 0).toNat : Int) := by
  simp only [List.getD_eq_getElem?_getD, List.getElem?_map]
  cases l[i]? <;> simp

set_option maxRecDepth 100000 in
set_option maxHeartbeats 1000000 in
theorem text_any (p g : Nat) (bs : List UInt8) (a k : Int) (w : World) (h : Mat 108 w p g bs) (hk1 : -9223372036854775808 ≤ k) (hk2 : k ≤ 9223372036854775807) :
    Calls Try.prog 52 #[.pointer (some ⟨p, 0, none⟩), .int .i64 a, .int .i64 k] w fun e w' => e = .returned (.tuple #[.string ⟨(txt bs a k).1.toArray⟩, .int .i64 (txt bs a k).2]) ∧ w' = w := by
  have hh := fun w h => has_any p g bs a k w h hk1 hk2
  have H := Lib.hid h
  by_cases h1 : has bs.length a k = true
  · have hp : txt bs a k = (text bs a.toNat k.toNat, 0) := by unfold txt; rw [if_pos h1]
    rw [hp]
    rw [h1] at hh
    have HH := Lib.hid hh
    clear hh hp
    simp [has] at h1
    obtain ⟨x, rfl⟩ : ∃ x : Nat, a = x := ⟨a.toNat, by omega⟩
    obtain ⟨n, rfl⟩ : ∃ n : Nat, k = n := ⟨k.toNat, by omega⟩
    simp only [Int.toNat_natCast]
    have h0 := h.hd
    have hn := h.2.2.2
    by_cases hz : n = 0
    · subst hz
      have ht : text bs x 0 = [] := by simp [text]
      rw [ht]
      clear h
      go_enter Try.func52, Try.ntmps52
      go_wp2_with (go_at_call 99; refine (HH.out _ H.out).mono ?_; rintro e w' ⟨rfl, rfl⟩)
      go_ret2
      exact ⟨rfl, rfl⟩
    · have hl : (text bs x n).length = n := text_length _ _ _ (by omega)
      have hz' : ((n : Int) == 0) = false := by simp [hz]
      have hc := run_convert_bytes_arg (P := Try.prog) w 53 5 Try.underlying53 Try.underlying5 g x n (bs.length - x) ((text bs x n).map fun b => (b.toNat : Int)) (by simp [hl]) (fun i hi => by
        rw [h.at (x + i) (by omega), getD_bytes, text_get bs x n i hi]) 9 Try.underlying9
      rw [strOf_bytes] at hc
      obtain ⟨st, hst⟩ : ∃ st : ByteArray, ⟨(text bs x n).toArray⟩ = st := ⟨_, rfl⟩
      rw [hst] at hc ⊢
      obtain ⟨nb, hnn⟩ : ∃ nb, bs.length = nb := ⟨_, rfl⟩
      rw [hnn] at hc h0 hn h1
      have hne : ¬ nb = x := by omega
      clear h hst hl hnn hz
      go_enter Try.func52, Try.ntmps52
      go_wp2_with (go_at_call 99; refine (HH.out _ H.out).mono ?_; rintro e w' ⟨rfl, rfl⟩)
      go_ret2
      exact ⟨rfl, rfl⟩
  · have hp : txt bs a k = ([], -9) := by unfold txt; rw [if_neg h1]
    rw [hp]
    have h1' : has bs.length a k = false := by simpa using h1
    rw [h1'] at hh
    have HH := Lib.hid hh
    clear hh h1 h1' h hp
    go_enter Try.func52, Try.ntmps52
    go_wp2_with (go_at_call 99; refine (HH.out _ H.out).mono ?_; rintro e w' ⟨rfl, rfl⟩)
    go_ret2
    exact ⟨rfl, rfl⟩

theorem Mat.row {t : TypeId} {w : World} {p g : Nat} {bs : List UInt8} (h : Mat t w p g bs) (l : List UInt8) (hl : l.length = bs.length) : Mat t (w.setRow g (l.map bv).toArray) p g l :=
  ⟨h.1, by rw [setRow_other _ _ _ _ h.1, hl]; exact h.2.1, setRow_heap _ _ _ _ _ _ h.2.2.1, by rw [hl]; exact h.2.2.2⟩
theorem Fr.setRow {S : Nat → Prop} {a b : World} (h : Fr S a b) {g : Nat} (hg : S g) (cs : Array Value) : Fr S a (b.setRow g cs) :=
  ⟨h.os, h.tape, h.output, by simpa using h.size, fun k hk hs => (setRow_other _ _ _ _ (fun e => hs (by rw [e]; exact hg))).trans (h.block k hk hs)⟩
theorem put_cells (bs : List UInt8) (x : Nat) (s : ByteArray) : ((bs.map bv).toArray.toList.take x ++ Lib.byteCells s.data.toList ++ (bs.map bv).toArray.toList.drop (x + s.size)).toArray = ((put bs x s.data.toList).map bv).toArray := by
  have : s.data.toList.length = s.size := Array.length_toList
  simp [put, Lib.byteCells, bv, List.map_take, List.map_drop, this]

set_option maxRecDepth 100000 in
set_option maxHeartbeats 1000000 in
theorem setText_any (p g : Nat) (bs : List UInt8) (a : Int) (s : ByteArray) (w : World) (h : Mat 108 w p g bs) (hsz : s.size ≤ 1048576) :
    Calls Try.prog 44 #[.pointer (some ⟨p, 0, none⟩), .int .i64 a, .string s] w fun e w' => e = .returned (.int .i64 (codet bs a s.data.toList)) ∧ Mat 108 w' p g (sett bs a s.data.toList) ∧ Only g w w' := by
  have hlen : s.data.toList.length = s.size := Array.length_toList
  have hh := fun w h => has_any p g bs a s.size w h (by omega) (by omega)
  have H := Lib.hid h
  by_cases h1 : has bs.length a s.size = true
  · have hp : codet bs a s.data.toList = 0 ∧ sett bs a s.data.toList = put bs a.toNat s.data.toList := by unfold codet sett; rw [hlen, if_pos h1, if_pos h1]; exact ⟨rfl, rfl⟩
    rw [hp.1, hp.2]
    rw [h1] at hh
    have HH := Lib.hid hh
    clear hh hp
    simp [has] at h1
    obtain ⟨x, rfl⟩ : ∃ x : Nat, a = x := ⟨a.toNat, by omega⟩
    simp only [Int.toNat_natCast]
    have h0 := h.hd
    have hn := h.2.2.2
    by_cases hz : s.size = 0
    · have hs : s = ByteArray.mk #[] := by
        have : s.data.toList = [] := List.length_eq_zero_iff.1 (by rw [hlen]; exact hz)
        cases s; simp_all
      subst hs
      have ht : put bs x [] = bs := by simp [put]
      rw [show (ByteArray.mk #[]).data.toList = [] from rfl, ht]
      clear h
      go_enter Try.func44, Try.ntmps44
      go_wp2_with (go_at_call 99; refine (HH.out _ H.out).mono ?_; rintro e w' ⟨rfl, rfl⟩)
      go_ret
      exact ⟨rfl, H.out, Fr.refl _ _⟩
    · have hz' : (!s.toList.isEmpty) = true := by
        rw [ByteArray.toList_eq, Bool.not_eq_true', List.isEmpty_eq_false_iff]
        intro e
        exact hz (by rw [← hlen, e]; rfl)
      have hM := h.row (put bs x s.data.toList) (put_length _ _ _ (by omega))
      have hcp := Lib.run_copy_row_string (P := Try.prog) w 53 9 3 5 g x (bs.length - x) (bs.length - x) s _ _ Try.underlying53 (by kernel_rfl) h.2.2.1 (by omega) (by simp; omega)
      rw [put_cells] at hcp
      have hne : ¬ bs.length = x := by omega
      have HM := Lib.hid hM
      obtain ⟨L, hL⟩ : ∃ L, ((put bs x s.data.toList).map bv).toArray = L := ⟨_, rfl⟩
      rw [hL] at hcp HM
      obtain ⟨nb, hnn⟩ : ∃ nb, bs.length = nb := ⟨_, rfl⟩
      rw [hnn] at hcp h0 hn h1 hne
      clear h hnn hz hlen hL hM
      go_enter Try.func44, Try.ntmps44
      go_wp2_with (go_at_call 99; refine (HH.out _ H.out).mono ?_; rintro e w' ⟨rfl, rfl⟩)
      go_ret
      exact ⟨rfl, HM.out, Fr.setRow (S := fun j => j = g) (Fr.refl _ _) rfl _⟩
  · have hp : codet bs a s.data.toList = -9 ∧ sett bs a s.data.toList = bs := by unfold codet sett; rw [hlen, if_neg h1, if_neg h1]; exact ⟨rfl, rfl⟩
    rw [hp.1, hp.2]
    have h1' : has bs.length a s.size = false := by simpa using h1
    rw [h1'] at hh
    have HH := Lib.hid hh
    clear hh h1 h1' h hp hlen
    go_enter Try.func44, Try.ntmps44
    go_wp2_with (go_at_call 99; refine (HH.out _ H.out).mono ?_; rintro e w' ⟨rfl, rfl⟩)
    go_ret
    exact ⟨rfl, H.out, Fr.refl _ _⟩

set_option maxRecDepth 100000 in
set_option maxHeartbeats 1000000 in
theorem new_ok (n : Nat) (w : World) (hn : n ≤ 1048576) (h8 : n % 8 = 0) :
    Calls Try.prog 10 #[.int .i64 n] w fun e w' => e = .returned (.tuple #[.pointer (some ⟨w.heap.size + 1, 0, none⟩), .int .i64 0]) ∧ Mat 108 w' (w.heap.size + 1) w.heap.size (List.replicate n 0) ∧ Fr (fun _ => False) w w' := by
  have hmk := run_make_row' (P := Try.prog) 53 5 (.int .u8 0) 1 Try.underlying53 (by kernel_rfl) rfl .i64 .i64 n (by omega) (by omega)
  have h8' : ((n : Int) % 8 != 0) = false := by
    have : (n : Int) % 8 = 0 := by omega
    simp [this]
  have hrow : madeCells #[.int .u8 0] n = ((List.replicate n 0).map bv).toArray := by
    apply Array.ext'
    rw [toList_madeCells_one]
    simp [List.map_replicate, bv]
  rw [hrow] at hmk
  obtain ⟨L, hL⟩ : ∃ L, ((List.replicate n 0).map bv).toArray = L := ⟨_, rfl⟩
  rw [hL] at hmk
  have hw1 := heap_alloc_last w (.cells L 5)
  clear h8 hrow
  go_enter Try.func10, Try.ntmps10
  go_wp2
  go_ret2
  have hsz : (w.alloc (.cells L 5)).heap.size = w.heap.size + 1 := by simp
  refine ⟨rfl, ⟨by omega, ?_, ?_, by rw [List.length_replicate]; exact hn⟩, ((Fr.refl _ _).alloc _).alloc _⟩
  · have := heap_alloc_last (w.alloc (.cells L 5)) (.cells #[.slice (some ⟨w.heap.size, 0, none⟩) n n] 108)
    rw [hsz] at this
    rw [List.length_replicate]
    exact this
  · rw [Below.heap_alloc _ _ _ (by omega), hw1, hL]

end Go.Proofs.Ytajeiccfgnpbpaa.Mem

/- Contracts of the document's answers for memories. -/
namespace Go.Proofs.Ytajeiccfgnpbpaa.Mem
open Go.RowKit

set_option maxRecDepth 100000 in
set_option maxHeartbeats 1000000 in
theorem rhas_any (p g : Nat) (bs : List UInt8) (a k : Int) (w : World) (h : Mat 112 w p g bs) :
    Calls Try.prog 100 #[.pointer (some ⟨p, 0, none⟩), .int .i64 a, .int .i64 k] w fun e w' => e = .returned (.bool (has bs.length a k)) ∧ w' = w := by
  have h0 := h.hd
  have hn := h.2.2.2
  obtain ⟨n, hnn⟩ : ∃ n, bs.length = n := ⟨_, rfl⟩
  rw [hnn] at h0 hn ⊢
  clear h hnn
  unfold has
  by_cases h1 : 0 ≤ a
  · by_cases h2 : 0 ≤ k
    · by_cases h3 : k ≤ (n : Int)
      · by_cases h4 : a ≤ (n : Int)
        · by_cases h5 : a ≤ (n : Int) - k
          · have h6 : a + k ≤ n := by omega
            go_enter Try.func100, Try.ntmps100
            go_wp2
            go_ret
            exact ⟨by first | (simp; done) | (simp; omega), rfl⟩
          · have h6 : ¬ a + k ≤ n := by omega
            go_enter Try.func100, Try.ntmps100
            go_wp2
            go_ret
            exact ⟨by first | (simp; done) | (simp; omega), rfl⟩
        · have h5 : ¬ a ≤ (n : Int) - k := by omega
          go_enter Try.func100, Try.ntmps100
          go_wp2
          go_ret
          exact ⟨by first | (simp; done) | (simp; omega), rfl⟩
      · by_cases h4 : a ≤ (n : Int)
        all_goals
          go_enter Try.func100, Try.ntmps100
          go_wp2
          go_ret
          exact ⟨by first | (simp; done) | (simp; omega), rfl⟩
    · go_enter Try.func100, Try.ntmps100
      go_wp2
      go_ret
      exact ⟨by first | (simp; done) | (simp; omega), rfl⟩
  · go_enter Try.func100, Try.ntmps100
    go_wp2
    go_ret
    exact ⟨by first | (simp; done) | (simp; omega), rfl⟩

set_option maxRecDepth 100000 in
set_option maxHeartbeats 1000000 in
theorem rcode_any (p g : Nat) (bs : List UInt8) (a : Int) (w : World) (h : Mat 112 w p g bs) :
    Calls Try.prog 58 #[.pointer (some ⟨p, 0, none⟩), .int .i64 a] w fun e w' => e = .returned (.int .i64 (code bs.length a)) ∧ w' = w := by
  have hh := fun w h => rhas_any p g bs a 8 w h
  have H := Lib.hid h
  clear h
  obtain ⟨c, hc⟩ : ∃ c, code bs.length a = c := ⟨_, rfl⟩
  rw [hc]
  unfold code at hc
  by_cases h1 : has bs.length a 8 = true
  · rw [h1, if_pos rfl] at hc
    rw [h1] at hh
    have HH := Lib.hid hh
    have ha : 0 ≤ a := by simp [has] at h1; omega
    clear hh h1
    by_cases h2 : a % 8 = 0
    · have h2' : (a % 8 != 0) = false := by simp [h2]
      rw [if_pos h2] at hc
      subst hc
      clear h2
      go_enter Try.func58, Try.ntmps58
      go_wp2_with (go_at_call 100; refine (HH.out _ H.out).mono ?_; rintro e w' ⟨rfl, rfl⟩)
      go_ret
      exact ⟨rfl, rfl⟩
    · have h2' : (a % 8 != 0) = true := by simp [h2]
      rw [if_neg h2] at hc
      subst hc
      clear h2
      go_enter Try.func58, Try.ntmps58
      go_wp2_with (go_at_call 100; refine (HH.out _ H.out).mono ?_; rintro e w' ⟨rfl, rfl⟩)
      go_ret
      exact ⟨rfl, rfl⟩
  · have h1' : has bs.length a 8 = false := by simpa using h1
    rw [if_neg h1] at hc
    subst hc
    rw [h1'] at hh
    have HH := Lib.hid hh
    clear hh h1 h1'
    go_enter Try.func58, Try.ntmps58
    go_wp2_with (go_at_call 100; refine (HH.out _ H.out).mono ?_; rintro e w' ⟨rfl, rfl⟩)
    go_ret
    exact ⟨rfl, rfl⟩

set_option maxRecDepth 100000 in
set_option maxHeartbeats 1000000 in
theorem rcell_any (p g : Nat) (bs : List UInt8) (a : Int) (w : World) (h : Mat 112 w p g bs) :
    Calls Try.prog 66 #[.pointer (some ⟨p, 0, none⟩), .int .i64 a] w fun e w' => e = .returned (.tuple #[.int .i64 (cell bs a).1, .int .i64 (cell bs a).2]) ∧ w' = w := by
  have hcall := fun w h => rcode_any p g bs a w h
  have H := Lib.hid h
  have h0 := h.hd
  obtain ⟨c, hc⟩ : ∃ c, code bs.length a = c := ⟨_, rfl⟩
  rw [hc] at hcall
  have HC := Lib.hid hcall
  clear hcall
  by_cases hz : c = 0
  · subst hz
    have hp : cell bs a = (cellv bs a.toNat, 0) := by unfold cell; rw [if_pos hc]
    obtain ⟨ha0, ha1, _⟩ := code_ok hc
    obtain ⟨x, rfl⟩ : ∃ x : Nat, a = x := ⟨a.toNat, by omega⟩
    rw [hp]
    simp only [Int.toNat_natCast]
    have hn := h.2.2.2
    have HA := Lib.hid (fun i hi => h.at i hi)
    obtain ⟨n, hnn⟩ : ∃ n, bs.length = n := ⟨_, rfl⟩
    rw [hnn] at h0 hn HA ha1
    clear h hc hp hnn
    go_enter Try.func66, Try.ntmps66
    go_wp2_with (go_at_call 58; refine (HC.out _ H.out).mono ?_; rintro e w' ⟨rfl, rfl⟩)
    go_loop [7, 8] (fun nv iv => ∃ k : Nat, k ≤ 8 ∧ iv = .int .i64 (7 - (k : Int)) ∧ nv = .int .u64 (rdH bs x k : Nat)) (fun _ iv => (intOf iv + 1).toNat)
    case atStart => exact ⟨0, by omega, rfl, rfl⟩
    case round =>
      obtain ⟨k, hk, rfl, rfl⟩ := hrel
      by_cases hlt : k < 8
      · have hcell := HA.out (x + (7 - k)) (by omega)
        have hb : ((bs.getD (x + (7 - k)) 0).toNat : Int) ≤ 255 := by have := (bs.getD (x + (7 - k)) 0).toNat_lt; omega
        have hr : rdH bs x (k + 1) = rdH bs x k * 256 + (bs.getD (x + (7 - k)) 0).toNat := rfl
        have hrl := rdH_lt bs x k
        have h256 : 256 ^ k ≤ 256 ^ 7 := Nat.pow_le_pow_right (by omega) (by omega)
        simp only [Nat.reducePow] at h256
        have hrb : rdH bs x k < 72057594037927936 := by omega
        obtain ⟨y, hy⟩ : ∃ y : Nat, (bs.getD (x + (7 - k)) 0).toNat = y := ⟨_, rfl⟩
        obtain ⟨r, hrr⟩ : ∃ r : Nat, rdH bs x k = r := ⟨_, rfl⟩
        rw [hy] at hcell hb hr
        rw [hrr] at hr hrb ⊢
        have HR := Lib.hid hr
        clear hy hr hrl h256 hrr
        go_wp2
        refine ⟨⟨k + 1, by omega, congrArg _ (by omega), congrArg _ (by rw [HR.out]; omega)⟩, by simp only [intOf]; omega⟩
      · obtain rfl : k = 8 := by omega
        go_wp2
        go_ret2
        exact ⟨by rw [cellv, ← rdH_rd]; rfl, rfl⟩
  · have hp : cell bs a = (0, c) := by unfold cell; rw [if_neg (by rw [hc]; exact hz), hc]
    rw [hp]
    have hz' : (c != 0) = true := by simp [hz]
    clear h hc hp hz
    go_enter Try.func66, Try.ntmps66
    go_wp2_with (go_at_call 58; refine (HC.out _ H.out).mono ?_; rintro e w' ⟨rfl, rfl⟩)
    go_ret2
    exact ⟨rfl, rfl⟩
theorem m64_step (n : Int) (k : Nat) : (m64 n).toNat / 256 ^ k / 256 = (m64 n).toNat / 256 ^ (k + 1) := by rw [Nat.div_div_eq_div_mul, Nat.pow_succ]

set_option maxRecDepth 100000 in
set_option maxHeartbeats 1000000 in
theorem rsetCell_any (p g : Nat) (bs : List UInt8) (a n : Int) (w : World) (h : Mat 112 w p g bs) :
    Calls Try.prog 16 #[.pointer (some ⟨p, 0, none⟩), .int .i64 a, .int .i64 n] w fun e w' => e = .returned (.int .i64 (code bs.length a)) ∧ Mat 112 w' p g (setc bs a n) ∧ Only g w w' := by
  have hcall := fun w h => rcode_any p g bs a w h
  have H := Lib.hid h
  obtain ⟨c, hc⟩ : ∃ c, code bs.length a = c := ⟨_, rfl⟩
  rw [hc] at hcall ⊢
  have HC := Lib.hid hcall
  clear hcall
  by_cases hz : c = 0
  · subst hz
    have hp : setc bs a n = setv bs a.toNat n := by unfold setc; rw [if_pos hc]
    obtain ⟨ha0, ha1, _⟩ := code_ok hc
    obtain ⟨x, rfl⟩ : ∃ x : Nat, a = x := ⟨a.toNat, by omega⟩
    rw [hp]
    simp only [Int.toNat_natCast]
    have hbl := h.2.2.2
    have HL := Lib.hid (wr_length bs x (m64 n).toNat)
    obtain ⟨nb, hnn⟩ : ∃ nb, bs.length = nb := ⟨_, rfl⟩
    rw [hnn] at hbl ha1 HL
    have hw := wrap_u64 n
    obtain ⟨u, hu⟩ : ∃ u : Nat, m64 n = u := ⟨(m64 n).toNat, by have := m64_bd n; omega⟩
    have hub : u ≤ 18446744073709551615 := by have := m64_bd n; omega
    have HU := Lib.hid (show (m64 n).toNat = u by omega)
    rw [hu] at hw
    clear h hc hp hnn hu
    go_enter Try.func16, Try.ntmps16
    go_wp2_with (go_at_call 58; refine (HC.out _ H.out).mono ?_; rintro e w' ⟨rfl, rfl⟩)
    go_loopw [8, 9] (fun uv iv wr' => ∃ k v : Nat, k ≤ 8 ∧ iv = .int .i64 k ∧ uv = .int .u64 v ∧ v ≤ 18446744073709551615 ∧ v = u / 256 ^ k ∧ Mat 112 wr' p g (wr bs x (m64 n).toNat k) ∧ Only g w' wr') (fun _ iv _ => 8 - (intOf iv).toNat)
    case atStart => exact ⟨0, u, by omega, rfl, rfl, hub, by simp, H.out, Fr.refl _ _⟩
    case round =>
      obtain ⟨k, v, hk, rfl, rfl, hv, hvk, hM, hF⟩ := hrel
      have HV := Lib.hid hvk
      clear hvk
      by_cases hlt : k < 8
      · have h0 := hM.hd
        rw [HL.out] at h0
        have hcell := hM.at (x + k) (by rw [HL.out]; omega)
        have hfree := hM.free (x + k)
        have HM := Lib.hid hM
        have HF := Lib.hid hF
        clear hM hF
        go_wp2
        go_roundw
        case rel =>
          refine ⟨k + 1, v / 256, by omega, by go_num, by go_num, by omega, ?_, ?_, ?_⟩
          · rw [HV.out, Nat.div_div_eq_div_mul, Nat.pow_succ]
          · have hs := HM.out.set (x + k) (UInt8.ofNat ((m64 n).toNat / 256 ^ k % 256))
            rw [HU.out, ← HV.out] at hs
            rw [Mem.wr, HU.out, ← HV.out]
            simpa [bv, HU.out] using hs
          · exact HF.out.setOne _ _
        case measure => simp only [intOf]; omega
      · obtain rfl : k = 8 := by omega
        have HM := Lib.hid hM
        have HF := Lib.hid hF
        clear hM hF
        go_wp2
        go_ret
        exact ⟨rfl, HM.out, HF.out⟩
  · have hp : setc bs a n = bs := by unfold setc; rw [if_neg (by rw [hc]; exact hz)]
    rw [hp]
    have hz' : (c != 0) = true := by simp [hz]
    clear h hc hp hz
    go_enter Try.func16, Try.ntmps16
    go_wp2_with (go_at_call 58; refine (HC.out _ H.out).mono ?_; rintro e w' ⟨rfl, rfl⟩)
    go_ret
    exact ⟨rfl, H.out, Fr.refl _ _⟩

set_option maxRecDepth 100000 in
set_option maxHeartbeats 1000000 in
theorem rtext_any (p g : Nat) (bs : List UInt8) (a k : Int) (w : World) (h : Mat 112 w p g bs) :
    Calls Try.prog 55 #[.pointer (some ⟨p, 0, none⟩), .int .i64 a, .int .i64 k] w fun e w' => e = .returned (.tuple #[.string ⟨(txt bs a k).1.toArray⟩, .int .i64 (txt bs a k).2]) ∧ w' = w := by
  have hh := fun w h => rhas_any p g bs a k w h
  have H := Lib.hid h
  by_cases h1 : has bs.length a k = true
  · have hp : txt bs a k = (text bs a.toNat k.toNat, 0) := by unfold txt; rw [if_pos h1]
    rw [hp]
    rw [h1] at hh
    have HH := Lib.hid hh
    clear hh hp
    simp [has] at h1
    obtain ⟨x, rfl⟩ : ∃ x : Nat, a = x := ⟨a.toNat, by omega⟩
    obtain ⟨n, rfl⟩ : ∃ n : Nat, k = n := ⟨k.toNat, by omega⟩
    simp only [Int.toNat_natCast]
    have h0 := h.hd
    have hn := h.2.2.2
    have hl : (text bs x n).length = n := text_length _ _ _ (by omega)
    by_cases hx : bs.length = x
    · obtain rfl : n = 0 := by omega
      have hc := run_convert_bytes_arg (P := Try.prog) w 53 5 Try.underlying53 Try.underlying5 g 0 0 0 [] rfl (fun i hi => by omega) 9 Try.underlying9
      have ht : (text bs x 0) = [] := by simp [text]
      rw [ht]
      rw [show strOfNums [] = ByteArray.mk #[] from rfl] at hc
      obtain ⟨nb, hnn⟩ : ∃ nb, bs.length = nb := ⟨_, rfl⟩
      rw [hnn] at h0 hn h1 hx
      subst hx
      clear h hl ht hnn
      go_enter Try.func55, Try.ntmps55
      go_wp2_with (go_at_call 100; refine (HH.out _ H.out).mono ?_; rintro e w' ⟨rfl, rfl⟩)
      go_ret2
      exact ⟨rfl, rfl⟩
    · have hc := run_convert_bytes_arg (P := Try.prog) w 53 5 Try.underlying53 Try.underlying5 g x n (bs.length - x) ((text bs x n).map fun b => (b.toNat : Int)) (by simp [hl]) (fun i hi => by
        rw [h.at (x + i) (by omega), getD_bytes, text_get bs x n i hi]) 9 Try.underlying9
      rw [strOf_bytes] at hc
      obtain ⟨st, hst⟩ : ∃ st : ByteArray, ⟨(text bs x n).toArray⟩ = st := ⟨_, rfl⟩
      rw [hst] at hc ⊢
      obtain ⟨nb, hnn⟩ : ∃ nb, bs.length = nb := ⟨_, rfl⟩
      rw [hnn] at hc h0 hn h1 hx
      clear h hst hl hnn
      go_enter Try.func55, Try.ntmps55
      go_wp2_with (go_at_call 100; refine (HH.out _ H.out).mono ?_; rintro e w' ⟨rfl, rfl⟩)
      go_ret2
      exact ⟨rfl, rfl⟩
  · have hp : txt bs a k = ([], -9) := by unfold txt; rw [if_neg h1]
    rw [hp]
    have h1' : has bs.length a k = false := by simpa using h1
    rw [h1'] at hh
    have HH := Lib.hid hh
    clear hh h1 h1' h hp
    go_enter Try.func55, Try.ntmps55
    go_wp2_with (go_at_call 100; refine (HH.out _ H.out).mono ?_; rintro e w' ⟨rfl, rfl⟩)
    go_ret2
    exact ⟨rfl, rfl⟩

theorem Mat.put1 {t : TypeId} {w : World} {p g : Nat} {bs l : List UInt8} {x k : Nat} (h : Mat t w p g (putk bs x l k)) (hk : k < l.length) (hx : x + l.length ≤ bs.length) :
    Mat t (w.setCell ⟨g, x + k, none⟩ (.int .u8 ((l.getD k 0).toNat : Int))) p g (putk bs x l (k + 1)) := by
  have := h.set (x + k) (l.getD k 0)
  rw [putk_set bs x l k hk hx] at this
  exact this

set_option maxRecDepth 100000 in
set_option maxHeartbeats 1000000 in
theorem rsetText_any (p g : Nat) (bs : List UInt8) (a : Int) (s : ByteArray) (w : World) (h : Mat 112 w p g bs) (hsz : s.size ≤ 1048576) :
    Calls Try.prog 56 #[.pointer (some ⟨p, 0, none⟩), .int .i64 a, .string s] w fun e w' => e = .returned (.int .i64 (codet bs a s.data.toList)) ∧ Mat 112 w' p g (sett bs a s.data.toList) ∧ Only g w w' := by
  have hlen : s.data.toList.length = s.size := Array.length_toList
  have hh := fun w h => rhas_any p g bs a s.size w h
  have H := Lib.hid h
  by_cases h1 : has bs.length a s.size = true
  · have hp : codet bs a s.data.toList = 0 ∧ sett bs a s.data.toList = put bs a.toNat s.data.toList := by unfold codet sett; rw [hlen, if_pos h1, if_pos h1]; exact ⟨rfl, rfl⟩
    rw [hp.1, hp.2]
    rw [h1] at hh
    have HH := Lib.hid hh
    clear hh hp
    simp [has] at h1
    obtain ⟨x, rfl⟩ : ∃ x : Nat, a = x := ⟨a.toNat, by omega⟩
    simp only [Int.toNat_natCast]
    have hn := h.2.2.2
    have HLn := Lib.hid hlen
    have HL := Lib.hid (fun k hk => putk_length bs x s.data.toList k hk (by omega))
    obtain ⟨nb, hnn⟩ : ∃ nb, bs.length = nb := ⟨_, rfl⟩
    have HNN := Lib.hid hnn
    rw [hnn] at hn h1 HL
    clear h hnn hlen
    go_enter Try.func56, Try.ntmps56
    go_wp2_with (go_at_call 100; refine (HH.out _ H.out).mono ?_; rintro e w' ⟨rfl, rfl⟩)
    go_loopw [8] (fun iv wr' => ∃ k : Nat, k ≤ s.size ∧ iv = .int .i64 k ∧ Mat 112 wr' p g (putk bs x s.data.toList k) ∧ Only g w' wr') (fun iv _ => s.size - (intOf iv).toNat)
    case atStart => exact ⟨0, by omega, rfl, by rw [putk_zero]; exact H.out, Fr.refl _ _⟩
    case round =>
      obtain ⟨k, hk, rfl, hM, hF⟩ := hrel
      by_cases hlt : k < s.size
      · have h0 := hM.hd
        rw [HL.out k (by rw [HLn.out]; exact hk)] at h0
        have hcell := hM.at (x + k) (by rw [HL.out k (by rw [HLn.out]; exact hk)]; omega)
        have hfree := hM.free (x + k)
        have hM1 := hM.put1 (l := s.data.toList) (bs := bs) (by rw [HLn.out]; exact hlt) (by rw [HLn.out, HNN.out]; omega)
        have hidx : s.data.toList.getD k 0 = s[k] := by
          rw [List.getD_eq_getElem?_getD, List.getElem?_eq_getElem (by rw [HLn.out]; exact hlt)]
          rfl
        rw [hidx] at hM1
        have HM := Lib.hid hM1
        have HF := Lib.hid hF
        clear hM1 hidx
        clear hM hF
        go_wp2
        go_region
        go_wp2
        go_roundw
        case rel => exact ⟨k + 1, by omega, by go_num, HM.out, (HF.out.setOne _ _).drew⟩
        case measure => simp only [intOf]; omega
      · obtain rfl : k = s.size := by omega
        have HM := Lib.hid hM
        have HF := Lib.hid hF
        clear hM hF
        go_wp2
        go_ret
        exact ⟨rfl, by rw [← putk_all, HLn.out]; exact HM.out, HF.out⟩
  · have hp : codet bs a s.data.toList = -9 ∧ sett bs a s.data.toList = bs := by unfold codet sett; rw [hlen, if_neg h1, if_neg h1]; exact ⟨rfl, rfl⟩
    rw [hp.1, hp.2]
    have h1' : has bs.length a s.size = false := by simpa using h1
    rw [h1'] at hh
    have HH := Lib.hid hh
    clear hh h1 h1' h hp hlen
    go_enter Try.func56, Try.ntmps56
    go_wp2_with (go_at_call 100; refine (HH.out _ H.out).mono ?_; rintro e w' ⟨rfl, rfl⟩)
    go_ret
    exact ⟨rfl, H.out, Fr.refl _ _⟩

set_option maxRecDepth 100000 in
set_option maxHeartbeats 1000000 in
theorem rnew_ok (n : Nat) (w : World) (hn : n ≤ 1048576) :
    Calls Try.prog 12 #[.int .i64 n] w fun e w' => e = .returned (.pointer (some ⟨w.heap.size + 1, 0, none⟩)) ∧ Mat 112 w' (w.heap.size + 1) w.heap.size (List.replicate n 0) ∧ Fr (fun _ => False) w w' := by
  have hmk := run_make_row' (P := Try.prog) 53 5 (.int .u8 0) 1 Try.underlying53 (by kernel_rfl) rfl .i64 .i64 n (by omega) (by omega)
  have hrow : madeCells #[.int .u8 0] n = ((List.replicate n 0).map bv).toArray := by
    apply Array.ext'
    rw [toList_madeCells_one]
    simp [List.map_replicate, bv]
  rw [hrow] at hmk
  obtain ⟨L, hL⟩ : ∃ L, ((List.replicate n 0).map bv).toArray = L := ⟨_, rfl⟩
  rw [hL] at hmk
  have hw1 := heap_alloc_last w (.cells L 5)
  clear hrow
  go_enter Try.func12, Try.ntmps12
  go_wp2
  go_ret
  have hsz : (w.alloc (.cells L 5)).heap.size = w.heap.size + 1 := by simp
  refine ⟨rfl, ⟨by omega, ?_, ?_, by rw [List.length_replicate]; exact hn⟩, ((Fr.refl _ _).alloc _).alloc _⟩
  · have := heap_alloc_last (w.alloc (.cells L 5)) (.cells #[.slice (some ⟨w.heap.size, 0, none⟩) n n] 112)
    rw [hsz] at this
    rw [List.length_replicate]
    exact this
  · rw [Below.heap_alloc _ _ _ (by omega), hw1, hL]

end Go.Proofs.Ytajeiccfgnpbpaa.Mem
