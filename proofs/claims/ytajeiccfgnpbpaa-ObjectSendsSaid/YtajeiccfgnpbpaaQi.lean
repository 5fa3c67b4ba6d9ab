/- Several texts in one: HeapA, HpA, HpD, HpB, HpC, HpE. -/
import Derived.Test.YtajeiccfgnpbpaaQh
import Derived.Deep.RegionHeld3
import Derived.Laws.DeepBits32
import Derived.Deep.DeepCutAuto
set_option linter.unusedSimpArgs false
set_option linter.unusedVariables false
/- Contracts of package heap, as far as the statements' example goes: a heap of one unused block. -/
namespace Go.Proofs.Ytajeiccfgnpbpaa.Mem
open Go.RowKit

/-- At hb lies a heap of the memory at p, from one place to another. -/
def Heap (w : World) (hb p : Nat) (a z : Int) : Prop := w.heap[hb]? = some (.cells #[.pointer (some ⟨p, 0, none⟩), .int .i64 a, .int .i64 z] 156 (0, 0))

set_option maxRecDepth 100000 in
set_option maxHeartbeats 1000000 in
theorem hput_any (hb p g : Nat) (bs : List UInt8) (a z x n : Int) (u : Bool) (w : World) (h : Mat 108 w p g bs) (hh : Heap w hb p a z) (hn : 0 ≤ n ∧ n ≤ 1048576) :
    Calls Try.prog 87 #[.pointer (some ⟨hb, 0, none⟩), .agg #[.int .i64 x, .int .i64 n, .bool u]] w
      fun e w' => e = .returned (.tuple #[]) ∧ Mat 108 w' p g (setc bs x (if u = true then n + 1 else n)) ∧ Only g w w' := by
  have FA := (Fr.refl (fun _ => False) w).alloc (.cells #[.int .i64 x, .int .i64 n, .bool u] 159)
  have OA := heap_alloc_last w (.cells #[.int .i64 x, .int .i64 n, .bool u] 159)
  have hh1 := FA.obj hh id
  obtain ⟨q0, q1, q2, _, _, _, _⟩ := three_cells hh1
  obtain ⟨r0, r1, r2, _, _, _, _⟩ := three_cells OA
  have MA := Lib.hid (h.fr FA id id)
  have HX := Lib.hid (fun v w h => setCell_any p g bs x v w h)
  have HFA := Lib.hid FA
  clear h hh OA hh1 FA
  cases u
  all_goals
    first | rw [if_pos rfl] | rw [if_neg (by decide)]
    go_enter Try.func87, Try.ntmps87
    go_wp2_with fail
    go_region_with (go_at_call 15; refine (HX.out _ _ (Mat.drew MA.out)).mono ?_; rintro e w1 ⟨rfl, hm, hf⟩; have hf1 := Fr.undrew hf)
    all_goals
      go_wp2_with fail
      (try simp only [Exit.inBlock, Exit.then])
      first
      | refine bodyPost_end (results_none rfl _ _ _) rfl ⟨rfl, hm, ?_⟩
      | refine bodyPost_ret (results_none rfl _ _ _) rfl ⟨rfl, hm, ?_⟩
      exact (Fr.some HFA.out fun _ e => e.elim).trans hf1
end Go.Proofs.Ytajeiccfgnpbpaa.Mem

/- Plain mathematics of a heap's blocks: headers that tile a part of a memory. No program. -/
namespace Go.Proofs.Ytajeiccfgnpbpaa.Mem
open Go.RowKit

theorem wrap_i64_small (n : Int) (h0 : 0 ≤ n) (h1 : n < 9223372036854775808) : IntKind.i64.wrap n = n := by
  simp [IntKind.wrap, IntKind.bits, IntKind.signed]
  split <;> omega

theorem ofInt_64 (x : Nat) (hx : x < 18446744073709551616) : (BitVec.ofInt 64 (x : Int)).toNat = x := by
  rw [BitVec.toNat_ofInt]
  omega

theorem and_even64 (x : Nat) (hx : x < 18446744073709551616) : x &&& 18446744073709551614 = x - x % 2 := by
  apply Nat.eq_of_testBit_eq
  intro i
  rw [Nat.testBit_and]
  cases i with
  | zero =>
    have h1 : Nat.testBit 18446744073709551614 0 = false := by decide
    have h2 : (x - x % 2).testBit 0 = false := by
      rw [Nat.testBit_zero]
      have : (x - x % 2) % 2 = 0 := by omega
      simp [this]
    rw [h1, h2, Bool.and_false]
  | succ i =>
    have h1 : Nat.testBit 18446744073709551614 (i + 1) = decide (i < 63) := by
      rw [Nat.testBit_succ, show 18446744073709551614 / 2 = 2 ^ 63 - 1 by decide, Nat.testBit_two_pow_sub_one]
    have h2 : (x - x % 2).testBit (i + 1) = x.testBit (i + 1) := by
      rw [Nat.testBit_succ, Nat.testBit_succ, show (x - x % 2) / 2 = x / 2 by omega]
    rw [h1, h2]
    by_cases hi : i < 63
    · simp [hi]
    · have : x.testBit (i + 1) = false := Nat.testBit_lt_two_pow (Nat.lt_of_lt_of_le hx (by
        have : 2 ^ 64 ≤ 2 ^ (i + 1) := Nat.pow_le_pow_right (by omega) (by omega)
        simpa using this))
      simp [hi, this]

theorem i64_andNot1 (x : Nat) (hx : x < 9223372036854775808) : bits .andNot .i64 (x : Int) 1 = ((x - x % 2 : Nat) : Int) := by
  show IntKind.i64.wrap ((BitVec.ofInt 64 (x : Int) &&& ~~~BitVec.ofInt 64 1).toNat : Int) = _
  have h1 : (BitVec.ofInt 64 1).toNat = 1 := by decide
  rw [BitVec.toNat_and, BitVec.toNat_not, ofInt_64 x (by omega), h1, show 2 ^ 64 - 1 - 1 = 18446744073709551614 by decide, and_even64 x (by omega)]
  exact wrap_i64_small _ (by omega) (by omega)
theorem i64_and1 (x : Nat) (hx : x < 9223372036854775808) : bits .and .i64 (x : Int) 1 = ((x % 2 : Nat) : Int) := by
  show IntKind.i64.wrap ((BitVec.ofInt 64 (x : Int) &&& BitVec.ofInt 64 1).toNat : Int) = _
  have h1 : (BitVec.ofInt 64 1).toNat = 1 := by decide
  rw [BitVec.toNat_and, ofInt_64 x (by omega), h1, Nat.and_one_is_mod]
  exact wrap_i64_small _ (by omega) (by omega)

/-- A block: its size, and is it used? -/
abbrev Bk := Nat × Bool

/-- What stands in a block's header. -/
def hd (b : Bk) : Int := if b.2 = true then (b.1 : Int) + 1 else b.1

theorem hd_size (b : Bk) (h8 : b.1 % 8 = 0) (hb : b.1 ≤ 1048576) : bits .andNot .i64 (hd b) 1 = b.1 := by
  obtain ⟨n, u⟩ := b
  cases u
  · show bits .andNot .i64 (n : Int) 1 = n
    rw [i64_andNot1 n (by dsimp only at *; omega)]
    dsimp only at *
    omega
  · show bits .andNot .i64 ((n : Int) + 1) 1 = n
    rw [show ((n : Int) + 1) = ((n + 1 : Nat) : Int) by omega, i64_andNot1 (n + 1) (by dsimp only at *; omega)]
    dsimp only at *
    omega
theorem hd_used (b : Bk) (h8 : b.1 % 8 = 0) (hb : b.1 ≤ 1048576) : (bits .and .i64 (hd b) 1 != 0) = b.2 := by
  obtain ⟨n, u⟩ := b
  cases u
  · show (bits .and .i64 (n : Int) 1 != 0) = false
    rw [i64_and1 n (by dsimp only at *; omega)]
    have : n % 2 = 0 := by dsimp only at *; omega
    simp [this]
  · show (bits .and .i64 ((n : Int) + 1) 1 != 0) = true
    rw [show ((n : Int) + 1) = ((n + 1 : Nat) : Int) by omega, i64_and1 (n + 1) (by dsimp only at *; omega)]
    have : (n + 1) % 2 = 1 := by dsimp only at *; omega
    simp [this]

/-- Blocks tile a memory from one place to another. -/
def Blks (bs : List UInt8) (z : Nat) : Nat → List Bk → Prop
  | a, [] => a = z
  | a, b :: l => b.1 % 8 = 0 ∧ 16 ≤ b.1 ∧ a + b.1 ≤ z ∧ cellv bs a = hd b ∧ Blks bs z (a + b.1) l

/-- Where the k-th block begins. -/
def boff (a : Nat) (l : List Bk) (k : Nat) : Nat := a + ((l.take k).map (·.1)).sum

theorem boff_zero (a : Nat) (l : List Bk) : boff a l 0 = a := by simp [boff]
theorem boff_cons (a : Nat) (b : Bk) (l : List Bk) (k : Nat) : boff a (b :: l) (k + 1) = boff (a + b.1) l k := by simp [boff]; omega
theorem boff_succ (a : Nat) (l : List Bk) (k : Nat) (h : k < l.length) : boff a l (k + 1) = boff a l k + l[k].1 := by
  induction l generalizing a k with
  | nil => simp at h
  | cons b l ih =>
    cases k with
    | zero => simp [boff]
    | succ k =>
      rw [boff_cons, boff_cons, ih _ _ (by simpa using h)]
      rfl

theorem Blks.le {bs : List UInt8} {z a : Nat} {l : List Bk} (h : Blks bs z a l) : a ≤ z := by
  cases l with
  | nil => exact Nat.le_of_eq h
  | cons b l => have := h.2.2.1; omega
theorem Blks.last {bs : List UInt8} {z a : Nat} {l : List Bk} (h : Blks bs z a l) : boff a l l.length = z := by
  induction l generalizing a with
  | nil =>
    show boff a [] 0 = z
    rw [boff_zero]
    exact h
  | cons b l ih => rw [List.length_cons, boff_cons]; exact ih h.2.2.2.2
theorem Blks.get {bs : List UInt8} {z a : Nat} {l : List Bk} (h : Blks bs z a l) (k : Nat) (hk : k < l.length) :
    l[k].1 % 8 = 0 ∧ 16 ≤ l[k].1 ∧ boff a l k + l[k].1 ≤ z ∧ cellv bs (boff a l k) = hd l[k] := by
  induction l generalizing a k with
  | nil => simp at hk
  | cons b l ih =>
    cases k with
    | zero => rw [boff_zero]; exact ⟨h.1, h.2.1, h.2.2.1, h.2.2.2.1⟩
    | succ k => rw [boff_cons]; exact ih h.2.2.2.2 k (by simpa using hk)
theorem Blks.bd {bs : List UInt8} {z a : Nat} {l : List Bk} (h : Blks bs z a l) (k : Nat) (hk : k ≤ l.length) : a + 16 * k ≤ boff a l k ∧ boff a l k ≤ z := by
  induction l generalizing a k with
  | nil =>
    have : k = 0 := by simpa using hk
    subst this
    rw [boff_zero]
    exact ⟨by omega, h.le⟩
  | cons b l ih =>
    cases k with
    | zero => rw [boff_zero]; exact ⟨by omega, h.le⟩
    | succ k =>
      rw [boff_cons]
      have := ih h.2.2.2.2 k (by simpa using hk)
      have := h.2.1
      omega
theorem Blks.lt {bs : List UInt8} {z a : Nat} {l : List Bk} (h : Blks bs z a l) (k : Nat) (hk : k ≤ l.length) : k < l.length ↔ boff a l k < z := by
  constructor
  · intro hl
    have := h.get k hl
    omega
  · intro hz
    rcases Nat.lt_or_ge k l.length with h1 | h1
    · exact h1
    · have : k = l.length := by omega
      subst this
      rw [h.last] at hz
      omega
theorem Blks.aligned {bs : List UInt8} {z a : Nat} {l : List Bk} (h : Blks bs z a l) (k : Nat) (hk : k ≤ l.length) (ha : a % 8 = 0) : boff a l k % 8 = 0 := by
  induction l generalizing a k with
  | nil =>
    have : k = 0 := by simpa using hk
    subst this
    rw [boff_zero]
    exact ha
  | cons b l ih =>
    cases k with
    | zero => rw [boff_zero]; exact ha
    | succ k =>
      rw [boff_cons]
      exact ih h.2.2.2.2 k (by simpa using hk) (by have := h.1; omega)

/-- Bytes that have the same headers have the same blocks. -/
theorem Blks.congr {bs cs : List UInt8} {z a : Nat} {l : List Bk} (h : Blks bs z a l) (hc : ∀ k, k < l.length → cellv cs (boff a l k) = cellv bs (boff a l k)) : Blks cs z a l := by
  induction l generalizing a with
  | nil => exact h
  | cons b l ih =>
    refine ⟨h.1, h.2.1, h.2.2.1, ?_, ih h.2.2.2.2 fun k hk => ?_⟩
    · have := hc 0 (by simp)
      rw [boff_zero] at this
      rw [this]
      exact h.2.2.2.1
    · have := hc (k + 1) (by simpa using hk)
      rwa [boff_cons] at this

theorem Blks.append {bs : List UInt8} {z a : Nat} {l m : List Bk} : Blks bs z a (l ++ m) ↔ ∃ y, Blks bs y a l ∧ Blks bs z y m ∧ y ≤ z := by
  induction l generalizing a with
  | nil =>
    constructor
    · intro h
      exact ⟨a, rfl, h, h.le⟩
    · rintro ⟨y, h1, h2, _⟩
      have : a = y := h1
      subst this
      exact h2
  | cons b l ih =>
    constructor
    · intro h
      obtain ⟨y, h1, h2, h3⟩ := ih.1 h.2.2.2.2
      exact ⟨y, ⟨h.1, h.2.1, h1.le, h.2.2.2.1, h1⟩, h2, h3⟩
    · rintro ⟨y, h1, h2, h3⟩
      exact ⟨h1.1, h1.2.1, by have := h1.2.2.1; omega, h1.2.2.2.1, ih.2 ⟨y, h1.2.2.2.2, h2, h3⟩⟩
end Go.Proofs.Ytajeiccfgnpbpaa.Mem

/- Plain mathematics of a heap's blocks: which are used, joining, splitting. No program. -/
namespace Go.Proofs.Ytajeiccfgnpbpaa.Mem
open Go.RowKit

/-- All bytes of blocks. -/
def btot : List Bk → Nat
  | [] => 0
  | b :: l => b.1 + btot l
theorem btot_append (l m : List Bk) : btot (l ++ m) = btot l + btot m := by
  induction l with
  | nil => simp [btot]
  | cons b l ih => simp [btot, ih]; omega

/-- A used block's bytes begin at x, and it has m bytes with its header. -/
def UsedAt : Nat → List Bk → Nat → Nat → Prop
  | _, [], _, _ => False
  | a, b :: l, x, m => (b.2 = true ∧ b.1 = m ∧ a + 8 = x) ∨ UsedAt (a + b.1) l x m

theorem used_append (a : Nat) (l r : List Bk) (x m : Nat) : UsedAt a (l ++ r) x m ↔ UsedAt a l x m ∨ UsedAt (a + btot l) r x m := by
  induction l generalizing a with
  | nil => simp [UsedAt, btot]
  | cons b l ih =>
    simp only [List.cons_append, UsedAt, ih, btot, or_assoc, Nat.add_assoc]

theorem used_get (a : Nat) (l : List Bk) (x m : Nat) : UsedAt a l x m ↔ ∃ k, l[k]? = some (m, true) ∧ boff a l k + 8 = x := by
  induction l generalizing a with
  | nil => simp [UsedAt]
  | cons b l ih =>
    constructor
    · rintro (⟨h1, h2, h3⟩ | h)
      · exact ⟨0, by rw [List.getElem?_cons_zero]; exact congrArg some (Prod.ext h2 h1), by rw [boff_zero]; exact h3⟩
      · obtain ⟨k, h1, h2⟩ := (ih _).1 h
        exact ⟨k + 1, by rw [List.getElem?_cons_succ]; exact h1, by rw [boff_cons]; exact h2⟩
    · rintro ⟨k, h1, h2⟩
      cases k with
      | zero =>
        rw [List.getElem?_cons_zero] at h1
        have := Option.some.inj h1
        subst this
        rw [boff_zero] at h2
        exact .inl ⟨rfl, rfl, h2⟩
      | succ k =>
        rw [List.getElem?_cons_succ] at h1
        rw [boff_cons] at h2
        exact .inr ((ih _).2 ⟨k, h1, h2⟩)

theorem Blks.btot {bs : List UInt8} {z a : Nat} {l : List Bk} (h : Blks bs z a l) : a + btot l = z := by
  induction l generalizing a with
  | nil => exact h
  | cons b l ih =>
    have := ih h.2.2.2.2
    simp only [Mem.btot]
    omega

theorem Blks.usedIn {bs : List UInt8} {z a : Nat} {l : List Bk} (h : Blks bs z a l) {x m : Nat} (hu : UsedAt a l x m) : a + 8 ≤ x ∧ 16 ≤ m ∧ m % 8 = 0 ∧ x + m ≤ z + 8 := by
  induction l generalizing a with
  | nil => exact hu.elim
  | cons b l ih =>
    rcases hu with ⟨_, h2, h3⟩ | hu
    · have := h.1; have := h.2.1; have := h.2.2.1
      subst h2; subst h3
      omega
    · have := ih h.2.2.2.2 hu
      omega

/-- Two used blocks are one, or lie apart. -/
theorem Blks.apart {bs : List UInt8} {z a : Nat} {l : List Bk} (h : Blks bs z a l) {x m x' m' : Nat} (hu : UsedAt a l x m) (hv : UsedAt a l x' m') : (x = x' ∧ m = m') ∨ x + m ≤ x' ∨ x' + m' ≤ x := by
  induction l generalizing a with
  | nil => exact hu.elim
  | cons b l ih =>
    rcases hu with ⟨_, h2, h3⟩ | hu <;> rcases hv with ⟨_, k2, k3⟩ | hv
    · subst h2; subst h3; subst k2
      exact .inl ⟨k3, rfl⟩
    · have := h.2.2.2.2.usedIn hv
      omega
    · have := h.2.2.2.2.usedIn hu
      omega
    · exact ih h.2.2.2.2 hu hv

theorem Blks.headers {bs cs : List UInt8} {z a : Nat} {l : List Bk} (h : Blks bs z a l) (hc : ∀ y, a ≤ y → y + 16 ≤ z → cellv cs y = cellv bs y) : Blks cs z a l :=
  h.congr fun k hk => hc _ (by have := h.bd k (by omega); omega) (by have := h.get k hk; omega)

theorem getD_setv (bs : List UInt8) (y : Nat) (n : Int) (i : Nat) (h : i < y ∨ y + 8 ≤ i) : (setv bs y n).getD i 0 = bs.getD i 0 := by
  unfold setv
  rw [wr_get]
  rw [if_neg (by omega)]

/-- What of a heap's memory stays: all bytes outside, and those of used blocks. -/
def Keeps (a z : Nat) (l : List Bk) (bs cs : List UInt8) : Prop :=
  cs.length = bs.length ∧ (∀ i, i < a ∨ z ≤ i → cs.getD i 0 = bs.getD i 0) ∧ ∀ x m, UsedAt a l x m → ∀ i, x ≤ i → i + 8 < x + m → cs.getD i 0 = bs.getD i 0

theorem Keeps.refl (a z : Nat) (l : List Bk) (bs : List UInt8) : Keeps a z l bs bs := ⟨rfl, fun _ _ => rfl, fun _ _ _ _ _ _ => rfl⟩

theorem keeps_setv {a z : Nat} {l : List Bk} {bs : List UInt8} (y : Nat) (n : Int) (h1 : a ≤ y) (h2 : y + 8 ≤ z) (h3 : ∀ x m, UsedAt a l x m → y + 8 ≤ x ∨ x + m ≤ y + 8) : Keeps a z l bs (setv bs y n) :=
  ⟨setv_length _ _ _, fun i hi => getD_setv _ _ _ _ (by omega), fun x m hu i hi hj => getD_setv _ _ _ _ (by have := h3 x m hu; omega)⟩
theorem Keeps.trans {a z : Nat} {l : List Bk} {bs cs ds : List UInt8} (h : Keeps a z l bs cs) (k : Keeps a z l cs ds) : Keeps a z l bs ds :=
  ⟨k.1.trans h.1, fun i hi => (k.2.1 i hi).trans (h.2.1 i hi), fun x m hu i h1 h2 => (k.2.2 x m hu i h1 h2).trans (h.2.2 x m hu i h1 h2)⟩

theorem Blks.tot8 {bs : List UInt8} {z a : Nat} {l : List Bk} (h : Blks bs z a l) (hm : l ≠ []) : Mem.btot l % 8 = 0 ∧ 16 ≤ Mem.btot l := by
  induction l generalizing a with
  | nil => exact absurd rfl hm
  | cons b l ih =>
    have := h.1; have := h.2.1
    by_cases he : l = []
    · subst he
      simp only [Mem.btot]
      omega
    · have := ih h.2.2.2.2 he
      simp only [Mem.btot]
      omega

/-- Several blocks become an unused one. -/
theorem Blks.join {bs : List UInt8} {z a : Nat} {pre mid suf : List Bk} (h : Blks bs z a (pre ++ (mid ++ suf))) (hm : mid ≠ []) (hz : z ≤ bs.length) (hz2 : bs.length ≤ 1048576) :
    Blks (setv bs (a + Mem.btot pre) (Mem.btot mid)) z a (pre ++ ([(Mem.btot mid, false)] ++ suf)) ∧ a + Mem.btot pre + Mem.btot mid ≤ z ∧ 16 ≤ Mem.btot mid := by
  obtain ⟨y, h1, h2, h3⟩ := Blks.append.1 h
  obtain ⟨y2, h4, h5, h6⟩ := Blks.append.1 h2
  have t1 := h1.btot
  have t2 := h4.btot
  have m8 := h4.tot8 hm
  subst t1
  refine ⟨Blks.append.2 ⟨_, h1.headers fun c _ hc => ?_, ⟨m8.1, m8.2, by dsimp only; omega, ?_, ?_⟩, h3⟩, by omega, m8.2⟩
  · exact cellv_other _ _ _ _ (by omega)
  · rw [cellv_same _ _ _ (by omega) (by omega)]
    rfl
  · dsimp only
    rw [t2]
    exact h5.headers fun c hc _ => cellv_other _ _ _ _ (by omega)

/-- An unused block is used, whole. -/
theorem Blks.take_all {bs : List UInt8} {z a : Nat} {pre suf : List Bk} {m : Nat} (h : Blks bs z a (pre ++ ((m, false) :: suf))) (hz : z ≤ bs.length) (hz2 : bs.length ≤ 1048576) :
    Blks (setv bs (a + Mem.btot pre) ((m : Int) + 1)) z a (pre ++ ((m, true) :: suf)) ∧ a + Mem.btot pre + m ≤ z ∧ 16 ≤ m := by
  obtain ⟨y, h1, h2, h3⟩ := Blks.append.1 h
  obtain ⟨g1, g2, g3, g4, g5⟩ := h2
  have t1 := h1.btot
  dsimp only at g1 g2 g3 g5
  subst t1
  refine ⟨Blks.append.2 ⟨_, h1.headers fun c _ hc => ?_, ⟨g1, g2, g3, ?_, ?_⟩, h3⟩, by omega, g2⟩
  · exact cellv_other _ _ _ _ (by omega)
  · rw [cellv_same _ _ _ (by omega) (by omega)]
    rfl
  · exact g5.headers fun c hc _ => cellv_other _ _ _ _ (by omega)

/-- The first part of an unused block is used. -/
theorem Blks.take_part {bs : List UInt8} {z a : Nat} {pre suf : List Bk} {m n : Nat} (h : Blks bs z a (pre ++ ((m, false) :: suf))) (hz : z ≤ bs.length) (hz2 : bs.length ≤ 1048576) (hn : n % 8 = 0) (hn1 : 16 ≤ n) (hn2 : n + 16 ≤ m) :
    Blks (setv (setv bs (a + Mem.btot pre) ((n : Int) + 1)) (a + Mem.btot pre + n) ((m - n : Nat) : Int)) z a (pre ++ ((n, true) :: (m - n, false) :: suf)) ∧ a + Mem.btot pre + m ≤ z := by
  obtain ⟨y, h1, h2, h3⟩ := Blks.append.1 h
  obtain ⟨g1, g2, g3, g4, g5⟩ := h2
  have t1 := h1.btot
  dsimp only at g1 g2 g3 g5
  subst t1
  refine ⟨Blks.append.2 ⟨_, h1.headers fun c _ hc => ?_, ⟨hn, hn1, by dsimp only; omega, ?_, ?_⟩, h3⟩, by omega⟩
  · rw [cellv_other _ _ _ _ (by omega), cellv_other _ _ _ _ (by omega)]
  · rw [cellv_other _ _ _ _ (by omega), cellv_same _ _ _ (by omega) (by omega)]
    rfl
  · refine ⟨by dsimp only; omega, by dsimp only; omega, by dsimp only; omega, ?_, ?_⟩
    · dsimp only
      rw [cellv_same _ _ _ (by rw [setv_length]; omega) (by omega)]
      rfl
    · dsimp only
      rw [show a + Mem.btot pre + n + (m - n) = a + Mem.btot pre + m by omega]
      exact g5.headers fun c hc _ => by rw [cellv_other _ _ _ _ (by omega), cellv_other _ _ _ _ (by omega)]
end Go.Proofs.Ytajeiccfgnpbpaa.Mem

/- Contracts of package heap, at any blocks: walk. -/
namespace Go.Proofs.Ytajeiccfgnpbpaa.Mem
open Go.RowKit

/-- Blocks, as cells of a slice. -/
def bkcells (a : Nat) (l : List Bk) (k : Nat) : List Value := (List.range k).flatMap fun i => [.int .i64 (boff a l i : Nat), .int .i64 ((l.getD i (0, false)).1 : Nat), .bool (l.getD i (0, false)).2]
theorem bkcells_zero (a : Nat) (l : List Bk) : bkcells a l 0 = [] := rfl
theorem bkcells_succ (a : Nat) (l : List Bk) (k : Nat) (hk : k < l.length) : bkcells a l (k + 1) = bkcells a l k ++ [.int .i64 (boff a l k : Nat), .int .i64 (l[k].1 : Nat), .bool l[k].2] := by
  unfold bkcells
  rw [List.range_succ, List.flatMap_append, List.flatMap_cons, List.flatMap_nil, List.append_nil, List.getD_eq_getElem?_getD, List.getElem?_eq_getElem hk]
  rfl
theorem bkcells_length (a : Nat) (l : List Bk) (k : Nat) (hk : k ≤ l.length) : (bkcells a l k).length = k * 3 := by
  induction k with
  | zero => rfl
  | succ k ih =>
    rw [bkcells_succ a l k (by omega), List.length_append, ih (by omega)]
    simp
    omega
theorem bkcells_get (a : Nat) (l : List Bk) (m k : Nat) (hm : m ≤ l.length) (hk : k < m) :
    (bkcells a l m)[k * 3]? = some (.int .i64 (boff a l k : Nat)) ∧ (bkcells a l m)[k * 3 + 1]? = some (.int .i64 ((l[k]'(by omega)).1 : Nat)) ∧ (bkcells a l m)[k * 3 + 2]? = some (.bool (l[k]'(by omega)).2) := by
  induction m with
  | zero => omega
  | succ m ih =>
    rw [bkcells_succ a l m (by omega)]
    have hl := bkcells_length a l m (by omega)
    by_cases he : k = m
    · subst he
      refine ⟨?_, ?_, ?_⟩ <;> rw [List.getElem?_append_right (by omega), hl]
      · rw [Nat.sub_self]; rfl
      · rw [show k * 3 + 1 - k * 3 = 1 by omega]; rfl
      · rw [show k * 3 + 2 - k * 3 = 2 by omega]; rfl
    · obtain ⟨h0, h1, h2⟩ := ih (by omega) (by omega)
      exact ⟨by rw [List.getElem?_append_left (by omega)]; exact h0, by rw [List.getElem?_append_left (by omega)]; exact h1, by rw [List.getElem?_append_left (by omega)]; exact h2⟩

theorem infoBk : (Try.prog.info? 159).map (fun i => (i.zero, i.size, i.bytes)) = some (some (.agg #[.int .i64 0, .int .i64 0, .bool false]), 3, 24) := by kernel_rfl

set_option maxRecDepth 100000 in
set_option maxHeartbeats 4000000 in
theorem hwalk_any (hb p g : Nat) (bs : List UInt8) (a z : Nat) (l : List Bk) (w : World) (h : Mat 108 w p g bs) (hh : Heap w hb p a z) (hB : Blks bs z a l) (ha : a % 8 = 0) (hz : z ≤ bs.length) :
    Calls Try.prog 111 #[.pointer (some ⟨hb, 0, none⟩)] w
      fun e w' => ∃ v, e = .returned (.tuple #[v, .int .i64 0]) ∧ w'.ownsRow w.heap.size 159 3 v l.length (bkcells a l l.length) ∧ Fr (fun _ => False) w w' := by
  obtain ⟨q0, q1, q2, _, _, _, _⟩ := three_cells hh
  have hzl := h.2.2.2
  have HC := Lib.hid (fun x w' h => cell_any p g bs x w' h)
  obtain ⟨i0, hi, hz0, hz1, hz2⟩ := info_parts infoBk
  have HI := Lib.hid hi
  have HZ := Lib.hid (And.intro hz0 (And.intro hz1 hz2))
  have H := Lib.hid h
  have HBL := Lib.hid hB
  have hbd := hB.bd l.length (by omega)
  have HX := Lib.hid (fun k (hk : k < l.length) => And.intro (hB.get k hk) (And.intro (hB.aligned k (by omega) ha) (hB.bd k (by omega))))
  have HL := Lib.hid (fun k (hk : k ≤ l.length) => hB.lt k hk)
  have HE := Lib.hid hB.last
  have hz' : z ≤ 1048576 := by omega
  clear h hi hz0 hz1 hz2 hh hB
  go_enter Try.func111, Try.ntmps111
  go_wp2_with fail
  go_loopw [4, 5] (fun lv av wr => ∃ k, k ≤ l.length ∧ av = .int .i64 (boff a l k : Nat) ∧ wr.ownsRow w.heap.size 159 3 lv k (bkcells a l k) ∧ Fr (fun _ => False) w wr) (fun _ av _ => (z - intOf av).toNat)
  case atStart => exact ⟨0, by omega, by rw [boff_zero], World.ownsRow_nil _ _ _ _, Fr.refl _ _⟩
  case round =>
    obtain ⟨k, hk, rfl, ho, hF⟩ := hrel
    obtain ⟨o, cc, rfl, hw1, hw2, hw3, hw4⟩ := owns_form ho
    have k0 := Fr.cell hF q0 id
    have k1 := Fr.cell hF q1 id
    have k2 := Fr.cell hF q2 id
    have HF := Lib.hid hF
    have HO := Lib.hid ho
    by_cases hkl : k < l.length
    · have hlt := (HL.out k hk).1 hkl
      obtain ⟨⟨g8, g16, gz, gc⟩, al, _⟩ := HX.out k hkl
      have hsz := hd_size l[k] g8 (by omega)
      have hus := hd_used l[k] g8 (by omega)
      have hcl := HC.out (boff a l k : Nat) wr (H.out.fr hF id id)
      have hcode : code bs.length ((boff a l k : Nat) : Int) = 0 := code_of (by omega) (by omega) (by omega)
      rw [show cell bs ((boff a l k : Nat) : Int) = (hd l[k], 0) by unfold cell; rw [if_pos hcode, Int.toNat_natCast, gc]] at hcl
      have HC1 := Lib.hid hcl
      have hbs := boff_succ a l k hkl
      have hcs := bkcells_succ a l k hkl
      have hmeas := (HX.out k hkl).2.2
      obtain ⟨A, hA⟩ : ∃ A, boff a l k = A := ⟨_, rfl⟩
      obtain ⟨⟨n, u⟩, hn⟩ : ∃ b, l[k] = b := ⟨_, rfl⟩
      obtain ⟨x, hx⟩ : ∃ x, hd l[k] = x := ⟨_, rfl⟩
      have HCS := Lib.hid hcs
      have HBS := Lib.hid hbs
      rw [hx] at hsz hus HC1
      rw [hn] at g8 g16 gz hsz hus HCS HBS
      rw [hA] at hlt gz al HC1 hmeas HCS HBS
      dsimp only at g8 g16 gz hsz hus HCS HBS
      rw [hA]
      clear hcl hcode hcs hbs gc hn hx ho hF hA hw3 hw4
      go_wp2_with (go_at_call 46; refine HC1.out.mono ?_; rintro e w' ⟨rfl, h0⟩; obtain rfl := h0.symm)
      have c1 : decide ((n : Int) < 16) = false := decide_eq_false (by omega)
      have c2 : (n : Int).tmod 8 = 0 := by rw [Int.tmod_eq_emod_of_nonneg (by omega)]; omega
      have k2' := Fr.cell ((Fr.refl (fun _ => False) wr).alloc (.cells #[.int .i64 (A : Nat), .int .i64 (n : Nat), .bool u] 159)) k2 id
      have c3 : decide ((z : Int) - A < n) = false := decide_eq_false (by omega)
      have HT := Lib.hid (cell_three_new2 wr (.cells #[.int .i64 (A : Nat), .int .i64 (n : Nat), .bool u] 159) (.int .i64 (A : Nat)) (.int .i64 (n : Nat)) (.bool u) 159)
      have HLB := Lib.hid (fun j hj => HO.out.lt j hj)
      have HN := Lib.hid (heap_alloc_last wr (.cells #[.int .i64 (A : Nat), .int .i64 (n : Nat), .bool u] 159))
      go_quiet (fail)
      clear k2'
      go_wp2_with (at_builtin; refine wpList_append_own _ rfl (.tmp 57) (.tmp 59) 162 rfl w.heap.size 159 i0 _ 3 24 Try.underlying162 HI.out HZ.out.1 HZ.out.2.1 HZ.out.2.2 rfl (by decide) _ k (bkcells a l k) rfl ((HO.out.alloc _).alloc _) ⟨_, 0, none⟩ 1 1 [.int .i64 (A : Nat), .int .i64 (n : Nat), .bool u] rfl rfl HT.out (by simp [Value.oneCell']) (by unfold maxLen; omega) (by omega) (by have := HF.out.size; simp; omega) ?_; intro v2 w3 hown2 hgrow2 _; obtain ⟨o2, c2, rfl, _, _, _, _⟩ := owns_form hown2; have HV2 := Lib.hid hown2; have HF3 := Lib.hid (Fr.grown (((HF.out.alloc _).drewN _).alloc _) hgrow2 (fun j hj => .inl (HO.out.lt j hj).1)); have FG := Fr.grown (S := fun j => (Value.slice o k cc).ownBlock = some j) ((Fr.refl (fun j => (Value.slice o k cc).ownBlock = some j) (wr.alloc (.cells #[.int .i64 (A : Nat), .int .i64 (n : Nat), .bool u] 159))).drewN _ |>.alloc _) hgrow2 (fun j hj => .inr hj); have hv3 := FG.obj HN.out (fun e => by have := (HLB.out _ e).2; omega); obtain ⟨_, j1, _, _, _, _, _⟩ := three_cells hv3; clear hown2 hgrow2 FG hv3)
      refine ⟨⟨k + 1, by omega, ?_, ?_, HF3.out⟩, ?_⟩
      · rw [HBS.out]
        simp
      · rw [HCS.out]
        exact HV2.out
      · simp [intOf]
        omega
    · have hke : k = l.length := by omega
      subst hke
      have := HE.out
      rw [this]
      go_wp2
      go_ret2
      exact ⟨_, rfl, HO.out, HF.out⟩
end Go.Proofs.Ytajeiccfgnpbpaa.Mem

/- Contracts of package heap, at any blocks: find. -/
namespace Go.Proofs.Ytajeiccfgnpbpaa.Mem
open Go.RowKit

theorem addr_add3 (g j : Nat) : ((⟨g, 0, none⟩ : Addr).add j) = ⟨g, j, none⟩ := by unfold Addr.add; split <;> simp_all

/-- The blocks that walk returned, as a slice of its own. -/
theorem bk_slice {w1 : World} {B : Nat} {a : Nat} {l : List Bk} {v : Value} (ho : w1.ownsRow B 159 3 v l.length (bkcells a l l.length)) (hl : 0 < l.length) :
    ∃ gA cc, v = .slice (some ⟨gA, 0, none⟩) l.length cc ∧ l.length ≤ cc ∧ cc ≤ maxLen ∧ B ≤ gA ∧ gA < w1.heap.size ∧
      ∀ k (hk : k < l.length) (W : World) S (_ : Fr S w1 W) (_ : ¬ S gA), W.cell? ⟨gA, k * 3, none⟩ = some (.int .i64 (boff a l k : Nat)) ∧ W.cell? ⟨gA, k * 3 + 1, none⟩ = some (.int .i64 (l[k].1 : Nat)) ∧ W.cell? ⟨gA, k * 3 + 2, none⟩ = some (.bool l[k].2) := by
  obtain ⟨o, cc, rfl, h1, h2, h3, h4⟩ := owns_form ho
  cases o with
  | none => have := h3 rfl; omega
  | some bb =>
    obtain ⟨e1, e2, e3, e4⟩ := h4 bb rfl
    obtain ⟨b0, o0, p0⟩ := bb
    dsimp only at *
    subst e1; subst e2
    refine ⟨b0, cc, rfl, h1, h2, e3, e4, fun k hk W S hW hS => ?_⟩
    obtain ⟨c0, c1, c2⟩ := bkcells_get a l l.length k (Nat.le_refl _) hk
    have f := fun j u (hu : (bkcells a l l.length)[j]? = some u) => hW.cell (ho.cells rfl j u hu) (by rw [addr_add3]; exact hS)
    have f0 := f _ _ c0
    have f1 := f _ _ c1
    have f2 := f _ _ c2
    rw [addr_add3] at f0 f1 f2
    exact ⟨f0, f1, f2⟩

/-- What find returns: the blocks, and which of them is the used one whose bytes begin at x; or that there is none. -/
def FindPost (a : Nat) (l : List Bk) (x : Int) (B : Nat) (e : Ending) (w' : World) : Prop :=
  (∃ v i m, l[i]? = some (m, true) ∧ ((boff a l i : Nat) : Int) + 8 = x ∧ e = .returned (.tuple #[v, .int .i64 (i : Nat), .int .i64 0]) ∧ w'.ownsRow B 159 3 v l.length (bkcells a l l.length)) ∨
    (e = .returned (.tuple #[.slice none 0 0, .int .i64 0, .int .i64 (-60)]) ∧ ∀ i m, l[i]? = some (m, true) → ((boff a l i : Nat) : Int) + 8 ≠ x)

set_option maxRecDepth 100000 in
set_option maxHeartbeats 4000000 in
theorem hfind_any (hb p g : Nat) (bs : List UInt8) (a z : Nat) (l : List Bk) (x : Int) (w : World) (h : Mat 108 w p g bs) (hh : Heap w hb p a z) (hB : Blks bs z a l) (ha : a % 8 = 0) (hz : z ≤ bs.length) (hl : 0 < l.length) :
    Calls Try.prog 91 #[.pointer (some ⟨hb, 0, none⟩), .int .i64 x] w
      fun e w' => FindPost a l x w.heap.size e w' ∧ Fr (fun _ => False) w w' := by
  have HW := Lib.hid (hwalk_any hb p g bs a z l w h hh hB ha hz)
  have hzl := h.2.2.2
  have HX := Lib.hid (fun k (hk : k < l.length) => And.intro (hB.get k hk) (hB.bd k (by omega)))
  have HL := Lib.hid hl
  have hln : l.length ≤ 1048576 := by have := hB.bd l.length (Nat.le_refl _); omega
  clear h hh hB hl
  go_enter Try.func91, Try.ntmps91
  go_wp2_with fail
  refine HW.out.mono ?_
  rintro e w1 ⟨v, rfl, ho, hf⟩
  obtain ⟨gA, cc, rfl, hc1, hc2, hg1, hg2, hcells⟩ := bk_slice ho HL.out
  have HO := Lib.hid ho
  have F1 := Lib.hid hf
  have HC := Lib.hid hcells
  obtain ⟨n, hn⟩ : ∃ n, l.length = n := ⟨_, rfl⟩
  have HN := Lib.hid hn
  rw [hn] at hc1 HO hln ⊢
  clear ho hf hcells hn
  go_wp2_with fail
  go_loopw [21] (fun iv wr => ∃ k : Nat, k ≤ n ∧ iv = .int .i64 k ∧ (∀ i m, i < k → l[i]? = some (m, true) → ((boff a l i : Nat) : Int) + 8 ≠ x) ∧ Fr (fun _ => False) w1 wr) (fun iv _ => n - (intOf iv).toNat)
  case atStart => exact ⟨0, Nat.zero_le _, rfl, fun i m h0 => absurd h0 (Nat.not_lt_zero _), Fr.refl _ _⟩
  case round =>
    obtain ⟨k, hk, rfl, hall, hF⟩ := hrel
    have HF := Lib.hid hF
    have HALL := Lib.hid hall
    by_cases hlt : k < n
    · have hkl : k < l.length := by rw [HN.out]; exact hlt
      obtain ⟨c0, c1, c2⟩ := HC.out k hkl wr _ hF id
      obtain ⟨gz, gz2⟩ : boff a l k + l[k].1 ≤ z ∧ boff a l k ≤ z := ⟨(HX.out k hkl).1.2.2.1, (HX.out k hkl).2.2⟩
      have HSTEP := Lib.hid (show (l[k].2 = true → ((boff a l k : Nat) : Int) + 8 ≠ x) → ∀ i m, i < k + 1 → l[i]? = some (m, true) → ((boff a l i : Nat) : Int) + 8 ≠ x from fun hne i m hik he => by
        rcases Nat.lt_or_ge i k with h1 | h1
        · exact hall i m h1 he
        · have : i = k := by omega
          subst this
          rw [List.getElem?_eq_getElem hkl] at he
          exact hne (by rw [Option.some.inj he]))
      obtain ⟨A, hA⟩ : ∃ A, boff a l k = A := ⟨_, rfl⟩
      obtain ⟨⟨m, u⟩, hm⟩ : ∃ b, l[k] = b := ⟨_, rfl⟩
      have HA := Lib.hid hA
      have HM := Lib.hid (show l[k]? = some (m, u) from by rw [List.getElem?_eq_getElem hkl, hm])
      have HKL := Lib.hid hkl
      rw [hA] at c0 gz gz2 HSTEP
      rw [hm] at c1 c2 gz HSTEP
      dsimp only at c1 c2 gz HSTEP
      clear hkl hall hF hm hA
      cases u
      · go_wp2_with fail
        refine ⟨⟨k + 1, by omega, by simp, HSTEP.out (fun e => by cases e), ?_⟩, ?_⟩
        · exact HF.out.alloc _
        · simp [intOf]
          omega
      · by_cases he : (A : Int) + 8 = x
        · have hb : ((A : Int) + 8 == x) = true := by simpa using he
          go_wp2_with fail
          go_ret3
          have hF2 := HF.out.alloc (.cells #[.int .i64 (A : Nat), .int .i64 (m : Nat), .bool true] 159)
          refine ⟨.inl ⟨_, k, m, HM.out, by rw [HA.out]; exact he, rfl, ?_⟩, F1.out.trans hF2⟩
          have := hF2.owns HO.out (fun _ _ => id)
          rw [HN.out]
          exact this
        · have hb : ((A : Int) + 8 == x) = false := by simpa using he
          go_wp2_with fail
          refine ⟨⟨k + 1, by omega, by simp, HSTEP.out (fun _ => he), ?_⟩, ?_⟩
          · exact HF.out.alloc _
          · simp [intOf]
            omega
    · have hke : k = n := by omega
      subst hke
      go_wp2_with fail
      go_ret3
      refine ⟨.inr ⟨rfl, fun i m hi => HALL.out i m ?_ hi⟩, F1.out.trans HF.out⟩
      have h1 := (List.getElem?_eq_some_iff.1 hi).1
      have h2 := HN.out
      omega
end Go.Proofs.Ytajeiccfgnpbpaa.Mem

/- Contracts of package heap, at any blocks: split, roundUp. -/
namespace Go.Proofs.Ytajeiccfgnpbpaa.Mem
open Go.RowKit

/-- What split leaves. -/
def splitb (bs : List UInt8) (y m n : Nat) : List UInt8 := if m < n + 16 then setv bs y ((m : Int) + 1) else setv (setv bs y ((n : Int) + 1)) (y + n) ((m - n : Nat) : Int)

theorem setc_nat (bs : List UInt8) (y : Nat) (n : Int) (h : y + 8 ≤ bs.length) (h8 : y % 8 = 0) : setc bs (y : Int) n = setv bs y n := by
  unfold setc
  rw [if_pos (code_of (by omega) (by omega) (by omega)), Int.toNat_natCast]

set_option maxRecDepth 100000 in
set_option maxHeartbeats 2000000 in
theorem hsplit_any (hb p g : Nat) (bs : List UInt8) (a z : Int) (y m n : Nat) (w : World) (h : Mat 108 w p g bs) (hh : Heap w hb p a z) (hg : hb ≠ g) (hy : y % 8 = 0) (hn : n % 8 = 0) (hnm : n ≤ m) (hm : y + m ≤ bs.length) (hn16 : 16 ≤ n) :
    Calls Try.prog 113 #[.pointer (some ⟨hb, 0, none⟩), .agg #[.int .i64 y, .int .i64 m, .bool false], .int .i64 n] w
      fun e w' => e = .returned (.tuple #[]) ∧ Mat 108 w' p g (splitb bs y m n) ∧ Only g w w' := by
  have hbl := h.2.2.2
  have FA := Lib.hid (((Fr.refl (fun _ => False) w).alloc (.cells #[.int .i64 y, .int .i64 m, .bool false] 159)).alloc (.cells #[.int .i64 ((y : Int) + n), .int .i64 ((m : Int) - n), .bool false] 159))
  have hob := heap_alloc_last (w.alloc (.cells #[.int .i64 y, .int .i64 m, .bool false] 159)) (.cells #[.int .i64 ((y : Int) + n), .int .i64 ((m : Int) - n), .bool false] 159)
  rw [show (w.alloc (.cells #[.int .i64 y, .int .i64 m, .bool false] 159)).heap.size = w.heap.size + 1 by simp] at hob
  have HOB := Lib.hid hob
  have H := Lib.hid h
  have HH := Lib.hid hh
  have HG := Lib.hid (And.intro h.lt hg)
  clear h hh hob
  by_cases hlt : m < n + 16
  · have hsp : splitb bs y m n = setc bs (y : Int) ((m : Int) + 1) := by rw [setc_nat _ _ _ (by omega) hy]; unfold splitb; rw [if_pos hlt]
    rw [hsp]
    have HP1 := Lib.hid (fun w h hh => hput_any hb p g bs a z (y : Int) (m : Int) true w h hh (by omega))
    clear hsp
    go_enter Try.func113, Try.ntmps113
    go_wp2_with fail
    refine (HP1.out _ (H.out.fr FA.out id id) (FA.out.obj HH.out id)).mono ?_
    rintro e w1 ⟨rfl, hm, hf⟩
    have M1 := Lib.hid hm
    have F1 := Lib.hid ((Fr.some FA.out fun _ e => e.elim).trans hf)
    clear hm hf
    go_wp2_with fail
    (try simp only [Exit.inBlock, Exit.then])
    first
    | exact bodyPost_end (results_none rfl _ _ _) rfl ⟨rfl, M1.out, F1.out⟩
    | exact bodyPost_ret (results_none rfl _ _ _) rfl ⟨rfl, M1.out, F1.out⟩
  · have hsp : splitb bs y m n = setc (setc bs (y : Int) ((n : Int) + 1)) ((y : Int) + n) ((m : Int) - n) := by
      rw [setc_nat _ _ _ (by omega) hy, show (y : Int) + n = ((y + n : Nat) : Int) by omega, setc_nat _ _ _ (by rw [setv_length]; omega) (by omega)]
      unfold splitb
      rw [if_neg hlt, show (m : Int) - n = ((m - n : Nat) : Int) by omega]
    rw [hsp]
    have HP1 := Lib.hid (fun w h hh => hput_any hb p g bs a z (y : Int) (n : Int) true w h hh (by omega))
    have HP2 := Lib.hid (fun w h hh => hput_any hb p g (setc bs (y : Int) ((n : Int) + 1)) a z ((y : Int) + n) ((m : Int) - n) false w h hh (by omega))
    clear hsp
    go_enter Try.func113, Try.ntmps113
    go_wp2_with fail
    refine (HP1.out _ (H.out.fr FA.out id id) (FA.out.obj HH.out id)).mono ?_
    rintro e w1 ⟨rfl, hm, hf⟩
    have M1 := Lib.hid hm
    have O1 := Lib.hid (hf.obj (FA.out.obj HH.out id) HG.out.2)
    obtain ⟨q0, q1, q2, _, _, _, _⟩ := three_cells (hf.obj HOB.out (by have := HG.out.1.2; omega))
    have F1 := Lib.hid ((Fr.some FA.out fun _ e => e.elim).trans hf)
    clear hm hf
    go_wp2_with fail
    refine (HP2.out _ M1.out O1.out).mono ?_
    rintro e w2 ⟨rfl, hm, hf⟩
    have M2 := Lib.hid hm
    have F2 := Lib.hid (F1.out.trans hf)
    clear hm hf
    go_wp2_with fail
    (try simp only [Exit.inBlock, Exit.then])
    first
    | exact bodyPost_end (results_none rfl _ _ _) rfl ⟨rfl, M2.out, F2.out⟩
    | exact bodyPost_ret (results_none rfl _ _ _) rfl ⟨rfl, M2.out, F2.out⟩

set_option maxRecDepth 100000 in
set_option maxHeartbeats 1000000 in
theorem hround_any (n : Int) (h : 0 ≤ n ∧ n ≤ 1048600) (w : World) :
    Calls Try.prog 112 #[.int .i64 n] w fun e w' => e = .returned (.int .i64 ((n + 8 - 1) / 8 * 8)) ∧ w' = w := by
  go_enter Try.func112, Try.ntmps112
  go_wp2
  go_ret
  exact ⟨rfl, rfl⟩

/-- How many bytes a block has at least that holds n. -/
def needv (n : Nat) : Nat := max 16 ((n + 15) / 8 * 8)

/-- What Alloc returns, and leaves. -/
def AllocPost (p g : Nat) (bs : List UInt8) (a : Nat) (l : List Bk) (n : Nat) (e : Ending) (w' : World) : Prop :=
  (e = .returned (.tuple #[.int .i64 0, .int .i64 (-59)]) ∧ Mat 108 w' p g bs) ∨
    ∃ k m, l[k]? = some (m, false) ∧ needv n ≤ m ∧ e = .returned (.tuple #[.int .i64 ((boff a l k : Nat) + 8 : Int), .int .i64 0]) ∧ Mat 108 w' p g (splitb bs (boff a l k) m (needv n))

set_option maxRecDepth 100000 in
set_option maxHeartbeats 4000000 in
theorem halloc_any (hb p g : Nat) (bs : List UInt8) (a z : Nat) (l : List Bk) (n : Nat) (w : World) (h : Mat 108 w p g bs) (hh : Heap w hb p a z) (hB : Blks bs z a l) (ha : a % 8 = 0) (hz : z ≤ bs.length) (hl : 0 < l.length) (hg : hb ≠ g) (hn : n ≤ 1048576) :
    Calls Try.prog 89 #[.pointer (some ⟨hb, 0, none⟩), .int .i64 (n : Nat)] w
      fun e w' => AllocPost p g bs a l n e w' ∧ Only g w w' := by
  have HW := Lib.hid (hwalk_any hb p g bs a z l w h hh hB ha hz)
  have hzl := h.2.2.2
  have HX := Lib.hid (fun k (hk : k < l.length) => And.intro (hB.get k hk) (And.intro (hB.bd k (by omega)) (hB.aligned k (by omega) ha)))
  have HL := Lib.hid hl
  have hln : l.length ≤ 1048576 := by have := hB.bd l.length (Nat.le_refl _); omega
  have HR := Lib.hid (fun w => hround_any (8 + (n : Int)) (by omega) w)
  have HS := Lib.hid (fun y m w h hh h1 h2 h3 h4 h5 => hsplit_any hb p g bs a z y m (needv n) w h hh hg h1 h2 h3 h4 h5)
  have hnv : ((needv n : Nat) : Int) = max 16 ((8 + (n : Int) + 8 - 1) / 8 * 8) := by unfold needv; omega
  have hnv8 : needv n % 8 = 0 ∧ 16 ≤ needv n := by unfold needv; omega
  have HNV := Lib.hid hnv
  have HN8 := Lib.hid hnv8
  have H := Lib.hid h
  have HH := Lib.hid hh
  have HG := Lib.hid (And.intro h.lt hg)
  clear h hh hB hl hnv hnv8
  go_enter Try.func89, Try.ntmps89
  go_wp2_with fail
  refine HW.out.mono ?_
  rintro e w1 ⟨v, rfl, ho, hf⟩
  obtain ⟨gA, cc, rfl, hc1, hc2, hg1, hg2, hcells⟩ := bk_slice ho HL.out
  have HO := Lib.hid ho
  have F1 := Lib.hid hf
  have HC := Lib.hid hcells
  obtain ⟨N, hN⟩ : ∃ n, l.length = n := ⟨_, rfl⟩
  have HN := Lib.hid hN
  rw [hN] at hc1 HO hln ⊢
  clear ho hf hcells hN
  go_wp2_with fail
  refine (HR.out _).mono ?_
  rintro e w' ⟨rfl, h0⟩
  obtain rfl := h0.symm
  go_wp2_with fail
  rw [← HNV.out]
  go_loopw [33] (fun iv wr => ∃ k : Nat, k ≤ N ∧ iv = .int .i64 k ∧ Fr (fun _ => False) w1 wr) (fun iv _ => N - (intOf iv).toNat)
  case atStart => exact ⟨0, Nat.zero_le _, rfl, Fr.refl _ _⟩
  case round =>
    obtain ⟨k, hk, rfl, hF⟩ := hrel
    have HF := Lib.hid hF
    by_cases hlt : k < N
    · have hkl : k < l.length := by rw [HN.out]; exact hlt
      obtain ⟨c0, c1, c2⟩ := HC.out k hkl wr _ hF id
      obtain ⟨gz, gz2, gz3⟩ : boff a l k + l[k].1 ≤ z ∧ boff a l k ≤ z ∧ boff a l k % 8 = 0 := ⟨(HX.out k hkl).1.2.2.1, (HX.out k hkl).2.1.2, (HX.out k hkl).2.2⟩
      obtain ⟨A, hA⟩ : ∃ A, boff a l k = A := ⟨_, rfl⟩
      obtain ⟨⟨m, u⟩, hm⟩ : ∃ b, l[k] = b := ⟨_, rfl⟩
      have HA := Lib.hid hA
      have HM := Lib.hid (show l[k]? = some (m, u) from by rw [List.getElem?_eq_getElem hkl, hm])
      rw [hA] at c0 gz gz2 gz3
      rw [hm] at c1 c2 gz
      dsimp only at c1 c2 gz
      clear hkl hF hm hA
      cases u
      · have FA := HF.out.alloc (.cells #[.int .i64 (A : Nat), .int .i64 (m : Nat), .bool false] 159)
        have HFA := Lib.hid FA
        have HOA := Lib.hid (heap_alloc_last wr (.cells #[.int .i64 (A : Nat), .int .i64 (m : Nat), .bool false] 159))
        clear FA
        obtain ⟨nv, hnv⟩ : ∃ nv, needv n = nv := ⟨_, rfl⟩
        have HNV2 := Lib.hid hnv
        have n8 := HN8.out
        rw [hnv] at HS n8 ⊢
        clear hnv
        by_cases he : nv ≤ m
        · go_wp2_with fail
          refine (HS.out A m _ (H.out.fr (F1.out.trans HFA.out) id id) ((F1.out.trans HFA.out).obj HH.out id) gz3 n8.1 he (by omega) n8.2).mono ?_
          rintro e w2 ⟨rfl, hm, hf⟩
          obtain ⟨j0, _, _, _, _, _, _⟩ := three_cells (hf.obj HOA.out (by have := HG.out.1.2; have := F1.out.size; have := HF.out.size; omega))
          have M2 := Lib.hid hm
          have F2 := Lib.hid ((Fr.some (F1.out.trans HFA.out) fun _ e => e.elim).trans hf)
          clear hm hf
          go_wp2_with fail
          go_ret2
          refine ⟨.inr ⟨k, m, HM.out, by rw [HNV2.out]; exact he, by rw [HA.out]; rfl, ?_⟩, F2.out⟩
          rw [HA.out, HNV2.out]
          exact M2.out
        · go_wp2_with fail
          refine ⟨⟨k + 1, by omega, by simp, HFA.out⟩, ?_⟩
          simp [intOf]
          omega
      · go_wp2_with fail
        refine ⟨⟨k + 1, by omega, by simp, HF.out.alloc _⟩, ?_⟩
        simp [intOf]
        omega
    · have hke : k = N := by omega
      subst hke
      go_wp2_with fail
      go_ret2
      exact ⟨.inl ⟨rfl, H.out.fr (F1.out.trans HF.out) id id⟩, Fr.some (F1.out.trans HF.out) fun _ e => e.elim⟩
end Go.Proofs.Ytajeiccfgnpbpaa.Mem
