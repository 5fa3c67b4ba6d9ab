/- Contracts of package control: a stack of marks. -/
import Derived.Test.YtcimiijmffblgaaChecked
import Derived.Test.YtcimiijmffblgaaUtil
import Derived.WalkKit
import Derived.WalkSpells
import Derived.WalkLawsBesides
import Derived.Lib.Hide
import Derived.BigQuiet
import Derived.Deep.QuietTactic
import Derived.Deep.DeepCutAuto
import Derived.Deep.LoopGhost
import Derived.Deep.RegionLawGrows
import Derived.ArgAppend
namespace Go.Proofs.Ytcimiijmffblgaa.Ctl
open Go.RowKit

/-- The cells of marks. -/
def marks (l : List (Int × Int)) : List Value := l.flatMap fun p => [.int .i64 p.1, .int .i64 p.2]
theorem marks_length (l : List (Int × Int)) : (marks l).length = l.length * 2 := by
  induction l with
  | nil => rfl
  | cons a l ih => simp [marks] at ih ⊢; omega

set_option maxHeartbeats 400000 in
theorem clip_any (o : Option Addr) (n c : Nat) (hnc : n ≤ c) (hc : c ≤ maxLen) (ho : o = none → c = 0) (w : World) :
    Calls Try.prog 115 #[.slice o n c] w fun e w' => e = .returned (.slice o n n) ∧ w' = w := by
  unfold maxLen at hc
  have hz : 0 ≤ (n : Int) := by omega
  cases o with
  | none =>
    obtain rfl : c = 0 := ho rfl
    obtain rfl : n = 0 := by omega
    go_enter Try.func115, Try.ntmps115
    go_wp2
    go_ret
    exact ⟨rfl, rfl⟩
  | some a =>
    go_enter Try.func115, Try.ntmps115
    go_wp2
    go_ret
    exact ⟨rfl, rfl⟩

set_option maxHeartbeats 400000 in
theorem closed_none (w : World) :
    Calls Try.prog 59 #[.pointer none] w fun e w' => e = .returned (.bool true) ∧ w' = w := by
  go_enter Try.func59, Try.ntmps59
  go_wp2
  go_ret
  exact ⟨rfl, rfl⟩

set_option maxHeartbeats 400000 in
theorem closed_any (p : Addr) (o : Option Addr) (n c : Nat) (w : World) (hc : w.cell? p = some (.slice o n c)) :
    Calls Try.prog 59 #[.pointer (some p)] w fun e w' => e = .returned (.bool (decide (n = 0))) ∧ w' = w := by
  by_cases hn : n = 0
  · subst hn
    go_enter Try.func59, Try.ntmps59
    go_wp2
    go_ret
    exact ⟨rfl, rfl⟩
  · have hn' : ((n : Int) == 0) = false := by rw [beq_eq_false_iff_ne]; omega
    go_enter Try.func59, Try.ntmps59
    go_wp2
    go_ret
    exact ⟨by simp [hn], rfl⟩

set_option maxHeartbeats 400000 in
theorem close_none (k : Int) (w : World) :
    Calls Try.prog 56 #[.pointer none, .int .i64 k] w fun e w' => e = .returned (.tuple #[.int .i64 0, .int .i64 (-22)]) ∧ w' = w := by
  go_enter Try.func56, Try.ntmps56
  go_wp2_with (go_at_call 59; refine (closed_none _).mono ?_; rintro e w' ⟨rfl, rfl⟩)
  go_ret2
  exact ⟨rfl, rfl⟩

set_option maxHeartbeats 400000 in
theorem close_empty (p : Addr) (k : Int) (o : Option Addr) (c : Nat) (w : World) (hc : w.cell? p = some (.slice o 0 c)) :
    Calls Try.prog 56 #[.pointer (some p), .int .i64 k] w fun e w' => e = .returned (.tuple #[.int .i64 0, .int .i64 (-22)]) ∧ w' = w := by
  have hcl := fun w hc => closed_any p o 0 c w hc
  rw [show decide (0 = 0) = true from rfl] at hcl
  have HC := Lib.hid hcl
  clear hcl
  go_enter Try.func56, Try.ntmps56
  go_wp2_with (go_at_call 59; refine (HC.out _ hc).mono ?_; rintro e w' ⟨rfl, rfl⟩)
  go_ret2
  exact ⟨rfl, rfl⟩

set_option maxHeartbeats 400000 in
theorem close_other (p : Addr) (k : Int) (g n c : Nat) (k' a : Int) (w : World) (hc : w.cell? p = some (.slice (some ⟨g, 0, none⟩) (n + 1) c)) (hn : n + 1 ≤ maxLen)
    (h0 : w.cell? ⟨g, n * 2, none⟩ = some (.int .i64 k')) (h1 : w.cell? ⟨g, n * 2 + 1, none⟩ = some (.int .i64 a)) (hk : (k' == k) = false) :
    Calls Try.prog 56 #[.pointer (some p), .int .i64 k] w fun e w' => e = .returned (.tuple #[.int .i64 0, .int .i64 (-22)]) ∧ Below w.heap.size w w' := by
  unfold maxLen at hn
  have hcl := fun w hc => closed_any p (some ⟨g, 0, none⟩) (n + 1) c w hc
  rw [show decide (n + 1 = 0) = false from rfl] at hcl
  have HC := Lib.hid hcl
  clear hcl
  go_enter Try.func56, Try.ntmps56
  go_wp2_with (go_at_call 59; refine (HC.out _ hc).mono ?_; rintro e w' ⟨rfl, rfl⟩)
  go_ret2
  exact ⟨rfl, (Below.refl _ _).alloc (Nat.le_refl _) _⟩

set_option maxHeartbeats 400000 in
theorem close_hit (p : Nat) (k : Int) (g n c : Nat) (a : Int) (w : World) (hc : w.cell? ⟨p, 0, none⟩ = some (.slice (some ⟨g, 0, none⟩) (n + 1) c)) (hf : w.frozen? ⟨p, 0, none⟩ = false) (hn : n + 1 ≤ c) (hcm : c ≤ maxLen)
    (h0 : w.cell? ⟨g, n * 2, none⟩ = some (.int .i64 k)) (h1 : w.cell? ⟨g, n * 2 + 1, none⟩ = some (.int .i64 a)) :
    Calls Try.prog 56 #[.pointer (some ⟨p, 0, none⟩), .int .i64 k] w fun e w' => e = .returned (.tuple #[.int .i64 a, .int .i64 0]) ∧
      w' = (w.setCell ⟨p, 0, none⟩ (.slice (some ⟨g, 0, none⟩) n c)).alloc (.cells #[.int .i64 k, .int .i64 a] 114) := by
  unfold maxLen at hcm
  have hcl := fun w hc => closed_any ⟨p, 0, none⟩ (some ⟨g, 0, none⟩) (n + 1) c w hc
  rw [show decide (n + 1 = 0) = false from rfl] at hcl
  have HC := Lib.hid hcl
  clear hcl
  have hlt : p < w.heap.size := World.block_lt_of_cell? w ⟨p, 0, none⟩ hc
  have hlg : g < w.heap.size := World.block_lt_of_cell? w ⟨g, n * 2, none⟩ h0
  go_enter Try.func56, Try.ntmps56
  go_wp2_with (go_at_call 59; refine (HC.out _ hc).mono ?_; rintro e w' ⟨rfl, rfl⟩)
  go_ret2
  exact ⟨rfl, rfl⟩

set_option maxHeartbeats 400000 in
theorem open_none (k a : Int) (w : World) :
    Calls Try.prog 57 #[.pointer none, .int .i64 k, .int .i64 a] w fun e w' => e = .returned (.int .i64 (-22)) ∧ w' = w := by
  go_enter Try.func57, Try.ntmps57
  go_wp2
  go_ret
  exact ⟨rfl, rfl⟩

set_option maxHeartbeats 400000 in
theorem open_bad (p : Addr) (k a : Int) (o : Option Addr) (n c : Nat) (w : World) (hc : w.cell? p = some (.slice o n c)) (hb : ¬ (0 ≤ k ∧ k ≤ 3 ∧ n < 100)) :
    Calls Try.prog 57 #[.pointer (some p), .int .i64 k, .int .i64 a] w fun e w' => e = .returned (.int .i64 (-22)) ∧ w' = w := by
  by_cases h1 : k < 0
  · go_enter Try.func57, Try.ntmps57
    go_wp2
    go_ret
    exact ⟨rfl, rfl⟩
  · by_cases h2 : 3 < k
    · go_enter Try.func57, Try.ntmps57
      go_wp2
      go_ret
      exact ⟨rfl, rfl⟩
    · have h3 : ¬ n < 100 := by omega
      have h4 : 100 ≤ n := by omega
      clear hb
      go_enter Try.func57, Try.ntmps57
      go_wp2
      go_ret
      exact ⟨rfl, rfl⟩

theorem info114 : (Try.prog.info? 114).map (fun i => (i.zero, i.size, i.bytes)) = some (some (.agg #[.int .i64 0, .int .i64 0]), 2, 16) := by kernel_rfl

theorem marks_snoc (l : List (Int × Int)) (k a : Int) : marks (l ++ [(k, a)]) = marks l ++ [.int .i64 k, .int .i64 a] := by simp [marks]

/-- A stack of marks at a block: its value, the marks that it owns. -/
def Stk (w : World) (p B : Nat) (l : List (Int × Int)) : Prop :=
  ∃ v, w.heap[p]? = some (.cells #[v] 111 (0, 0)) ∧ w.ownsRow B 114 2 v l.length (marks l)

set_option maxRecDepth 100000 in
set_option maxHeartbeats 400000 in
theorem open_good (p : Nat) (k a : Int) (B : Nat) (l : List (Int × Int)) (w : World) (hS : Stk w p B l) (hB : B ≤ w.heap.size)
    (h0 : 0 ≤ k) (h3 : k ≤ 3) (hl : l.length < 100) :
    Calls Try.prog 57 #[.pointer (some ⟨p, 0, none⟩), .int .i64 k, .int .i64 a] w fun e w' => e = .returned (.int .i64 0) ∧
      Stk w' p B (l ++ [(k, a)]) ∧ Fr (fun j => j = p) w w' := by
  obtain ⟨i0, hi, hz0, hz1, hz2⟩ := info_parts info114
  obtain ⟨v, hp, hown⟩ := hS
  obtain ⟨o, c, rfl, hf1, hf2, hf3, hf4⟩ := owns_form hown
  have hc := cell_of_one hp
  have hf := free_of_one hp
  have HC := Lib.hid (And.intro hf1 (And.intro hf2 (fun h => (hf3 h).2)))
  have HN0 := Lib.hid hf3
  have hlt := lt_of_block hp
  have HI := Lib.hid hi
  have HZ := Lib.hid (And.intro hz0 (And.intro hz1 hz2))
  have HO := Lib.hid (owns_holds (hown.alloc (.cells #[.int .i64 k, .int .i64 a] 114)))
  have HL := Lib.hid (owns_length hown)
  have HP := Lib.hid hp
  clear hi hz0 hz1 hz2 hf1 hf2 hf3 hf4 hp
  obtain ⟨n, hn'⟩ : ∃ n, n = l.length := ⟨_, rfl⟩
  rw [← hn'] at hc HC HN0 HL
  have hn : n < 100 := by omega
  have HN := Lib.hid hn'
  clear hn' hl hown
  have HT := Lib.hid (cell_two_new w (.int .i64 k) (.int .i64 a) 114)
  go_enter Try.func57, Try.ntmps57
  go_wp2_with (first | (go_at_call 115; refine (clip_any _ _ _ HC.out.1 HC.out.2.1 HC.out.2.2 _).mono ?_; rintro e w' ⟨rfl, rfl⟩) | (at_builtin; refine wpList_append_grows _ rfl (.tmp 28) (.tmp 32) 111 rfl 114 i0 _ 2 16 Try.underlying111 HI.out HZ.out.1 HZ.out.2.1 HZ.out.2.2 rfl (by decide) o n n (marks l) rfl (fun h => by have := HN0.out h; omega) HL.out HO.out ⟨_, 0, none⟩ 1 1 [.int .i64 k, .int .i64 a] rfl rfl HT.out (by simp [Value.oneCell']) (by omega) (by unfold maxLen; omega) (by omega) ?_; intro v' w1 hown1 hgrow1; obtain ⟨o1, c1, hv1, _⟩ := owns_form hown1; rw [hv1]; rw [hv1] at hown1; have F0 : Fr (fun _ => False) _ w1 := ((Fr.refl _ _).alloc _).grown hgrow1 (fun _ h => by cases h); have P1 := Lib.hid (F0.obj HP.out id); have hc1 := cell_of_one P1.out; have hf1 := free_of_one P1.out; have HO1 := Lib.hid hown1; clear hown1 hv1 hgrow1))
  go_ret
  obtain ⟨_, _, _, hfar⟩ := ‹_ ∧ _ ∧ (o1 = none → _) ∧ _›
  have hother : (Value.slice o1 (n + 1) c1).ownBlock ≠ some p := by
    cases o1 with
    | none => simp [Value.ownBlock]
    | some b =>
      have := (hfar b rfl).2.2.1
      simp [Value.ownBlock] at this ⊢
      omega
  have hlen : (l ++ [(k, a)]).length = n + 1 := by simp [HN.out]
  refine ⟨rfl, ⟨_, one_setCell P1.out, ?_⟩, (F0.mono (fun _ _ h => h.elim)).setOne 0 _⟩
  rw [hlen, marks_snoc]
  exact owns_mono (ownsRow_setCell_other HO1.out hother _) (by simp; omega)

theorem marks_at (l : List (Int × Int)) (j : Nat) (k a : Int) (h : l[j]? = some (k, a)) : (marks l)[j * 2]? = some (.int .i64 k) ∧ (marks l)[j * 2 + 1]? = some (.int .i64 a) := by
  induction l generalizing j with
  | nil => simp at h
  | cons x l ih =>
    cases j with
    | zero => simp at h; subst h; simp [marks]
    | succ j =>
      have := ih j (by simpa using h)
      simp only [marks, List.flatMap_cons, List.cons_append, List.nil_append] at this ⊢
      rw [show (j + 1) * 2 = j * 2 + 2 by omega]
      simpa using this

theorem marks_take (l : List (Int × Int)) (n : Nat) : (marks l).take (n * 2) = marks (l.take n) := by
  induction l generalizing n with
  | nil => simp [marks]
  | cons x l ih =>
    cases n with
    | zero => simp [marks]
    | succ n =>
      have := ih n
      simp only [marks, List.flatMap_cons, List.cons_append, List.nil_append, List.take_succ_cons] at this ⊢
      rw [show (n + 1) * 2 = n * 2 + 1 + 1 by omega]
      simpa using this

/-- A stack's value where there are marks. -/
theorem stk_full {w : World} {p B : Nat} {l : List (Int × Int)} (h : Stk w p B l) (hl : l ≠ []) :
    ∃ g c, w.heap[p]? = some (.cells #[.slice (some ⟨g, 0, none⟩) l.length c] 111 (0, 0)) ∧
      w.ownsRow B 114 2 (.slice (some ⟨g, 0, none⟩) l.length c) l.length (marks l) ∧ l.length ≤ c ∧ c ≤ maxLen := by
  obtain ⟨v, hp, ho⟩ := h
  rcases ho.2 with ⟨_, h⟩ | ⟨g, cap, cur, rfl, hb, hg, h1, h2, h3⟩
  · exact absurd (List.length_eq_zero_iff.1 h) hl
  · exact ⟨g, cap, hp, ho, h1, h2⟩

theorem stk_any {w : World} {p B : Nat} {l : List (Int × Int)} (h : Stk w p B l) :
    ∃ o c, w.heap[p]? = some (.cells #[.slice o l.length c] 111 (0, 0)) := by
  obtain ⟨v, hp, ho⟩ := h
  obtain ⟨o, c, rfl, _⟩ := owns_form ho
  exact ⟨o, c, hp⟩

theorem cells_last {w : World} {B g c : Nat} {l : List (Int × Int)} (ho : w.ownsRow B 114 2 (.slice (some ⟨g, 0, none⟩) l.length c) l.length (marks l)) (k a : Int) (l' : List (Int × Int)) (hl : l = l' ++ [(k, a)]) :
    w.cell? ⟨g, l'.length * 2, none⟩ = some (.int .i64 k) ∧ w.cell? ⟨g, l'.length * 2 + 1, none⟩ = some (.int .i64 a) := by
  have hlen : l.length = l'.length + 1 := by rw [hl]; simp
  have hm := marks_at l l'.length k a (by rw [hl]; simp)
  constructor
  · rw [ho.cellAt _ (by omega), hm.1]
  · rw [ho.cellAt _ (by omega), hm.2]

/-- Close of another kind. -/
theorem close_bad (p B : Nat) (k k' a : Int) (l : List (Int × Int)) (w : World) (hS : Stk w p B (l ++ [(k', a)])) (hk : (k' == k) = false) (hl : l.length < 100) :
    Calls Try.prog 56 #[.pointer (some ⟨p, 0, none⟩), .int .i64 k] w fun e w' => e = .returned (.tuple #[.int .i64 0, .int .i64 (-22)]) ∧ Below w.heap.size w w' := by
  obtain ⟨g, c, hp, ho, hc, hm⟩ := stk_full hS (by simp)
  have hcs := cells_last ho k' a l rfl
  have hlen : (l ++ [(k', a)]).length = l.length + 1 := by simp
  rw [hlen] at hp
  exact close_other ⟨p, 0, none⟩ k g l.length c k' a w (cell_of_one hp) (by unfold maxLen; omega) hcs.1 hcs.2 hk

/-- Close of the last mark. -/
theorem close_good (p B : Nat) (k a : Int) (l : List (Int × Int)) (w : World) (hS : Stk w p B (l ++ [(k, a)])) (hl : l.length < 100) (hpB : p < B) :
    Calls Try.prog 56 #[.pointer (some ⟨p, 0, none⟩), .int .i64 k] w fun e w' => e = .returned (.tuple #[.int .i64 a, .int .i64 0]) ∧
      Stk w' p B l ∧ Fr (fun j => j = p) w w' := by
  obtain ⟨g, c, hp, ho, hc, hm⟩ := stk_full hS (by simp)
  have hcs := cells_last ho k a l rfl
  have hlen : (l ++ [(k, a)]).length = l.length + 1 := by simp
  have hlt := lt_of_block hp
  rw [hlen] at hp hc
  refine (close_hit p k g l.length c a w (cell_of_one hp) (free_of_one hp) (by omega) hm hcs.1 hcs.2).mono fun e w' ⟨he, hw⟩ => ⟨he, ?_, ?_⟩
  · subst hw
    refine ⟨_, (Below.heap_alloc _ _ _ (by simpa [World.setCell] using hlt)).trans (one_setCell hp), ?_⟩
    have h1 := owns_take ho (k := l.length) (by rw [hlen]; omega)
    rw [marks_take, List.take_left' rfl] at h1
    have hg := (ho.lt g rfl).1
    exact (ownsRow_setCell_other h1 (by simp [Value.ownBlock]; omega) _).alloc _
  · subst hw
    exact ((Fr.refl _ _).setOne 0 _).alloc _
end Go.Proofs.Ytcimiijmffblgaa.Ctl
