/- Of every slice of marks and every slice of bools, the statement ControlMarks returns true: what is opened and closed is what a plain list says. No condition. -/
import Derived.Test.YtcimiijmffblgaaRows
import Derived.Test.YtcimiijmffblgaaCtlD
import Derived.WalkKit
import Derived.ProofKit
import Derived.OpenShut
import Derived.ShutString
import Derived.ChangeOld
import Derived.Below
import Derived.Deep.Slices
namespace Go.Proofs.Ytcimiijmffblgaa.controlMarks
open Go.ChangeShapes Go.WideShapes Go.ChangeAt Go.RowKit
open Go.ChangeMaps (open_string shut_string)
set_option linter.unusedVariables false

theorem own : ownKnob Try.prog.godebug = none := by kernel_rfl
theorem laidOut : laidOutB Try.prog = true := by kernel_rfl
theorem cellsMark : Try.prog.cellsOf 114 = 2 := by kernel_rfl
theorem cellsKind : Try.prog.cellsOf 112 = 1 := by kernel_rfl
theorem cellsInt : Try.prog.cellsOf 2 = 1 := by kernel_rfl
theorem cellsBool : Try.prog.cellsOf 4 = 1 := by kernel_rfl

theorem off_plain {W : World} {a : Addr} {v : Value} (h : W.cell? a = some v) : a.spot = none := World.cell?_spot h

section
variable {H : Type} {enc : TypeId × Value → H} {W : World} {sp : Nat → Bool}

set_option maxRecDepth 100000 in
/-- The marks, opened. -/
theorem open_marks {fuel : Nat} {a : Option Addr} {n c : Nat} {x : DataW H × List MemPlace} (h : DataW.trod enc Try.prog W 0 sp true fuel 109 [.slice a n c] = some x) :
    ∃ L, Ctl.IsMarks W a n L := by
  rcases Go.Deep.open_slice Try.underlying109 h with ⟨hc, _⟩ | ⟨b, len, cap, m, k, D, Pl, hc, _, hl, hm, hmm, _, hx⟩
  · simp at hc
    obtain ⟨rfl, rfl, rfl⟩ := hc
    exact ⟨[], .inl rfl⟩
  · simp at hc
    obtain ⟨rfl, rfl, rfl⟩ := hc
    have hlm : n ≤ m := by rw [hmm]; split <;> omega
    have each : ∀ i, i < n → ∃ q : Int × Int, W.cell? (b.add (i * 2)) = some (.int .i64 q.1) ∧ W.cell? (b.add (i * 2 + 1)) = some (.int .i64 q.2) := by
      intro i hi
      obtain ⟨cs', h1, h2⟩ := hx i (by omega)
      rw [cellsMark] at h1
      obtain ⟨_, hlen, hcell⟩ := World.cells?_some h1
      obtain ⟨y0, y1, k', _, _, u0, u1⟩ := trod_struct2 Try.underlying114 h2
      match cs', hlen with
      | [v0, v1], _ =>
        simp only [cellsKind, cellsInt, List.drop, List.take] at u0 u1
        obtain ⟨q, e1, _, _⟩ := DataW.trod_int Try.underlying112 u0
        obtain ⟨p, e2, _, _⟩ := DataW.trod_int Try.underlying2 u1
        simp only [List.cons.injEq, and_true] at e1 e2
        subst e1; subst e2
        have c0 := hcell 0 (by omega)
        have c1 := hcell 1 (by omega)
        rw [Go.Deep.add_add] at c0 c1
        exact ⟨(q, p), by simpa using c0, by simpa using c1⟩
    obtain ⟨q, hq⟩ := Go.Deep.choose_lt each
    by_cases hn : n = 0
    · exact ⟨[], .inl hn⟩
    · obtain ⟨bb, off, spot⟩ := b
      have hspot : spot = none := by
        have := off_plain (hq 0 (by omega)).1
        simpa [Addr.add] using this
      subst hspot
      refine ⟨(List.range n).map q, .inr ⟨bb, off, rfl, by simp, ?_, fun j hj => ?_⟩⟩
      · have := World.block_lt_of_cell? W _ (hq 0 (by omega)).1
        simpa [Addr.add] using this
      · have h0 := hq j hj
        have hL : ((List.range n).map q).getD j (0, 0) = q j := by simp [List.getD, hj]
        rw [hL]
        have e : ∀ i, (⟨bb, off, none⟩ : Addr).add i = ⟨bb, off + i, none⟩ := fun i => by unfold Addr.add; split <;> simp_all
        rw [e, e] at h0
        exact ⟨h0.1, by rw [Nat.add_assoc]; exact h0.2⟩
set_option maxRecDepth 100000 in
/-- The bools, opened. -/
theorem open_bools {fuel : Nat} {a : Option Addr} {n c : Nat} {x : DataW H × List MemPlace} (h : DataW.trod enc Try.prog W 0 sp true fuel 110 [.slice a n c] = some x) :
    ∃ L, Ctl.IsBools W a n L := by
  rcases Go.Deep.open_slice1 Try.underlying110 cellsBool h with ⟨hc, _⟩ | ⟨b, len, cap, m, k, V, D, Pl, hc, _, hl, hm, hmm, _, hx⟩
  · simp at hc
    obtain ⟨rfl, rfl, rfl⟩ := hc
    exact ⟨[], .inl rfl⟩
  · simp at hc
    obtain ⟨rfl, rfl, rfl⟩ := hc
    have hlm : n ≤ m := by rw [hmm]; split <;> omega
    have each : ∀ i, i < n → ∃ q : Bool, W.cell? (b.add i) = some (.bool q) := by
      intro i hi
      obtain ⟨h1, h2⟩ := hx i (by omega)
      obtain ⟨q, e1, _⟩ := DataW.trod_bool Try.underlying4 h2
      simp only [List.cons.injEq, and_true] at e1
      exact ⟨q, by rw [h1, e1]⟩
    obtain ⟨q, hq⟩ := Go.Deep.choose_lt each
    by_cases hn : n = 0
    · exact ⟨[], .inl hn⟩
    · obtain ⟨bb, off, spot⟩ := b
      have hspot : spot = none := by
        have := off_plain (hq 0 (by omega))
        simpa [Addr.add] using this
      subst hspot
      refine ⟨(List.range n).map q, .inr ⟨bb, off, rfl, ?_, fun j hj => ?_⟩⟩
      · have := World.block_lt_of_cell? W _ (hq 0 (by omega))
        simpa [Addr.add] using this
      · have h0 := hq j hj
        have hL : ((List.range n).map q).getD j false = q j := by simp [List.getD, hj]
        rw [hL]
        have e : ∀ i, (⟨bb, off, none⟩ : Addr).add i = ⟨bb, off + i, none⟩ := fun i => by unfold Addr.add; split <;> simp_all
        rw [e] at h0
        exact h0
end

set_option maxRecDepth 100000 in
theorem lifted (os : Os) (started : os.Started) (H : Type) (enc : TypeId × Value → H) :
    ReturnsInHanded {} Try.checked os 10 .any (Rows.controlMarksSpec.pre6 enc Try.prog Try.f10 Rows.controlMarksRow.domain false) (Rows.controlMarksSpec.post enc Try.prog Try.f10 false true false false) := by
  refine returnsInHanded_of_change (C := Try.checked) own started (by kernel_rfl) Try.func10
    (ChangeSpec.witness6 (enc := enc) (C := Try.checked) false ⟨#[], #[.slice none 0 0, .slice none 0 0], []⟩ 8 (by kernel_rfl) (by kernel_rfl) (by kernel_rfl) (by kernel_rfl)) ?_
  intro W base args ds gs before hval0 hW hcnd _
  have hval : ∀ (j : Nat) t v, Try.f10.params[j]? = some t → args[j]? = some v → Value.okWide Try.prog W .any base t v := hval0
  have hW' := hW
  obtain ⟨p, q, hA0, hV, rfl, hfz, hnd⟩ := hW
  have hA : DataW.TrodAll enc Try.prog W 0 (fun _ => true) true Try.f10.params.toList args.toList ds p := hA0
  rw [Try.params10] at hA hval
  obtain ⟨v0, vs0, d0, ds0, p0, q0, hargs, rfl, rfl, h0, r0⟩ := trodAll_cons hA
  obtain ⟨v1, vs1, d1, ds1, p1, q1, rfl, rfl, rfl, h1, r1⟩ := trodAll_cons r0
  obtain ⟨rfl, rfl, rfl⟩ := trodAll_nil r1
  obtain rfl : args = #[v0, v1] := by cases args; simp_all
  obtain ⟨rfl, rfl⟩ := trodVars_none hV
  obtain ⟨a0, n0, c0, rfl⟩ := okWide_slice Try.underlying109 (hval 0 109 v0 rfl rfl)
  obtain ⟨a1, n1, c1, rfl⟩ := okWide_slice Try.underlying110 (hval 1 110 v1 rfl rfl)
  have k0 := h0
  have k1 := h1
  have lt0 : ∀ x ∈ p0, x.block < W.heap.size := by obtain ⟨m, hm⟩ := k0; exact DataW.trod_lt m _ _ _ hm
  have lt1 : ∀ x ∈ p1, x.block < W.heap.size := by obtain ⟨m, hm⟩ := k1; exact DataW.trod_lt m _ _ _ hm
  obtain ⟨L, w0⟩ : ∃ L, Ctl.IsMarks W a0 n0 L := by
    obtain ⟨fuel, hf⟩ := h0
    exact open_marks (by simpa [Value.cells] using hf)
  obtain ⟨bs, w1⟩ : ∃ L, Ctl.IsBools W a1 n1 L := by
    obtain ⟨fuel, hf⟩ := h1
    exact open_bools (by simpa [Value.cells] using hf)
  clear hA0 hval0
  refine (Ctl.law a0 n0 c0 L a1 n1 c1 bs W w0 w1).mono fun e W' ⟨he, bel⟩ => ?_
  subst he
  exact ⟨_, rfl, _, _, _, [], _, [], hW', trodAll_mk1 (shut_bool Try.underlying4 _), (trodAll_cons_mk (Below.trod laidOut (by kernel_rfl) (of_decide_eq_true (by kernel_rfl)) k0 bel lt0) (trodAll_cons_mk (Below.trod laidOut (by kernel_rfl) (of_decide_eq_true (by kernel_rfl)) k1 bel lt1) trodAll_mk0)), rfl, bel.frame _, fun h => by cases h⟩

theorem over : Rows.controlMarksRow.holds Try.pinned (OpenSpec.ofChange Rows.controlMarksSpec) :=
  OpenClaim.holds_of_wide 10 Try.f10 rfl rfl rfl rfl rfl rfl rfl ⟨rfl, rfl, rfl, rfl, rfl⟩ rfl rfl rfl rfl rfl (by kernel_rfl) Try.func10 (by kernel_rfl)
    (of_decide_eq_true (by kernel_rfl)) (by unfold Func.isWrapper; first | (rw [if_pos (by decide +kernel)]; kernel_rfl) | (rw [if_neg (by decide +kernel)]; exact ⟨rfl, rfl⟩))
    (fun os started H enc _ => lifted os started H enc)

/-- ████ THE STATEMENT ████ -/
theorem proved : Rows.ControlMarksSaid :=
  over
#print axioms proved
end Go.Proofs.Ytcimiijmffblgaa.controlMarks
