/- Of every slice of bytes, every address and every offset, the statement ClassIs returns true: Is tells the places of the classes that were made, and no other ones. No condition. -/
import Derived.Test.YtajeiccfgnpbpaaRows
import Derived.Test.YtajeiccfgnpbpaaCisE
import Derived.WalkKit
import Derived.ProofKit
import Derived.OpenShut
import Derived.ShutString
import Derived.ChangeOld
import Derived.Below
import Derived.Deep.Slices
import Derived.Deep.Strs
namespace Go.Proofs.Ytajeiccfgnpbpaa.classIs
open Go.ChangeShapes Go.WideShapes Go.ChangeAt Go.RowKit
open Go.ChangeMaps (open_string shut_string)
set_option linter.unusedVariables false

theorem own : ownKnob Try.prog.godebug = none := by kernel_rfl
theorem laidOut : laidOutB Try.prog = true := by kernel_rfl
theorem cellsU8 : Try.prog.cellsOf 5 = 1 := by kernel_rfl
theorem off_plain {W : World} {a : Addr} {v : Value} (h : W.cell? a = some v) : a.spot = none := World.cell?_spot h

section
variable {H : Type} {enc : TypeId × Value → H} {W : World} {sp : Nat → Bool}
set_option maxRecDepth 100000 in
/-- The bytes, opened. -/
theorem open_bytes {fuel : Nat} {a : Option Addr} {n c : Nat} {x : DataW H × List MemPlace} (h : DataW.trod enc Try.prog W 0 sp true fuel 53 [.slice a n c] = some x) :
    ∃ L, Mem.IsBytes W a n L := by
  rcases Go.Deep.open_slice1 Try.underlying53 cellsU8 h with ⟨hc, _⟩ | ⟨b, len, cap, m, k, V, D, Pl, hc, _, hl, hm, hmm, _, hx⟩
  · simp at hc
    obtain ⟨rfl, rfl, rfl⟩ := hc
    exact ⟨fun _ => 0, .inl rfl⟩
  · simp at hc
    obtain ⟨rfl, rfl, rfl⟩ := hc
    have hlm : n ≤ m := by rw [hmm]; split <;> omega
    have each : ∀ i, i < n → ∃ q : Nat, W.cell? (b.add i) = some (.int .u8 (q : Int)) ∧ q ≤ 255 := by
      intro i hi
      obtain ⟨h1, h2⟩ := hx i (by omega)
      obtain ⟨q, e1, _, f1⟩ := DataW.trod_int Try.underlying5 h2
      simp only [List.cons.injEq, and_true] at e1
      have g1 : 0 ≤ q ∧ q ≤ 255 := by simpa [Lit.wf, IntKind.min, IntKind.max, IntKind.bits, IntKind.signed] using f1
      obtain ⟨m1, rfl⟩ : ∃ m1 : Nat, q = m1 := ⟨q.toNat, by omega⟩
      exact ⟨m1, by rw [h1, e1], by omega⟩
    obtain ⟨q, hq⟩ := Go.Deep.choose_lt each
    by_cases hn : n = 0
    · exact ⟨fun _ => 0, .inl hn⟩
    · obtain ⟨bb, off, spot⟩ := b
      have hspot : spot = none := by
        have := off_plain (hq 0 (by omega)).1
        simpa [Addr.add] using this
      subst hspot
      refine ⟨q, .inr ⟨bb, off, rfl, ?_, fun j hj => ?_⟩⟩
      · have := World.block_lt_of_cell? W _ (hq 0 (by omega)).1
        simpa [Addr.add] using this
      · have h0 := hq j hj
        have e : ∀ i, (⟨bb, off, none⟩ : Addr).add i = ⟨bb, off + i, none⟩ := fun i => by unfold Addr.add; split <;> simp_all
        rw [e] at h0
        exact h0
end

set_option maxRecDepth 100000 in
theorem lifted (os : Os) (started : os.Started) (H : Type) (enc : TypeId × Value → H) :
    ReturnsInHanded {} Try.checked os 4 .any (Rows.classIsSpec.pre6 enc Try.prog Try.f4 Rows.classIsRow.domain false) (Rows.classIsSpec.post enc Try.prog Try.f4 false true false false) := by
  refine returnsInHanded_of_change (C := Try.checked) own started (by kernel_rfl) Try.func4
    (ChangeSpec.witness6 (enc := enc) (C := Try.checked) false ⟨#[], #[.slice none 0 0, .int .i64 0, .int .i16 0], []⟩ 8 (by kernel_rfl) (by kernel_rfl) (by kernel_rfl) (by kernel_rfl)) ?_
  intro W base args ds gs before hval0 hW hcnd _
  have hval : ∀ (j : Nat) t v, Try.f4.params[j]? = some t → args[j]? = some v → Value.okWide Try.prog W .any base t v := hval0
  have hW' := hW
  obtain ⟨p, q, hA0, hV, rfl, hfz, hnd⟩ := hW
  have hA : DataW.TrodAll enc Try.prog W 0 (fun _ => true) true Try.f4.params.toList args.toList ds p := hA0
  rw [Try.params4] at hA hval
  obtain ⟨v0, vs0, d0, ds0, p0, q0, hargs, rfl, rfl, h0, r0⟩ := trodAll_cons hA
  obtain ⟨v1, vs1, d1, ds1, p1, q1, rfl, rfl, rfl, h1, r1⟩ := trodAll_cons r0
  obtain ⟨v2, vs2, d2, ds2, p2, q2, rfl, rfl, rfl, h2, r2⟩ := trodAll_cons r1
  obtain ⟨rfl, rfl, rfl⟩ := trodAll_nil r2
  obtain rfl : args = #[v0, v1, v2] := by cases args; simp_all
  obtain ⟨rfl, rfl⟩ := trodVars_none hV
  obtain ⟨a0, n0, c0, rfl⟩ := okWide_slice Try.underlying53 (hval 0 53 v0 rfl rfl)
  obtain ⟨s1, rfl⟩ := okWide_int Try.underlying2 (hval 1 2 v1 rfl rfl)
  obtain ⟨s2, rfl⟩ := okWide_int Try.underlying39 (hval 2 39 v2 rfl rfl)
  have k0 := h0
  have k1 := h1
  have k2 := h2
  have lt0 : ∀ x ∈ p0, x.block < W.heap.size := by obtain ⟨m, hm⟩ := k0; exact DataW.trod_lt m _ _ _ hm
  have lt1 : ∀ x ∈ p1, x.block < W.heap.size := by obtain ⟨m, hm⟩ := k1; exact DataW.trod_lt m _ _ _ hm
  have lt2 : ∀ x ∈ p2, x.block < W.heap.size := by obtain ⟨m, hm⟩ := k2; exact DataW.trod_lt m _ _ _ hm
  obtain ⟨L, w0⟩ : ∃ L, Mem.IsBytes W a0 n0 L := by
    obtain ⟨fuel, hf⟩ := h0
    exact open_bytes (by simpa [Value.cells] using hf)
  have g2 : -32768 ≤ s2 ∧ s2 ≤ 32767 := by
    obtain ⟨fuel, hf⟩ := h2
    obtain ⟨q, e1, _, f1⟩ := DataW.trod_int Try.underlying39 (by simpa [Value.cells] using hf : DataW.trod enc Try.prog W 0 (fun _ => true) true fuel 39 [.int .i16 s2] = some (d2, p2))
    simp only [List.cons.injEq, and_true, Value.int.injEq, true_and] at e1
    subst e1
    simpa [Lit.wf, IntKind.min, IntKind.max, IntKind.bits, IntKind.signed] using f1
  clear hA0 hval0
  refine (Mem.classIs_any a0 n0 c0 L s1 s2 W w0 g2).mono fun e W' ⟨he, bel⟩ => ?_
  subst he
  exact ⟨_, rfl, _, _, _, [], _, [], hW', trodAll_mk1 (shut_bool Try.underlying4 _), (trodAll_cons_mk (Below.trod laidOut (by kernel_rfl) (of_decide_eq_true (by kernel_rfl)) k0 bel lt0) (trodAll_cons_mk (Below.trod laidOut (by kernel_rfl) (of_decide_eq_true (by kernel_rfl)) k1 bel lt1) (trodAll_cons_mk (Below.trod laidOut (by kernel_rfl) (of_decide_eq_true (by kernel_rfl)) k2 bel lt2) trodAll_mk0))), rfl, bel.frame _, fun h => by cases h⟩

theorem over : Rows.classIsRow.holds Try.pinned (OpenSpec.ofChange Rows.classIsSpec) :=
  OpenClaim.holds_of_wide 4 Try.f4 rfl rfl rfl rfl rfl rfl rfl ⟨rfl, rfl, rfl, rfl, rfl⟩ rfl rfl rfl rfl rfl (by kernel_rfl) Try.func4 (by kernel_rfl)
    (of_decide_eq_true (by kernel_rfl)) (by unfold Func.isWrapper; first | (rw [if_pos (by decide +kernel)]; kernel_rfl) | (rw [if_neg (by decide +kernel)]; exact ⟨rfl, rfl⟩))
    (fun os started H enc _ => lifted os started H enc)

/-- ████ THE STATEMENT ████ -/
theorem proved : Rows.ClassIsSaid :=
  over
#print axioms proved
end Go.Proofs.Ytajeiccfgnpbpaa.classIs
