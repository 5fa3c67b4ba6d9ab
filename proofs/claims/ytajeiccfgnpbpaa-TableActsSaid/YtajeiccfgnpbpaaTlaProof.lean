/- Of every slice of acts and every selector, the statement TableActs returns true: tables in a memory are what the document's tables are. No condition. -/
import Derived.Test.YtajeiccfgnpbpaaRows
import Derived.Test.YtajeiccfgnpbpaaTlaE
import Derived.WalkKit
import Derived.ProofKit
import Derived.OpenShut
import Derived.ShutString
import Derived.ChangeOld
import Derived.Below
import Derived.Deep.Slices
import Derived.Deep.Strs
import Derived.Lib.SmallJoins
namespace Go.Proofs.Ytajeiccfgnpbpaa.tableActs
open Go.ChangeShapes Go.WideShapes Go.ChangeAt Go.RowKit
open Go.ChangeMaps (open_string shut_string)
set_option linter.unusedVariables false

instance : Inhabited Mem.ActV := ⟨⟨0, 0, 0, 0, 0, 0⟩⟩
theorem own : ownKnob Try.prog.godebug = none := by kernel_rfl
theorem laidOut : laidOutB Try.prog = true := by kernel_rfl
theorem cellsAct : Try.prog.cellsOf 41 = 6 := by kernel_rfl
theorem cellsEnt : Try.prog.cellsOf 38 = 3 := by kernel_rfl
theorem cellsI64 : Try.prog.cellsOf 2 = 1 := by kernel_rfl
theorem cellsI16 : Try.prog.cellsOf 39 = 1 := by kernel_rfl
theorem cellsU8 : Try.prog.cellsOf 5 = 1 := by kernel_rfl

theorem off_plain {W : World} {a : Addr} {v : Value} (h : W.cell? a = some v) : a.spot = none := World.cell?_spot h

section
variable {H : Type} {enc : TypeId × Value → H} {W : World} {sp : Nat → Bool}

set_option maxRecDepth 100000 in
/-- The acts, opened. -/
theorem open_acts {fuel : Nat} {a : Option Addr} {n c : Nat} {x : DataW H × List MemPlace} (h : DataW.trod enc Try.prog W 0 sp true fuel 22 [.slice a n c] = some x) :
    ∃ L, Mem.IsActs W a n L := by
  rcases Go.Deep.open_slice Try.underlying22 h with ⟨hc, _⟩ | ⟨b, len, cap, m, k, D, Pl, hc, _, hl, hm, hmm, _, hx⟩
  · simp at hc
    obtain ⟨rfl, rfl, rfl⟩ := hc
    exact ⟨fun _ => ⟨0, 0, 0, 0, 0, 0⟩, .inl rfl⟩
  · simp at hc
    obtain ⟨rfl, rfl, rfl⟩ := hc
    have hlm : n ≤ m := by rw [hmm]; split <;> omega
    have each : ∀ i, i < n → ∃ q : Mem.ActV, W.cell? (b.add (i * 6)) = some (.int .u8 (q.kind : Int)) ∧ W.cell? (b.add (i * 6 + 1)) = some (.int .u8 (q.tab : Int)) ∧ W.cell? (b.add (i * 6 + 2)) = some (.int .i64 q.sel) ∧
        W.cell? (b.add (i * 6 + 3)) = some (.int .i64 q.xt) ∧ W.cell? (b.add (i * 6 + 4)) = some (.int .i64 q.cls) ∧ W.cell? (b.add (i * 6 + 5)) = some (.int .i16 q.n) ∧ q.kind ≤ 255 ∧ q.tab ≤ 255 ∧ -32768 ≤ q.n ∧ q.n ≤ 32767 := by
      intro i hi
      obtain ⟨cs', h1, h2⟩ := hx i (by omega)
      rw [cellsAct] at h1
      obtain ⟨_, hlen, hcell⟩ := World.cells?_some h1
      obtain ⟨y0, y1, y2, y3, k', _, _, u0, u1, u2, u3⟩ := Go.Joins.trod_struct4 Try.underlying41 h2
      match cs', hlen with
      | [v0, v1, v2, v3, v4, v5], _ =>
        simp only [cellsU8, cellsEnt, cellsI16, List.drop, List.take] at u0 u1 u2 u3
        obtain ⟨q0, e0, _, f0⟩ := DataW.trod_int Try.underlying5 u0
        obtain ⟨q1, e1, _, f1⟩ := DataW.trod_int Try.underlying5 u1
        obtain ⟨z0, z1, z2, k'', _, _, t0, t1, t2⟩ := Go.Deep.trod_struct3 Try.underlying38 u2
        simp only [cellsI64, List.drop, List.take] at t0 t1 t2
        obtain ⟨q2, e2, _, _⟩ := DataW.trod_int Try.underlying2 t0
        obtain ⟨q3, e3, _, _⟩ := DataW.trod_int Try.underlying2 t1
        obtain ⟨q4, e4, _, _⟩ := DataW.trod_int Try.underlying2 t2
        obtain ⟨q5, e5, _, f5⟩ := DataW.trod_int Try.underlying39 u3
        simp only [List.cons.injEq, and_true] at e0 e1 e2 e3 e4 e5
        subst e0; subst e1; subst e2; subst e3; subst e4; subst e5
        have g0 : 0 ≤ q0 ∧ q0 ≤ 255 := by simpa [Lit.wf, IntKind.min, IntKind.max, IntKind.bits, IntKind.signed] using f0
        have g1 : 0 ≤ q1 ∧ q1 ≤ 255 := by simpa [Lit.wf, IntKind.min, IntKind.max, IntKind.bits, IntKind.signed] using f1
        have g5 : -32768 ≤ q5 ∧ q5 ≤ 32767 := by simpa [Lit.wf, IntKind.min, IntKind.max, IntKind.bits, IntKind.signed] using f5
        have c0 := hcell 0 (by omega)
        have c1 := hcell 1 (by omega)
        have c2 := hcell 2 (by omega)
        have c3 := hcell 3 (by omega)
        have c4 := hcell 4 (by omega)
        have c5 := hcell 5 (by omega)
        rw [Go.Deep.add_add] at c0 c1 c2 c3 c4 c5
        obtain ⟨m0, rfl⟩ : ∃ m0 : Nat, q0 = m0 := ⟨q0.toNat, by omega⟩
        obtain ⟨m1, rfl⟩ : ∃ m1 : Nat, q1 = m1 := ⟨q1.toNat, by omega⟩
        exact ⟨⟨m0, m1, q2, q3, q4, q5⟩, by simpa using c0, by simpa using c1, by simpa using c2, by simpa using c3, by simpa using c4, by simpa using c5, (show m0 ≤ 255 by omega), (show m1 ≤ 255 by omega), g5.1, g5.2⟩
    obtain ⟨q, hq⟩ := Go.Deep.choose_lt each
    by_cases hn : n = 0
    · exact ⟨fun _ => ⟨0, 0, 0, 0, 0, 0⟩, .inl hn⟩
    · obtain ⟨bb, off, spot⟩ := b
      have hspot : spot = none := by
        have := off_plain (hq 0 (by omega)).1
        simpa [Addr.add] using this
      subst hspot
      refine ⟨q, .inr ⟨bb, off, rfl, ?_, fun j hj => ?_⟩⟩
      · have := World.block_lt_of_cell? W _ (hq 0 (by omega)).1
        simpa [Addr.add] using this
      · have h0 := hq j hj
        have e : ∀ i, (⟨bb, off, none⟩ : Addr).add i = ⟨bb, off + i, none⟩ := fun i => by unfold Addr.add; split <;> simp_all
        simp only [e] at h0
        simpa only [Mem.ActAt, Nat.add_assoc] using h0
end

set_option maxRecDepth 100000 in
theorem lifted (os : Os) (started : os.Started) (H : Type) (enc : TypeId × Value → H) :
    ReturnsInHanded {} Try.checked os 3 .any (Rows.tableActsSpec.pre6 enc Try.prog Try.f3 Rows.tableActsRow.domain false) (Rows.tableActsSpec.post enc Try.prog Try.f3 false true false false) := by
  refine returnsInHanded_of_change (C := Try.checked) own started (by kernel_rfl) Try.func3
    (ChangeSpec.witness6 (enc := enc) (C := Try.checked) false ⟨#[], #[.slice none 0 0, .int .i64 0], []⟩ 8 (by kernel_rfl) (by kernel_rfl) (by kernel_rfl) (by kernel_rfl)) ?_
  intro W base args ds gs before hval0 hW hcnd _
  have hval : ∀ (j : Nat) t v, Try.f3.params[j]? = some t → args[j]? = some v → Value.okWide Try.prog W .any base t v := hval0
  have hW' := hW
  obtain ⟨p, q, hA0, hV, rfl, hfz, hnd⟩ := hW
  have hA : DataW.TrodAll enc Try.prog W 0 (fun _ => true) true Try.f3.params.toList args.toList ds p := hA0
  rw [Try.params3] at hA hval
  obtain ⟨v0, vs0, d0, ds0, p0, q0, hargs, rfl, rfl, h0, r0⟩ := trodAll_cons hA
  obtain ⟨v1, vs1, d1, ds1, p1, q1, rfl, rfl, rfl, h1, r1⟩ := trodAll_cons r0
  obtain ⟨rfl, rfl, rfl⟩ := trodAll_nil r1
  obtain rfl : args = #[v0, v1] := by cases args; simp_all
  obtain ⟨rfl, rfl⟩ := trodVars_none hV
  obtain ⟨a0, n0, c0, rfl⟩ := okWide_slice Try.underlying22 (hval 0 22 v0 rfl rfl)
  obtain ⟨s1, rfl⟩ := okWide_int Try.underlying2 (hval 1 2 v1 rfl rfl)
  have k0 := h0
  have k1 := h1
  have lt0 : ∀ x ∈ p0, x.block < W.heap.size := by obtain ⟨m, hm⟩ := k0; exact DataW.trod_lt m _ _ _ hm
  have lt1 : ∀ x ∈ p1, x.block < W.heap.size := by obtain ⟨m, hm⟩ := k1; exact DataW.trod_lt m _ _ _ hm
  obtain ⟨L, w0⟩ : ∃ L, Mem.IsActs W a0 n0 L := by
    obtain ⟨fuel, hf⟩ := h0
    exact open_acts (by simpa [Value.cells] using hf)
  clear hA0 hval0
  refine (Mem.tableActs_any a0 n0 c0 L s1 W w0).mono fun e W' ⟨he, bel⟩ => ?_
  subst he
  exact ⟨_, rfl, _, _, _, [], _, [], hW', trodAll_mk1 (shut_bool Try.underlying4 _), (trodAll_cons_mk (Below.trod laidOut (by kernel_rfl) (of_decide_eq_true (by kernel_rfl)) k0 bel lt0) (trodAll_cons_mk (Below.trod laidOut (by kernel_rfl) (of_decide_eq_true (by kernel_rfl)) k1 bel lt1) trodAll_mk0)), rfl, bel.frame _, fun h => by cases h⟩

theorem over : Rows.tableActsRow.holds Try.pinned (OpenSpec.ofChange Rows.tableActsSpec) :=
  OpenClaim.holds_of_wide 3 Try.f3 rfl rfl rfl rfl rfl rfl rfl ⟨rfl, rfl, rfl, rfl, rfl⟩ rfl rfl rfl rfl rfl (by kernel_rfl) Try.func3 (by kernel_rfl)
    (of_decide_eq_true (by kernel_rfl)) (by unfold Func.isWrapper; first | (rw [if_pos (by decide +kernel)]; kernel_rfl) | (rw [if_neg (by decide +kernel)]; exact ⟨rfl, rfl⟩))
    (fun os started H enc _ => lifted os started H enc)

/-- ████ THE STATEMENT ████ -/
theorem proved : Rows.TableActsSaid :=
  over
#print axioms proved
end Go.Proofs.Ytajeiccfgnpbpaa.tableActs
