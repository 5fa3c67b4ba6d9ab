/- Of any acts on classes and objects the statement ObjectSends returns true: what each object is sent enters the method that a walk upwards finds at that moment, each has its class and its bytes, none lies in another one. No condition. -/
import Derived.Test.YtajeiccfgnpbpaaRows
import Derived.Test.YtajeiccfgnpbpaaOsLoop
import Derived.WalkKit
import Derived.ProofKit
import Derived.OpenShut
import Derived.ShutString
import Derived.ChangeOld
import Derived.Below
import Derived.Deep.Slices
import Derived.Deep.Strs
set_option linter.unusedSimpArgs false
set_option linter.unusedVariables false

namespace Go.Proofs.Ytajeiccfgnpbpaa.objectSends
open Go.ChangeShapes Go.WideShapes Go.ChangeAt Go.RowKit
set_option linter.unusedVariables false

instance : Inhabited Mem.ActS := ⟨⟨0, 0, 0, 0, 0⟩⟩
theorem own : ownKnob Try.prog.godebug = none := by kernel_rfl
theorem laidOut : laidOutB Try.prog = true := by kernel_rfl
theorem cellsAct : Try.prog.cellsOf 87 = 5 := by kernel_rfl
theorem cellsU8 : Try.prog.cellsOf 5 = 1 := by kernel_rfl
theorem off_plain {W : World} {a : Addr} {v : Value} (h : W.cell? a = some v) : a.spot = none := World.cell?_spot h

section
variable {H : Type} {enc : TypeId × Value → H} {W : World} {sp : Nat → Bool}

theorem trod_u8 {fuel : Nat} {v : Value} {y : DataW H × List MemPlace} (h : DataW.trod enc Try.prog W 0 sp true fuel 5 [v] = some y) : ∃ q : Nat, v = .int .u8 (q : Int) ∧ q ≤ 255 := by
  obtain ⟨q, e1, _, f1⟩ := DataW.trod_int Try.underlying5 h
  simp only [List.cons.injEq, and_true] at e1
  have g1 : 0 ≤ q ∧ q ≤ 255 := by simpa [Lit.wf, IntKind.min, IntKind.max, IntKind.bits, IntKind.signed] using f1
  obtain ⟨m, rfl⟩ : ∃ m : Nat, q = m := ⟨q.toNat, by omega⟩
  exact ⟨m, e1, by omega⟩
set_option maxRecDepth 100000 in
/-- The acts, opened. -/
theorem open_acts {fuel : Nat} {a : Option Addr} {n c : Nat} {x : DataW H × List MemPlace} (h : DataW.trod enc Try.prog W 0 sp true fuel 80 [.slice a n c] = some x) :
    ∃ L, Mem.IsActsS W a n L := by
  rcases Go.Deep.open_slice Try.underlying80 h with ⟨hc, _⟩ | ⟨b, len, cap, m, k, D, Pl, hc, _, hl, hm, hmm, _, hx⟩
  · simp at hc
    obtain ⟨rfl, rfl, rfl⟩ := hc
    exact ⟨fun _ => ⟨0, 0, 0, 0, 0⟩, .inl rfl⟩
  · simp at hc
    obtain ⟨rfl, rfl, rfl⟩ := hc
    have hlm : n ≤ m := by rw [hmm]; split <;> omega
    have each : ∀ i, i < n → ∃ q : Mem.ActS, W.cell? (b.add (i * 5)) = some (.int .u8 (q.kind : Int)) ∧ W.cell? (b.add (i * 5 + 1)) = some (.int .u8 (q.par : Int)) ∧ W.cell? (b.add (i * 5 + 2)) = some (.int .u8 (q.cls : Int)) ∧
        W.cell? (b.add (i * 5 + 3)) = some (.int .u8 (q.sel : Int)) ∧ W.cell? (b.add (i * 5 + 4)) = some (.int .u8 (q.xt : Int)) ∧ q.ok := by
      intro i hi
      obtain ⟨cs', h1, h2⟩ := hx i (by omega)
      rw [cellsAct] at h1
      obtain ⟨_, hlen, hcell⟩ := World.cells?_some h1
      obtain ⟨xs, k', _, _, _, hxl, hf⟩ := DataW.trod_struct Try.underlying87 h2
      have hget : ∀ j, j < 5 → ∃ y, xs[j]? = some y := fun j hj => ⟨xs[j]'(by rw [hxl]; exact hj), List.getElem?_eq_getElem (by rw [hxl]; exact hj)⟩
      obtain ⟨y0, e0⟩ := hget 0 (by omega)
      obtain ⟨y1, e1⟩ := hget 1 (by omega)
      obtain ⟨y2, e2⟩ := hget 2 (by omega)
      obtain ⟨y3, e3⟩ := hget 3 (by omega)
      obtain ⟨y4, e4⟩ := hget 4 (by omega)
      have u0 := hf 0 _ rfl
      have u1 := hf 1 _ rfl
      have u2 := hf 2 _ rfl
      have u3 := hf 3 _ rfl
      have u4 := hf 4 _ rfl
      rw [e0] at u0
      rw [e1] at u1
      rw [e2] at u2
      rw [e3] at u3
      rw [e4] at u4
      match cs', hlen with
      | [v0, v1, v2, v3, v4], _ =>
        have t0 : DataW.trod enc Try.prog W 0 sp true k' 5 (List.take (Try.prog.cellsOf 5) [v0, v1, v2, v3, v4]) = some y0 := u0
        rw [cellsU8] at t0
        have t1 : DataW.trod enc Try.prog W 0 sp true k' 5 (List.take (Try.prog.cellsOf 5) [v1, v2, v3, v4]) = some y1 := u1
        rw [cellsU8] at t1
        have t2 : DataW.trod enc Try.prog W 0 sp true k' 5 (List.take (Try.prog.cellsOf 5) [v2, v3, v4]) = some y2 := u2
        rw [cellsU8] at t2
        have t3 : DataW.trod enc Try.prog W 0 sp true k' 5 (List.take (Try.prog.cellsOf 5) [v3, v4]) = some y3 := u3
        rw [cellsU8] at t3
        have t4 : DataW.trod enc Try.prog W 0 sp true k' 5 (List.take (Try.prog.cellsOf 5) [v4]) = some y4 := u4
        rw [cellsU8] at t4
        obtain ⟨m0, rfl, g0⟩ := trod_u8 t0
        obtain ⟨m1, rfl, g1⟩ := trod_u8 t1
        obtain ⟨m2, rfl, g2⟩ := trod_u8 t2
        obtain ⟨m3, rfl, g3⟩ := trod_u8 t3
        obtain ⟨m4, rfl, g4⟩ := trod_u8 t4
        have c0 := hcell 0 (by omega)
        have c1 := hcell 1 (by omega)
        have c2 := hcell 2 (by omega)
        have c3 := hcell 3 (by omega)
        have c4 := hcell 4 (by omega)
        rw [Go.Deep.add_add] at c0 c1 c2 c3 c4
        exact ⟨⟨m0, m1, m2, m3, m4⟩, by simpa using c0, by simpa using c1, by simpa using c2, by simpa using c3, by simpa using c4, g0, g1, g2, g3, g4⟩
    obtain ⟨q, hq⟩ := Go.Deep.choose_lt each
    by_cases hn : n = 0
    · exact ⟨fun _ => ⟨0, 0, 0, 0, 0⟩, .inl hn⟩
    · obtain ⟨bb, off, spot⟩ := b
      have hspot : spot = none := by
        have := off_plain (hq 0 (by omega)).1
        simpa [Addr.add] using this
      subst hspot
      refine ⟨q, .inr ⟨bb, off, rfl, ?_, fun j hj => ?_⟩⟩
      · have := World.block_lt_of_cell? W _ (hq 0 (by omega)).1
        simpa [Addr.add] using this
      · have h0 := hq j hj
        have e : ∀ i, (⟨bb, off, none⟩ : Addr).add i = ⟨bb, off + i, none⟩ := fun i => by unfold Addr.add; split <;> simp_all
        simp only [e] at h0
        obtain ⟨p0, p1, p2, p3, p4, p5⟩ := h0
        exact ⟨⟨p0, by simpa only [Nat.add_assoc] using p1, by simpa only [Nat.add_assoc] using p2, by simpa only [Nat.add_assoc] using p3, by simpa only [Nat.add_assoc] using p4⟩, p5⟩

end

set_option maxRecDepth 100000 in
theorem lifted (os : Os) (started : os.Started) (H : Type) (enc : TypeId × Value → H) :
    ReturnsInHanded {} Try.checked os 7 .any (Rows.objectSendsSpec.pre6 enc Try.prog Try.f7 Rows.objectSendsRow.domain false) (Rows.objectSendsSpec.post enc Try.prog Try.f7 false true false false) := by
  refine returnsInHanded_of_change (C := Try.checked) own started (by kernel_rfl) Try.func7
    (ChangeSpec.witness6 (enc := enc) (C := Try.checked) false ⟨#[], #[.slice none 0 0], []⟩ 8 (by kernel_rfl) (by kernel_rfl) (by kernel_rfl) (by kernel_rfl)) ?_
  intro W base args ds gs before hval0 hW hcnd _
  have hval : ∀ (j : Nat) t v, Try.f7.params[j]? = some t → args[j]? = some v → Value.okWide Try.prog W .any base t v := hval0
  have hW' := hW
  obtain ⟨p, q, hA0, hV, rfl, hfz, hnd⟩ := hW
  have hA : DataW.TrodAll enc Try.prog W 0 (fun _ => true) true Try.f7.params.toList args.toList ds p := hA0
  rw [Try.params7] at hA hval
  obtain ⟨v0, vs0, d0, ds0, p0, q0, hargs, rfl, rfl, h0, r0⟩ := trodAll_cons hA
  obtain ⟨rfl, rfl, rfl⟩ := trodAll_nil r0
  obtain rfl : args = #[v0] := by cases args; simp_all
  obtain ⟨rfl, rfl⟩ := trodVars_none hV
  obtain ⟨a0, n0, c0, rfl⟩ := okWide_slice Try.underlying80 (hval 0 80 v0 rfl rfl)
  have k0 := h0
  have lt0 : ∀ x ∈ p0, x.block < W.heap.size := by obtain ⟨m, hm⟩ := k0; exact DataW.trod_lt m _ _ _ hm
  obtain ⟨L, w0⟩ : ∃ L, Mem.IsActsS W a0 n0 L := by
    obtain ⟨fuel, hf⟩ := h0
    exact open_acts (by simpa [Value.cells] using hf)
  clear hA0 hval0
  refine (Mem.objectSends_any a0 n0 c0 L W w0).mono fun e W' ⟨he, bel⟩ => ?_
  subst he
  exact ⟨_, rfl, _, _, _, [], _, [], hW', trodAll_mk1 (shut_bool Try.underlying4 _), (trodAll_cons_mk (Below.trod laidOut (by kernel_rfl) (of_decide_eq_true (by kernel_rfl)) k0 bel lt0) trodAll_mk0), rfl, bel.frame _, fun h => by cases h⟩

theorem over : Rows.objectSendsRow.holds Try.pinned (OpenSpec.ofChange Rows.objectSendsSpec) :=
  OpenClaim.holds_of_wide 7 Try.f7 rfl rfl rfl rfl rfl rfl rfl ⟨rfl, rfl, rfl, rfl, rfl⟩ rfl rfl rfl rfl rfl (by kernel_rfl) Try.func7 (by kernel_rfl)
    (of_decide_eq_true (by kernel_rfl)) (by unfold Func.isWrapper; first | (rw [if_pos (by decide +kernel)]; kernel_rfl) | (rw [if_neg (by decide +kernel)]; exact ⟨rfl, rfl⟩))
    (fun os started H enc _ => lifted os started H enc)

/-- ████ THE STATEMENT ████ -/
theorem proved : Rows.ObjectSendsSaid :=
  over
#print axioms proved
end Go.Proofs.Ytajeiccfgnpbpaa.objectSends
