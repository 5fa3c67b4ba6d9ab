/- Of every list of lists of selectors, and every room, the statement IfaceKeeps returns true: interfaces stand where they were laid; without room there is none. Its condition: the arguments are of bulk at most 1048576 (the statement's second form). -/
import Derived.Test.YtajeiccfgnpbpaaRows
import Derived.Test.YtajeiccfgnpbpaaIfkE
import Derived.WalkKit
import Derived.ProofKit
import Derived.OpenShut
import Derived.ShutString
import Derived.ChangeOld
import Derived.Below
import Derived.JoinedCond
import Derived.Deep.Slices
import Derived.Deep.Matrix
import Derived.Deep.Strs
namespace Go.Proofs.Ytajeiccfgnpbpaa.ifaceKeeps
open Go.ChangeShapes Go.WideShapes Go.ChangeAt Go.RowKit
set_option linter.unusedVariables false

theorem own : ownKnob Try.prog.godebug = none := by kernel_rfl
theorem laidOut : laidOutB Try.prog = true := by kernel_rfl
theorem cellsI : Try.prog.cellsOf 2 = 1 := by kernel_rfl
theorem cellsS : Try.prog.cellsOf 36 = 1 := by kernel_rfl
theorem off_plain {W : World} {a : Addr} {v : Value} (h : W.cell? a = some v) : a.spot = none := World.cell?_spot h

theorem one_le {H : Type} (d : DataW H) : 1 ≤ Rows.uptoBulk d := by
  cases d with
  | lit l => cases l <;> simp [Rows.uptoBulk]
  | nil => simp [Rows.uptoBulk]
  | ptr d => simp [Rows.uptoBulk]
  | slice elems spare => simp [Rows.uptoBulk]
  | agg parts => simp [Rows.uptoBulk]
  | iface t d => simp [Rows.uptoBulk]
  | map entries => simp [Rows.uptoBulk]
  | held h => simp [Rows.uptoBulk]
theorem bulk_append {H : Type} (l r : List (DataW H)) : Rows.uptoBulkAll (l ++ r) = Rows.uptoBulkAll l + Rows.uptoBulkAll r := by
  induction l with
  | nil => simp [Rows.uptoBulkAll]
  | cons x l ih => simp only [List.cons_append, Rows.uptoBulkAll, ih]; omega
theorem length_le {H : Type} (l : List (DataW H)) : l.length ≤ Rows.uptoBulkAll l := by
  induction l with
  | nil => simp [Rows.uptoBulkAll]
  | cons x r ih => have := one_le x; simp only [Rows.uptoBulkAll, List.length_cons]; omega

/-- A row's bulk. -/
theorem row_bulk {H : Type} (A : Option Addr) (l c : Nat) (Z : List Int) (hl : l ≤ c) (hz : Z.length = c) (hn : A = none → c = 0) : 1 + l ≤ Rows.uptoBulk (Go.Deep.intRow (H := H) .i64 A l Z) := by
  cases A with
  | none =>
    have := hn rfl
    have := one_le (Go.Deep.intRow (H := H) .i64 none l Z)
    omega
  | some a =>
    simp only [Go.Deep.intRow, Rows.uptoBulk]
    have h1 := length_le (lits (H := H) .i64 (Z.take l))
    have h2 : (lits (H := H) .i64 (Z.take l)).length = l := by
      simp [lits]
      omega
    omega

section
variable {H : Type} {enc : TypeId × Value → H} {W : World}
set_option maxRecDepth 100000 in
/-- The rows, opened; how many there are in all is bounded by the bulk. -/
theorem open_rows {fuel : Nat} {a : Option Addr} {n c : Nat} {x : DataW H × List MemPlace} (h : DataW.trod enc Try.prog W 0 (fun _ => true) true fuel 62 [.slice a n c] = some x) :
    ∃ V L, Mem.IsRows W a n V L ∧ Mem.tot L n ≤ Rows.uptoBulk x.1 := by
  rcases Go.Deep.open_int_rows Try.underlying62 Try.underlying36 Try.underlying2 cellsS cellsI h with ⟨hc, rfl⟩ | ⟨b, len, cap, A, LL, C, Z, hc, _, hl, hm, rfl, hx⟩
  · simp at hc
    obtain ⟨rfl, rfl, rfl⟩ := hc
    exact ⟨fun _ => .slice none 0 0, fun _ => [], .inl rfl, by simp [Mem.tot]⟩
  · simp at hc
    obtain ⟨rfl, rfl, rfl⟩ := hc
    refine ⟨fun r => .slice (A r) (LL r) (C r), fun r => (Z r).take (LL r), ?_, ?_⟩
    · by_cases hn : n = 0
      · exact .inl hn
      · obtain ⟨bb, off, spot⟩ := b
        have hspot : spot = none := by
          have := off_plain (hx 0 (by omega)).1
          simpa [Addr.add] using this
        subst hspot
        have e : ∀ i, (⟨bb, off, none⟩ : Addr).add i = ⟨bb, off + i, none⟩ := fun i => by unfold Addr.add; split <;> simp_all
        refine .inr ⟨bb, off, rfl, ?_, fun j hj => ?_⟩
        · have := World.block_lt_of_cell? W _ (hx 0 (by omega)).1
          simpa [Addr.add] using this
        · obtain ⟨h1, h2, h3, h4, h5, h6, h7⟩ := hx j (by omega)
          rw [e] at h1
          have hlen : ((Z j).take (LL j)).length = LL j := by rw [List.length_take, h4]; omega
          refine ⟨h1, ?_⟩
          refine ⟨A j, C j, by rw [hlen], fun n hn => ?_, ?_⟩
          · have := h5 n (List.mem_of_mem_take hn)
            simpa [Lit.wf, IntKind.min, IntKind.max, IntKind.bits, IntKind.signed] using this
          · by_cases h0 : LL j = 0
            · exact .inl (show ((Z j).take (LL j)).length = 0 by rw [hlen]; exact h0)
            · cases hA : A j with
              | none => have := h6 hA; omega
              | some a' =>
                obtain ⟨_, h8⟩ := h7 a' hA
                obtain ⟨b2, o2, s2⟩ := a'
                have hs2 : s2 = none := by
                  have := off_plain (h8 0 (by omega))
                  simpa [Addr.add] using this
                subst hs2
                have e2 : ∀ i, (⟨b2, o2, none⟩ : Addr).add i = ⟨b2, o2 + i, none⟩ := fun i => by unfold Addr.add; split <;> simp_all
                have hb2 : b2 < W.heap.size := by
                  have := World.block_lt_of_cell? W _ (h8 0 (by omega))
                  simpa [Addr.add] using this
                refine .inr ⟨b2, o2, rfl, hb2, Nat.not_le.2 hb2, fun i hi => ?_⟩
                have hi' : i < LL j := by
                  have : i < ((Z j).take (LL j)).length := hi
                  omega
                have := h8 i (by omega)
                rw [e2] at this
                rw [this]
                show some (Value.int .i64 ((Z j).getD i 0)) = some (Value.int .i64 ((Z j).take (LL j))[i])
                simp [List.getD_eq_getElem?_getD, List.getElem?_eq_getElem (show i < (Z j).length by omega)]
    · simp only [Rows.uptoBulk]
      have key : ∀ k, k ≤ n → Mem.tot (fun r => (Z r).take (LL r)) k ≤ Rows.uptoBulkAll ((List.range k).map fun r => Go.Deep.intRow (H := H) .i64 (A r) (LL r) (Z r)) := by
        intro k
        induction k with
        | zero => intro _; exact Nat.zero_le _
        | succ k ih =>
          intro hk
          have ih := ih (by omega)
          obtain ⟨h1, h2, h3, h4, h5, h6, h7⟩ := hx k (by omega)
          have hb := row_bulk (H := H) (A k) (LL k) (C k) (Z k) h2 h4 h6
          rw [List.range_succ, List.map_append, bulk_append]
          simp only [List.map_cons, List.map_nil, Rows.uptoBulkAll, Mem.tot, List.length_take]
          omega
      have := key n (Nat.le_refl _)
      omega
end

set_option maxRecDepth 100000 in
theorem lifted (os : Os) (started : os.Started) (H : Type) (enc : TypeId × Value → H) (F : Stop.Interp) :
    ReturnsInHanded {} Try.checked os 5 .any ((Rows.OpenSpec.upto Rows.ifaceKeepsSpec).pre6 enc Try.prog Try.f5 Rows.ifaceKeepsUptoRow.domain false) (((Rows.OpenSpec.upto Rows.ifaceKeepsSpec).at F).post enc Try.prog Try.f5 false true false false) := by
  refine returnsInHanded_of_cond (C := Try.checked) (s := Rows.OpenSpec.upto Rows.ifaceKeepsSpec) (k := Rows.uptoSmall) rfl own started (by kernel_rfl) Try.func5
    (OpenSpec.witness (enc := enc) (C := Try.checked) (s := Rows.OpenSpec.upto Rows.ifaceKeepsSpec) (k := Rows.uptoSmall) rfl false ⟨#[], #[.slice none 0 0, .int .u16 0], []⟩ 8 (by kernel_rfl) (by kernel_rfl) (by kernel_rfl)
      (x := ([.nil, .lit (.int .u16 0)], [], [])) (by kernel_rfl) rfl (by kernel_rfl)) ?_
  intro W base args ds gs before hval0 hW _ hk _
  have hval : ∀ (j : Nat) t v, Try.f5.params[j]? = some t → args[j]? = some v → Value.okWide Try.prog W .any base t v := hval0
  have hW' := hW
  obtain ⟨p, q, hA0, hV, rfl, hfz, hnd⟩ := hW
  have hA : DataW.TrodAll enc Try.prog W 0 (fun _ => true) true Try.f5.params.toList args.toList ds p := hA0
  rw [Try.params5] at hA hval
  obtain ⟨v0, vs0, d0, ds0, p0, q0, hargs, rfl, rfl, h0, r0⟩ := trodAll_cons hA
  obtain ⟨v1, vs1, d1, ds1, p1, q1, rfl, rfl, rfl, h1, r1⟩ := trodAll_cons r0
  obtain ⟨rfl, rfl, rfl⟩ := trodAll_nil r1
  obtain rfl : args = #[v0, v1] := by cases args; simp_all
  obtain ⟨rfl, rfl⟩ := trodVars_none hV
  obtain ⟨a0, n0, c0, rfl⟩ := okWide_slice Try.underlying62 (hval 0 62 v0 rfl rfl)
  obtain ⟨s1, rfl⟩ := okWide_int Try.underlying63 (hval 1 63 v1 rfl rfl)
  have k0 := h0
  have k1 := h1
  have lt0 : ∀ x ∈ p0, x.block < W.heap.size := by obtain ⟨m, hm⟩ := k0; exact DataW.trod_lt m _ _ _ hm
  have lt1 : ∀ x ∈ p1, x.block < W.heap.size := by obtain ⟨m, hm⟩ := k1; exact DataW.trod_lt m _ _ _ hm
  obtain ⟨V, L, w0, hT⟩ : ∃ V L, Mem.IsRows W a0 n0 V L ∧ Mem.tot L n0 ≤ Rows.uptoBulk d0 := by
    obtain ⟨fuel, hf⟩ := h0
    exact open_rows (x := (d0, p0)) (by simpa [Value.cells] using hf)
  have hbd : Rows.uptoBulkAll ([d0, d1] ++ []) ≤ 1048576 := of_decide_eq_true hk
  have hT2 : Mem.tot L n0 ≤ 1048576 := by
    simp only [List.append_nil, Rows.uptoBulkAll] at hbd
    omega
  have g1 : 0 ≤ s1 ∧ s1 ≤ 65535 := by
    obtain ⟨fuel, hf⟩ := h1
    obtain ⟨q, e1, _, f1⟩ := DataW.trod_int Try.underlying63 (by simpa [Value.cells] using hf : DataW.trod enc Try.prog W 0 (fun _ => true) true fuel 63 [.int .u16 s1] = some (d1, p1))
    simp only [List.cons.injEq, and_true, Value.int.injEq, true_and] at e1
    subst e1
    simpa [Lit.wf, IntKind.min, IntKind.max, IntKind.bits, IntKind.signed] using f1
  obtain ⟨r, rfl⟩ : ∃ r : Nat, s1 = r := ⟨s1.toNat, by omega⟩
  clear hA0 hval0
  refine (Mem.ifaceKeeps_any a0 n0 c0 V L r W w0 hT2 (by omega)).mono fun e W' ⟨he, bel⟩ => ?_
  subst he
  exact ⟨_, rfl, _, _, _, [], _, [], hW', trodAll_mk1 (shut_bool Try.underlying4 _), (trodAll_cons_mk (Below.trod laidOut (by kernel_rfl) (of_decide_eq_true (by kernel_rfl)) k0 bel lt0) (trodAll_cons_mk (Below.trod laidOut (by kernel_rfl) (of_decide_eq_true (by kernel_rfl)) k1 bel lt1) trodAll_mk0)), rfl, bel.frame _, fun h => by cases h⟩

/-- ████ THE STATEMENT, ITS SECOND FORM ████ -/
theorem proved : Rows.IfaceKeepsUptoSaid :=
  OpenClaim.holds_of_cond 5 Try.f5 rfl rfl rfl rfl rfl rfl rfl ⟨rfl, rfl, rfl, rfl, rfl⟩ rfl rfl rfl rfl rfl (by kernel_rfl) Try.func5 (by kernel_rfl)
    (of_decide_eq_true (by kernel_rfl)) (by unfold Func.isWrapper; first | (rw [if_pos (by decide +kernel)]; kernel_rfl) | (rw [if_neg (by decide +kernel)]; exact ⟨rfl, rfl⟩))
    (fun os started H enc _ F => lifted os started H enc F)
#print axioms proved
end Go.Proofs.Ytajeiccfgnpbpaa.ifaceKeeps
