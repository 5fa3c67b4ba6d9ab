/- ScriptShows, lifted. -/
import Derived.Test.YthkmbnkkohomeaaGreatDoorSwad
import Derived.Test.YthkmbnkkohomeaaGreatDoorSwbl
set_option linter.unusedSimpArgs false
set_option linter.unusedVariables false

namespace Go.Proofs.YthkmbnkkohomeaaGreatDoor.scriptShows
open Go.ChangeShapes Go.WideShapes Go.ChangeAt Go.WideMaps Go.WideElems Go.RowKit
open Go.ChangeMaps (open_string shut_string)
set_option linter.unusedVariables false

set_option maxRecDepth 100000 in
theorem lifted (os : Os) (started : os.Started) (H : Type) (enc : TypeId × Value → H) :
    ReturnsInHanded {} Tryz.checked os 4 .any (fun w args => (Rows.scriptShowsSpec.pre enc Tryz.prog Tryz.f4 [] false w args ∧ laidMetH Tryz.prog laid7 w) ∧ sizedMet enc Tryz.prog Tryz.f4 (OpenSpec.ofChange Rows.scriptShowsSpec) false w args)
      (Rows.scriptShowsSpec.post enc Tryz.prog Tryz.f4 false true false false) := by
  refine wrap_both (C := Tryz.checked) (X := fun w _ => laidMetH Tryz.prog laid7 w) (fun _ _ _ hh h => h.of_heap hh) own started (by kernel_rfl) Tryz.func4
    (ChangeSpec.witness_shaped (enc := enc) (C := Tryz.checked) (os := os) (X := fun w _ => laidMetH Tryz.prog laid7 w) false (World.doorLaid Tryz.prog 400 os) #[.int .i64 0, .slice none 0 0, .string ByteArray.empty] 8 rfl (World.shaped_of_RefB (by kernel_rfl) (by kernel_rfl)) (by kernel_rfl) (by kernel_rfl) (by kernel_rfl) (door_met os _)) ?_
  intro W base args ds gs before hval0 hW hwt hsh hL
  have hval : ∀ (j : Nat) t v, Tryz.f4.params[j]? = some t → args[j]? = some v → Value.okWide Tryz.prog W .any base t v := hval0
  have hW' := hW
  obtain ⟨p, q, hA0, hV, rfl, hfz, hnd⟩ := hW
  have hA : DataW.TrodAll enc Tryz.prog W 0 (fun _ => true) true Tryz.f4.params.toList args.toList ds p := hA0
  rw [Tryz.params4] at hA hval
  obtain ⟨v0, vs0, d0, ds0, p0, q0, hargs, rfl, rfl, h0, r0⟩ := trodAll_cons hA
  obtain ⟨v1, vs1, d1, ds1, p1, q1, rfl, rfl, rfl, h1, r1⟩ := trodAll_cons r0
  obtain ⟨v2, vs2, d2, ds2, p2, q2, rfl, rfl, rfl, h2, r2⟩ := trodAll_cons r1
  obtain ⟨rfl, rfl, rfl⟩ := trodAll_nil r2
  obtain rfl : args = #[v0, v1, v2] := by cases args; simp_all
  obtain ⟨rfl, rfl⟩ := trodVars_none hV
  obtain ⟨a0, rfl, rfl, rfl, w0⟩ := open_int Tryz.underlying2 (hval 0 2 v0 rfl rfl) h0
  obtain ⟨a2, rfl, rfl, rfl, w2⟩ := open_string Tryz.underlying9 (hval 2 9 v2 rfl rfl) h2
  obtain ⟨a1, n1, c1, rfl⟩ := okWide_slice Tryz.underlying36 (hval 1 36 v1 rfl rfl)
  have k1 := h1
  have lt1 : ∀ x ∈ p1, x.block < W.heap.size := by obtain ⟨m, hm⟩ := k1; exact DataW.trod_lt m _ _ _ hm
  have hK := kn_of hL hsh
  clear hA0 hval0
  have wb := _root_.Go.bounds_i64 w0
  obtain ⟨l, hln, hlm, hall, hcell⟩ : ∃ l : List Int, l.length = n1 ∧ l.length ≤ 9223372036854775807 ∧ (∀ n ∈ l, Mem.I64 n) ∧ ∀ i, i < l.length → ∃ A : Addr, a1 = some A ∧ W.cell? (A.add i) = some (.int .i64 (l.getD i 0)) := by
    obtain ⟨fuel, hf⟩ := h1
    rcases open_ints Tryz.underlying36 Tryz.underlying2 cI (by simpa [Value.cells] using hf) with ⟨hc, _⟩ | ⟨A, len, cap, zs, hc, _, hl, hm, hz, _, hx, hw⟩
    · simp at hc
      obtain ⟨rfl, rfl, rfl⟩ := hc
      exact ⟨[], rfl, (by simp), (fun n hn => by cases hn), (fun i hi => by simp at hi)⟩
    · simp at hc
      obtain ⟨rfl, rfl, rfl⟩ := hc
      have hz1 : n1 ≤ zs.length := by rw [hz]; split <;> omega
      have hll : (zs.take n1).length = n1 := by rw [List.length_take]; omega
      unfold maxLen at hm
      refine ⟨zs.take n1, hll, by omega, fun n hn => ?_, fun i hi => ⟨A, rfl, ?_⟩⟩
      · have := _root_.Go.bounds_i64 (hw n (List.mem_of_mem_take hn))
        exact this
      · rw [hx i (by omega)]
        congr 2
        rw [List.getD_eq_getElem?_getD, List.getD_eq_getElem?_getD, List.getElem?_take, if_pos (by omega)]
  obtain rfl := hln
  have w2' : a2.size ≤ 9223372036854775807 := by unfold maxLen at w2; omega
  refine (Mem.shows_law a0 wb l a2 a1 c1 W hK hall hlm w2' hcell).mono fun e W' ⟨he, hf⟩ => ?_
  have bel : Below W.heap.size W W' := hf.below fun _ _ e => e
  subst he
  exact ⟨_, rfl, _, _, _, [], _, [], hW', trodAll_mk1 (shut_bool Tryz.underlying4 _), (trodAll_cons_mk (shut_int Tryz.underlying2 w0) (trodAll_cons_mk (Below.trod laidOut (by kernel_rfl) (of_decide_eq_true (by kernel_rfl)) k1 bel lt1) (trodAll_cons_mk (shut_string Tryz.underlying9 w2) trodAll_mk0))), rfl, bel.frame _, fun h => by cases h⟩

end Go.Proofs.YthkmbnkkohomeaaGreatDoor.scriptShows
