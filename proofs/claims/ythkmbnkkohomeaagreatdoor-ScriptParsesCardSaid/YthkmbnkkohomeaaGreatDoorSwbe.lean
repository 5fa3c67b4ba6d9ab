/- Several texts in one: ExA, FmE, TbE. -/
import Derived.Test.YthkmbnkkohomeaaGreatDoorSwal
import Derived.Test.YthkmbnkkohomeaaGreatDoorSwbd
import Derived.Test.YthkmbnkkohomeaaGreatDoorSwas
import Derived.Test.YthkmbnkkohomeaaGreatDoorSwaj
set_option linter.unusedSimpArgs false
set_option linter.unusedVariables false
/- outer.Extend: the facts on names. -/
namespace Go.Proofs.YthkmbnkkohomeaaGreatDoor.Mem
open Go.RowKit Go.Maps Go.Sort

theorem keys_has {D : DataW Value} {w : World} {b n : Nat} {R : Value → Option (DataW Value × List MemPlace)} (hown : w.ownsMap Tryz.prog 9 R b n D) : ∀ x ∈ strKeys D, Maps.has D (.string x) = true ∧ x.length ≤ maxLen := by
  intro x hx
  refine ⟨?_, strKeys_le hown Tryz.underlying9 x hx⟩
  obtain ⟨es, rfl, hko⟩ := hown.keysOf
  obtain ⟨p, hp, rfl⟩ := List.mem_map.1 hx
  obtain ⟨v, hv⟩ := hko p hp
  obtain ⟨y, _, hy, hl⟩ := Maps.keyOf_str Tryz.underlying9 hv
  show es.any (fun q => q.1.sameKey (.string (strOf p.1))) = true
  rw [List.any_eq_true]
  refine ⟨p, hp, ?_⟩
  rw [hy]
  simp [strOf, Lit.sameKey]

theorem low_46 (l : List UInt8) (h : lower l = [46]) : l = [46] := by
  have hl : l.length = 1 := by have := congrArg List.length h; simpa [lower] using this
  match l, hl with
  | [c], _ =>
    have hc : lowb c = 46 := by simpa [lower] using h
    unfold lowb at hc
    split at hc
    · rename_i k
      have := congrArg UInt8.toNat hc
      rw [UInt8.toNat_ofNat'] at this
      simp at this
      omega
    · rw [hc]
theorem low_49 (l : List UInt8) (h : lower l = [49]) : l = [49] := by
  have hl : l.length = 1 := by have := congrArg List.length h; simpa [lower] using this
  match l, hl with
  | [c], _ =>
    have hc : lowb c = 49 := by simpa [lower] using h
    unfold lowb at hc
    split at hc
    · rename_i k
      have := congrArg UInt8.toNat hc
      rw [UInt8.toNat_ofNat'] at this
      simp at this
      omega
    · rw [hc]

/-- What slices.Sorted(maps.Keys(m)) gives of a map of functions that has neither '.' nor '1'. -/
theorem sorted_ok (wb nn : Nat) (w : World) (h : FmP [([46], none), ([49], none)] w wb nn) (hn : nn ≤ 1000) :
    ∃ W, W = w.alloc (.cells #[.map (some wb)] 97) ∧
    Calls Tryz.prog 90 #[.func (.func 161) #[] #[.pointer (some ⟨w.heap.size, 0, none⟩)]] W
      fun e w' => ∃ (v : Value) (ss : List (List UInt8)), e = .returned v ∧ (∀ x ∈ ss, x ≠ [46] ∧ x ≠ [49] ∧ x.length ≤ maxLen) ∧ ss.length ≤ 1000 ∧ w'.ownsRow W.heap.size 9 1 v ss.length (ss.map encStr) ∧ Fr (fun _ => False) W w' := by
  obtain ⟨F, ⟨D, hown, hi, hU, hh, hfn⟩, kd⟩ := h
  have k46 := kd ([46], none) (by simp)
  have k49 := kd ([49], none) (by simp)
  dsimp only at k46 k49
  have hsz := hown.size_le
  have hc := callsIn_wide.1 (Tryz.slices_Sorted_keys_90_91 wb nn D fnElem w hown (by unfold maxLen; omega) (by omega))
  refine ⟨_, rfl, hc.mono ?_⟩
  rintro e w' ⟨v, ss, rfl, hp, hrow, _, hb⟩
  refine ⟨v, ss.mergeSort (fun x y => decide (x ≤ y)), rfl, fun x hx => ?_, ?_, ?_, Fr.of_below hb _⟩
  · have hx1 : x ∈ strKeys D := hp.mem_iff.1 (List.mem_mergeSort.1 hx)
    obtain ⟨h1, h2⟩ := keys_has hown x hx1
    rw [hh] at h1
    refine ⟨fun e => ?_, fun e => ?_, h2⟩
    · rw [e, k46] at h1; cases h1
    · rw [e, k49] at h1; cases h1
  · rw [List.length_mergeSort, hp.length_eq]
    obtain ⟨es, rfl, _⟩ := hown.keysOf
    show (es.map _).length ≤ 1000
    rw [List.length_map]
    exact Nat.le_trans hsz hn
  · rw [List.length_mergeSort]
    exact hrow
end Go.Proofs.YthkmbnkkohomeaaGreatDoor.Mem

/- Maps of functions, whose keys are short texts, none of them '.' or '1'. -/
namespace Go.Proofs.YthkmbnkkohomeaaGreatDoor.Mem
open Go.RowKit Go.Maps

def KeyOk (l : List UInt8) : Prop := l.length ≤ 31 ∧ l ≠ [46] ∧ l ≠ [49]
instance (l : List UInt8) : Decidable (KeyOk l) := by unfold KeyOk; infer_instance
def FmB (w : World) (b n : Nat) : Prop := ∃ F, FMap w 9 b n F ∧ ∀ x, F (.string x) ≠ none → KeyOk x
theorem FmB.made (w : World) : FmB (w.alloc (.map #[] 0)) w.heap.size 0 := ⟨_, FMap.made w _, fun x h => absurd rfl h⟩
theorem FmB.fr {S : Nat → Prop} {w w' : World} {b n : Nat} (h : FmB w b n) (f : Fr S w w') (hs : ¬ S b) : FmB w' b n := by
  obtain ⟨F, h1, h2⟩ := h
  exact ⟨F, h1.fr f hs, h2⟩
theorem FmB.mono {w : World} {b n n' : Nat} (h : FmB w b n) (hn : n ≤ n') : FmB w b n' := by
  obtain ⟨F, h1, h2⟩ := h
  exact ⟨F, h1.mono hn, h2⟩
theorem FmB.lt {w : World} {b n : Nat} (h : FmB w b n) : b < w.heap.size := by
  obtain ⟨F, h1, _⟩ := h
  exact h1.lt
theorem FmB.fmp {w : World} {b n : Nat} (h : FmB w b n) : FmP [([46], none), ([49], none)] w b n := by
  obtain ⟨F, h1, h2⟩ := h
  refine ⟨F, h1, fun x hx => ?_⟩
  simp only [List.mem_cons, List.not_mem_nil, or_false] at hx
  rcases hx with rfl | rfl
  · exact Classical.byContradiction fun hc => (h2 _ hc).2.1 rfl
  · exact Classical.byContradiction fun hc => (h2 _ hc).2.2 rfl

section
variable (w : World) {ops : Array Oper} {rest : List Oper} {o : Oper} {a : Act} {Q : Exit → Act → World → Prop}
theorem wpList_ins_fmb (hg : o.guard = none) (m x v : Operand) (t et : TypeId) (hop : o.op = Op.mapUpdate t m x v ∨ o.op = Op.insert t m x v) (ht : Tryz.prog.underlying t = some (.map 9 et)) (b n : Nat)
    (hm : a.eval m = .map (some b)) (hown : FmB w b n) (hn : n < maxLen) (s : ByteArray) (hx : a.eval x = .string s) (hk : KeyOk s.data.toList) (f : Fn) (p c : Array Value) (hv : a.eval v = .func f p c)
    (hK : ∀ w', FmB w' b (n + 1) → Fr (fun j => j = b) w w' → wpList Tryz.prog ops Q rest (a.put o.dst undef) w') :
    wpList Tryz.prog ops Q (o :: rest) a w := by
  obtain ⟨F, hF, hKd⟩ := hown
  have hs : s.size ≤ maxLen := by
    have h1 := hk.1
    have h2 : s.data.toList.length = s.size := by simp
    rw [h2] at h1
    unfold maxLen
    omega
  refine wpList_store_fmap w hg m x v t 9 et hop strKey ht b n F hm hF hn _ (.string s.data.toList) hx (WideMaps.keyOf_string_mk Tryz.underlying9 hs) trivial f p c hv fun w' h1 h2 => hK w' ⟨_, h1, fun y hy => ?_⟩ (fr_turnedF h2)
  by_cases e : (Lit.string y) = Lit.string s.data.toList
  · injection e with e
    rw [e]
    exact hk
  · rw [if_neg e] at hy
    exact hKd y hy
end
end Go.Proofs.YthkmbnkkohomeaaGreatDoor.Mem

/- Tables of words for classes, whose names are short. -/
namespace Go.Proofs.YthkmbnkkohomeaaGreatDoor.Mem
open Go.RowKit Go.Maps

set_option maxRecDepth 100000 in
set_option maxHeartbeats 4000000 in
theorem outside_b (w : World) :
    Calls Tryz.prog 86 #[] w fun e w' => e = .returned (.map (some w.heap.size)) ∧ FmB w' w.heap.size 40 ∧ Fr (fun _ => False) w w' := by
  have hmm := @run_makeMap Tryz.prog
  have hm := FmB.made w
  have hF : Fr (fun j => j = w.heap.size) w (w.alloc (.map #[] 0)) := (Fr.refl _ _).alloc _
  go_enter Tryz.func86, Tryz.ntmps86
  go_wp2_with (refine wpList_ins_fmb _ rfl _ _ _ 127 129 (.inr rfl) Tryz.underlying127 _ _ rfl hm (by unfold maxLen; omega) _ rfl (by decide) _ _ _ rfl ?_; intro w9 hm9 hf9; replace hm := hm9; replace hF := hF.trans hf9; clear hm9 hf9)
  go_ret
  exact ⟨rfl, hm.mono (by omega), Fr.mono hF (fun k hk e => by omega)⟩

set_option maxRecDepth 100000 in
set_option maxHeartbeats 4000000 in
theorem inside_b (w : World) :
    Calls Tryz.prog 88 #[] w fun e w' => e = .returned (.map (some w.heap.size)) ∧ FmB w' w.heap.size 40 ∧ Fr (fun _ => False) w w' := by
  have hmm := @run_makeMap Tryz.prog
  have hm := FmB.made w
  have hF : Fr (fun j => j = w.heap.size) w (w.alloc (.map #[] 0)) := (Fr.refl _ _).alloc _
  go_enter Tryz.func88, Tryz.ntmps88
  go_wp2_with (refine wpList_ins_fmb _ rfl _ _ _ 127 129 (.inr rfl) Tryz.underlying127 _ _ rfl hm (by unfold maxLen; omega) _ rfl (by decide) _ _ _ rfl ?_; intro w9 hm9 hf9; replace hm := hm9; replace hF := hF.trans hf9; clear hm9 hf9)
  go_ret
  exact ⟨rfl, hm.mono (by omega), Fr.mono hF (fun k hk e => by omega)⟩

end Go.Proofs.YthkmbnkkohomeaaGreatDoor.Mem
