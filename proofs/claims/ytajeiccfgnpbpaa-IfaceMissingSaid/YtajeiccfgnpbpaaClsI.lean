/- Contracts of package class at one class at most: All, heirs, Set. -/
import Derived.Test.YtajeiccfgnpbpaaClsH
import Derived.Maps.Own
import Derived.Maps.OwnOps
import Derived.Maps.OwnSet
import Derived.Maps.Keyed
namespace Go.Proofs.Ytajeiccfgnpbpaa.Mem
open Go.RowKit Go.Maps

set_option maxRecDepth 100000 in
set_option maxHeartbeats 1000000 in
theorem reverse_short (o : Option Addr) (n c : Nat) (hn : n ≤ 1) (w : World) :
    Calls Try.prog 124 #[.slice o n c] w fun e w' => e = .returned (.tuple #[]) ∧ w' = w := by
  have h1 : ¬ (0 : Int) < (n : Int) - 1 := by omega
  go_enter Try.func124, Try.ntmps124
  go_wp2
  refine wp_loop_rounds 1 ?_
  rw [rounds_succ]
  go_wp2
  go_end0
  exact ⟨rfl, rfl⟩

set_option maxRecDepth 100000 in
set_option maxHeartbeats 1000000 in
theorem all_short (p g : Nat) (bs : List UInt8) (root : Int) (w : World) (h : Mat 108 w p g bs) (hs : (visited bs root).length ≤ 1) :
    Calls Try.prog 109 #[.pointer (some ⟨p, 0, none⟩), .int .i64 root] w
      fun e w' => ∃ v, e = .returned v ∧ w'.ownsRow w.heap.size 142 5 v (visited bs root).length (clcells (visited bs root)) ∧ Fr (fun _ => False) w w' := by
  have hmf : ∀ (fn : Fn) (first cap : Array Value) (w : World), (Instr.makeFunc fn first cap).run Try.prog w = .ok (.func fn first cap) w := fun _ _ _ _ => rfl
  have hb := heap_alloc_last w (.cells #[.slice none 0 0] 151)
  have FA := (Fr.refl (fun _ => False) w).alloc (.cells #[.slice none 0 0] 151)
  have hl := h.lt
  have HE := Lib.hid (eachAll_any p g w.heap.size bs root 151 _ (h.fr FA id id) ⟨_, hb, World.ownsRow_nil _ _ _ _⟩ hl.1 hl.2)
  have HFA := Lib.hid FA
  obtain ⟨L, hL⟩ : ∃ L, visited bs root = L := ⟨_, rfl⟩
  rw [hL] at HE hs ⊢
  clear h hb FA hL hl
  go_enter Try.func109, Try.ntmps109
  go_wp2_with fail
  refine HE.out.mono ?_
  rintro e w1 ⟨rfl, ⟨v, hv, ho⟩, hf⟩
  obtain ⟨o, c, rfl, _, _, _, _⟩ := owns_form ho
  have hc1 := cell_of_one hv
  have HO := Lib.hid ho
  have F1 := Lib.hid (HFA.out.after hf (S := fun _ => False) (fun k hk e => by omega))
  clear hv ho hf
  go_wp2_with fail
  refine (reverse_short o L.length c hs _).mono ?_
  rintro e w' ⟨rfl, h0⟩
  obtain rfl := h0.symm
  go_wp2_with fail
  go_ret
  exact ⟨_, rfl, owns_mono HO.out (by omega), F1.out⟩

theorem addr_add'' (g i : Nat) : (⟨g, 0, none⟩ : Addr).add i = ⟨g, i, none⟩ := by unfold Addr.add; split <;> simp_all

/-- How a class reads as an element of a map. -/
def clElem (v : Value) : Option (DataW Unit × List MemPlace) :=
  match v with
  | .agg ⟨[.int .i64 a, .int .i64 b, .int .i64 c, .int .i64 d, .int .i64 e]⟩ => some (.agg [.lit (.int .i64 a), .lit (.int .i64 b), .lit (.int .i64 c), .lit (.int .i64 d), .lit (.int .i64 e)], [])
  | _ => none
theorem clElem_inv {v : Value} {a b c d e : Int} {ps : List MemPlace} (h : clElem v = some (.agg [.lit (.int .i64 a), .lit (.int .i64 b), .lit (.int .i64 c), .lit (.int .i64 d), .lit (.int .i64 e)], ps)) :
    v = .agg #[.int .i64 a, .int .i64 b, .int .i64 c, .int .i64 d, .int .i64 e] := by
  unfold clElem at h
  split at h
  · simp at h
    obtain ⟨⟨h1, h2, h3, h4, h5⟩, _⟩ := h
    subst h1; subst h2; subst h3; subst h4; subst h5
    rfl
  · cases h
theorem lawKey : Keyed Try.prog 2 := int_keyed Try.underlying2
theorem zeroCl (w : World) : (zeroValue 142).run Try.prog w = .ok (.agg #[.int .i64 0, .int .i64 0, .int .i64 0, .int .i64 0, .int .i64 0]) w := by kernel_rfl

set_option maxRecDepth 100000 in
set_option maxHeartbeats 2000000 in
theorem heirs_one (p g : Nat) (bs : List UInt8) (root sel : Int) (c : Cl) (w : World) (h : Mat 108 w p g bs) (hs : visited bs root = [c]) (hca : (Lit.int .i64 c.a).wf = true) (hcp : (Lit.int .i64 c.par).wf = true) :
    Calls Try.prog 85 #[.pointer (some ⟨p, 0, none⟩), .int .i64 root, .int .i64 c.a, .int .i64 sel] w
      fun e w' => ∃ v, e = .returned v ∧ w'.ownsRow w.heap.size 142 5 v 1 (clcells [c]) ∧ Fr (fun _ => False) w w' := by
  have hmm := @run_makeMap Try.prog
  obtain ⟨i0, hi, hz0, hz1, hz2⟩ := info_parts infoCl
  have HI := Lib.hid hi
  have HZ := Lib.hid (And.intro hz0 (And.intro hz1 hz2))
  clear hi hz0 hz1 hz2
  have ha := fun W h => all_short p g bs root W h (by rw [hs]; exact Nat.le_refl _)
  rw [hs] at ha
  obtain ⟨y0, y1, y2, y3, y4⟩ := c
  dsimp only at hca hcp
  have K1 := Lib.hid (keyOf_int_mk (P := Try.prog) Try.underlying2 hcp)
  have K0 := Lib.hid (keyOf_int_mk (P := Try.prog) Try.underlying2 hca)
  clear hca hcp
  simp only [clcells, List.flatMap_cons, List.flatMap_nil, List.append_nil, List.length_singleton] at ha ⊢
  have HA := Lib.hid ha
  have H := Lib.hid h
  clear ha h hs
  go_enter Try.func85, Try.ntmps85
  go_wp2_with fail
  refine (HA.out _ (H.out.fr ((Fr.refl (fun _ => False) w).alloc _) id id)).mono ?_
  rintro e w1 ⟨v, rfl, ho, hf⟩
  obtain ⟨o, cc, rfl, _, _, h3, h4⟩ := owns_form ho
  obtain ⟨gA, rfl, hgA, hgl⟩ : ∃ gA, o = some ⟨gA, 0, none⟩ ∧ w.heap.size ≤ gA ∧ gA < w1.heap.size := by
    cases o with
    | none => have := h3 rfl; omega
    | some bb =>
      obtain ⟨e1, e2, e3, e4⟩ := h4 bb rfl
      obtain ⟨b0, o0, p0⟩ := bb
      dsimp only at *
      subst e1; subst e2
      exact ⟨b0, rfl, by simp at e3; omega, e4⟩
  have c0 := ho.cells rfl 0 _ rfl
  have c1 := ho.cells rfl 1 _ rfl
  have c2 := ho.cells rfl 2 _ rfl
  have c3 := ho.cells rfl 3 _ rfl
  have c4 := ho.cells rfl 4 _ rfl
  rw [addr_add''] at c0 c1 c2 c3 c4
  clear h3 h4
  have hM := hf.obj (heap_alloc_last w (.map #[] 0)) id
  have HOM := Lib.hid (show World.ownsMap w1 Try.prog 2 clElem w.heap.size 0 (.map []) from by
    obtain ⟨es, ck, q1, q2, q3, q4⟩ := World.ownsMap_made w Try.prog 2 clElem
    exact ⟨es, ck, hf.obj q1 id, q2, q3, q4⟩)
  have hgm : w.heap.size < gA := by have := (ho.lt gA rfl).1; simp at this; omega
  have F1 := Lib.hid (((Fr.refl (fun _ => False) w).alloc _).trans hf)
  have hl1 := lt_of_block hM
  clear ho hf
  go_wp2_with fail
  go_loopw [9, 20] (fun lv iv wr => (lv = .slice none 0 0 ∧ iv = .int .i64 0 ∧ wr = w1) ∨ (iv = .int .i64 1 ∧ wr.ownsRow w.heap.size 142 5 lv 1 [.int .i64 y0, .int .i64 y1, .int .i64 y2, .int .i64 y3, .int .i64 y4] ∧ Fr (fun j => j = w.heap.size) w1 wr)) (fun _ iv _ => (1 - intOf iv).toNat)
  case atStart => exact .inl ⟨rfl, rfl, rfl⟩
  case round =>
    rcases hrel with ⟨rfl, rfl, rfl⟩ | ⟨rfl, hO, hF⟩
    · go_wp2_with (first | (at_lookup; refine wpList_lookup_own_ok _ rfl _ _ 187 rfl 2 142 lawKey Try.underlying187 clElem (zeroCl _) (.agg [.lit (.int .i64 0), .lit (.int .i64 0), .lit (.int .i64 0), .lit (.int .i64 0), .lit (.int .i64 0)]) [] rfl w.heap.size 0 (.map []) rfl (HOM.out.alloc _) _ _ rfl K1.out ?_; intro v ps hvv; obtain rfl := clElem_inv hvv) | (at_mapUpdate; refine wpList_mapUpdate_own _ rfl _ _ _ 187 rfl 2 142 lawKey Try.underlying187 clElem w.heap.size 0 (.map []) rfl ((HOM.out.alloc _).alloc _) (by unfold maxLen; omega) _ _ _ rfl rfl K0.out _ [] rfl ?_; intro w3 hown3 hgrow3; have FG := Fr.grown (S := fun j => j = w.heap.size) (((Fr.refl (fun j => j = w.heap.size) _).alloc (.cells #[.int .i64 y0, .int .i64 y1, .int .i64 y2, .int .i64 y3, .int .i64 y4] 142)).alloc (.cells #[.int .i64 0, .int .i64 0, .int .i64 0, .int .i64 0, .int .i64 0] 142)) hgrow3 (fun j hj => .inr (Option.some.inj hj).symm); have HFG := Lib.hid FG; have FG2 := Fr.grown (S := fun j => j = w.heap.size) (Fr.refl _ _) hgrow3 (fun j hj => .inr (Option.some.inj hj).symm); have hsz3 := FG.size; obtain ⟨k0, k1, k2, k3, k4, _, _, _, _, _, _⟩ := five_cells (FG2.obj ((Below.heap_alloc _ _ _ (by simp)).trans (heap_alloc_last wr (.cells #[.int .i64 y0, .int .i64 y1, .int .i64 y2, .int .i64 y3, .int .i64 y4] 142))) (by omega)); have HT := Lib.hid (cell_five_new _ _ _ _ _ _ _ _ (heap_alloc_last w3 (.cells #[.int .i64 y0, .int .i64 y1, .int .i64 y2, .int .i64 y3, .int .i64 y4] 142))); clear hown3 FG FG2) | (at_builtin; refine wpList_append_own _ rfl (.tmp 49) (.tmp 51) 151 rfl w.heap.size 142 i0 _ 5 40 Try.underlying151 HI.out HZ.out.1 HZ.out.2.1 HZ.out.2.2 rfl (by decide) _ 0 [] rfl (World.ownsRow_nil _ _ _ _) ⟨_, 0, none⟩ 1 1 [.int .i64 y0, .int .i64 y1, .int .i64 y2, .int .i64 y3, .int .i64 y4] rfl rfl HT.out (by simp [Value.oneCell']) (by unfold maxLen; omega) (by omega) (by simp; omega) ?_; intro v5 w5 hown5 hgrow5 _; have HV5 := Lib.hid hown5; have HF5 := Lib.hid (Fr.grown (HFG.out.alloc _) hgrow5 (fun j hj => by cases hj)); clear hown5 hgrow5))
      exact ⟨.inr ⟨rfl, HV5.out, HF5.out⟩, by simp [intOf]⟩
    · go_wp2_with fail
      go_ret
      exact ⟨_, rfl, hO, F1.out.after hF (S := fun _ => False) (fun k hk e => by omega)⟩
end Go.Proofs.Ytajeiccfgnpbpaa.Mem
