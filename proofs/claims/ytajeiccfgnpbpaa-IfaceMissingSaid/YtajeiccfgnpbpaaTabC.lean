/- Contracts of package table: Get, May. -/
import Derived.Test.YtajeiccfgnpbpaaTabB
namespace Go.Proofs.Ytajeiccfgnpbpaa.Mem
open Go.RowKit

def entv (x : Ent) : Value := .agg #[.int .i64 x.sel, .int .i64 x.xt, .int .i64 x.cls]

theorem three_cells {w : World} {b : Nat} {x y z : Value} {t : TypeId} (h : w.heap[b]? = some (.cells #[x, y, z] t (0, 0))) :
    w.cell? ⟨b, 0, none⟩ = some x ∧ w.cell? ⟨b, 1, none⟩ = some y ∧ w.cell? ⟨b, 2, none⟩ = some z ∧ w.frozen? ⟨b, 0, none⟩ = false ∧ w.frozen? ⟨b, 1, none⟩ = false ∧ w.frozen? ⟨b, 2, none⟩ = false ∧ b < w.heap.size :=
  ⟨by rw [cell_of_row w b _ _ _ _ h]; rfl, by rw [cell_of_row w b _ _ _ _ h]; rfl, by rw [cell_of_row w b _ _ _ _ h]; rfl, frozen_of_row w b _ _ _ h, frozen_of_row w b _ _ _ h, frozen_of_row w b _ _ _ h, lt_of_block h⟩

theorem three_set {w : World} {b : Nat} {x y z : Value} {t : TypeId} (h : w.heap[b]? = some (.cells #[x, y, z] t (0, 0))) (u0 u1 u2 : Value) :
    (((w.setCell ⟨b, 0, none⟩ u0).setCell ⟨b, 1, none⟩ u1).setCell ⟨b, 2, none⟩ u2).heap[b]? = some (.cells #[u0, u1, u2] t (0, 0)) := by
  have h0 := heap_setCell_same w b 0 _ _ u0 h
  have h1 := heap_setCell_same _ b 1 _ _ u1 h0
  have h2 := heap_setCell_same _ b 2 _ _ u2 h1
  rw [h2]
  rfl

/-- A struct in a variable, and two slots, are handed back. -/
theorem results_cell2 {P : Program} {fn : Func} {p u v : Tmp} {ty : TypeId} (h : fn.results = #[.cell p ty, .tmp u, .tmp v]) (tmps : Array Value) (w : World) (g : Nat) (t : TypeId) (cs : Array Value) (fr : Nat × Nat) (d : TypeDesc)
    (hp : tmps.getD p undef = .pointer (some ⟨g, 0, none⟩)) (hg : w.heap[g]? = some (.cells cs t fr))
    (hu : P.underlying ty = some d) (hd : (match d with | .struct _ | .array _ _ => true | _ => false) = true) (hi : (P.info? ty).map (·.size) = some cs.size) :
    (results fn tmps).run P w = .ok (.tuple #[.agg cs, tmps.getD u undef, tmps.getD v undef]) w := by
  have hp' : tmps[p]?.getD undef = .pointer (some ⟨g, 0, none⟩) := by simpa using hp
  simp [results, h, hp', asAddr, run_loadVar_row w g t ty cs fr d hg hu hd hi]

/-- Two blocks of one's own stay behind a call that writes nothing old. -/
theorem two_stay {w w' w2 : World} {x y z a b c d : Value} {t s : TypeId} (hf : Fr (fun _ => False) (w.alloc (.cells #[x, y, z] t)) w') (hg : Fr (fun _ => False) (w'.alloc (.cells #[a, b, c, d] s)).drew w2) :
    (w2.cell? ⟨w.heap.size, 0, none⟩ = some x ∧ w2.cell? ⟨w.heap.size, 1, none⟩ = some y ∧ w2.cell? ⟨w.heap.size, 2, none⟩ = some z ∧ w2.frozen? ⟨w.heap.size, 0, none⟩ = false ∧ w2.frozen? ⟨w.heap.size, 1, none⟩ = false ∧ w2.frozen? ⟨w.heap.size, 2, none⟩ = false ∧ w.heap.size < w2.heap.size) ∧
    w2.cell? ⟨w'.heap.size, 0, none⟩ = some a ∧ w2.cell? ⟨w'.heap.size, 3, none⟩ = some d ∧ w.heap.size < w'.heap.size ∧ Fr (fun _ => False) w w2 ∧ w2.heap[w.heap.size]? = some (.cells #[x, y, z] t (0, 0)) := by
  have h1 := hf.obj (heap_alloc_last w (.cells #[x, y, z] t)) id
  have hl := lt_of_block h1
  have h2 : (w'.alloc (.cells #[a, b, c, d] s)).heap[w.heap.size]? = some (.cells #[x, y, z] t (0, 0)) := by rw [Below.heap_alloc _ _ _ hl]; exact h1
  have h3 := heap_alloc_last w' (.cells #[a, b, c, d] s)
  have g := Fr.undrew hg
  refine ⟨three_cells (g.obj h2 id), ?_, ?_, hl, ?_, g.obj h2 id⟩
  · rw [cell_of_row w2 _ _ _ _ _ (g.obj h3 id)]; rfl
  · rw [cell_of_row w2 _ _ _ _ _ (g.obj h3 id)]; rfl
  · exact (((Fr.alloc (Fr.refl _ _) _).trans hf).alloc _).trans g

set_option maxRecDepth 100000 in
set_option maxHeartbeats 2000000 in
theorem get_any (p g : Nat) (bs : List UInt8) (t sel : Int) (w : World) (h : Mat 108 w p g bs) :
    Calls Try.prog 67 #[.pointer (some ⟨p, 0, none⟩), .int .i64 t, .int .i64 sel] w fun e w' => e = .returned (.tuple #[entv (getv bs t sel).1, .int .i64 (getv bs t sel).2.1, .bool (getv bs t sel).2.2]) ∧ Fr (fun _ => False) w w' := by
  have HS := Lib.hid (fun w h => search_any p g bs t sel w h)
  have H := Lib.hid h
  have hbl := h.2.2.2
  have hpl := @search_place bs t sel
  unfold getv
  obtain ⟨⟨a, fo, em, n⟩, hh⟩ : ∃ x, search bs t sel = x := ⟨_, rfl⟩
  rw [hh] at HS hpl ⊢
  simp only [hitv] at HS hpl ⊢
  clear h hh
  cases fo with
  | false =>
    rw [if_neg (by simp)]
    clear hpl
    unfold entv
    go_enter Try.func67, Try.ntmps67
    go_wp2_with (go_at_call 63; refine (HS.out _ (H.out.fr (Fr.alloc (S := fun _ => False) (Fr.refl _ _) _) id id)).mono ?_; rintro e w' ⟨rfl, hf⟩; have hob := hf.obj (heap_alloc_last _ _) id; obtain ⟨hr0, hr1, hr2, hz0, hz1, hz2, hlt⟩ := three_cells hob; have HOb := Lib.hid hob; have HF := Lib.hid hf; clear hf hob)
    go_region
    all_goals
      go_wp2
      refine bodyPost_ret (results_cell2 rfl _ _ w.heap.size 38 _ (0, 0) _ rfl (by rw [show ∀ w : World, w.drew.heap = w.heap from fun _ => rfl, Below.heap_alloc _ _ _ (by simpa using hlt)]; exact three_set HOb.out _ _ _) Try.underlying38 rfl (by kernel_rfl)) rfl ⟨rfl, ?_⟩
      exact Fr.drew (((((Fr.alloc (S := fun _ => False) (Fr.refl _ _) _).trans HF.out).setCell (.inl (Nat.le_refl _)) _).setCell (.inl (Nat.le_refl _)) _).setCell (.inl (Nat.le_refl _)) _ |>.alloc _)
  | true =>
    by_cases hs : 1 ≤ sel
    · rw [if_pos ⟨rfl, hs⟩]
      have hpb := hpl (.inl rfl)
      have HR := Lib.hid (fun w h => read_any p g bs a w h (by omega))
      obtain ⟨⟨r0, r1, r2⟩, hrr⟩ : ∃ x, read bs a = x := ⟨_, rfl⟩
      rw [hrr] at HR ⊢
      simp only [entv] at HR ⊢
      clear hpl hrr
      go_enter Try.func67, Try.ntmps67
      go_wp2_with (go_at_call 63; refine (HS.out _ (H.out.fr (Fr.alloc (S := fun _ => False) (Fr.refl _ _) _) id id)).mono ?_; rintro e w' ⟨rfl, hf⟩; have hob := hf.obj (heap_alloc_last _ _) id; obtain ⟨hr0, hr1, hr2, hz0, hz1, hz2, hlt⟩ := three_cells hob; have HOb := Lib.hid hob; have HF := Lib.hid hf; clear hf hob)
      go_region_with (go_at_call 106; refine (HR.out _ ((H.out.fr ((Fr.alloc (S := fun _ => False) (Fr.refl _ _) _).trans HF.out) id id).fr (S := fun _ => False) (Fr.drew (Fr.alloc (Fr.refl _ _) _)) id id)).mono ?_; rintro e w2 ⟨rfl, hf2⟩; obtain ⟨⟨q0, q1, q2, y0, y1, y2, hl2⟩, s0, s3, hl3, hF2, hO2⟩ := two_stay HF.out hf2; have HF2 := Lib.hid hF2; have HO2 := Lib.hid hO2; clear hF2 hf2 hO2)
      all_goals
        go_wp2
        refine bodyPost_ret (results_cell2 rfl _ _ w.heap.size 38 _ (0, 0) _ rfl (three_set HO2.out _ _ _) Try.underlying38 rfl (by kernel_rfl)) rfl ⟨rfl, ?_⟩
        exact (((HF2.out.setCell (.inl (Nat.le_refl _)) _).setCell (.inl (Nat.le_refl _)) _).setCell (.inl (Nat.le_refl _)) _)
    · rw [if_neg (fun e => hs e.2)]
      clear hpl
      unfold entv
      go_enter Try.func67, Try.ntmps67
      go_wp2_with (go_at_call 63; refine (HS.out _ (H.out.fr (Fr.alloc (S := fun _ => False) (Fr.refl _ _) _) id id)).mono ?_; rintro e w' ⟨rfl, hf⟩; have hob := hf.obj (heap_alloc_last _ _) id; obtain ⟨hr0, hr1, hr2, hz0, hz1, hz2, hlt⟩ := three_cells hob; have HOb := Lib.hid hob; have HF := Lib.hid hf; clear hf hob)
      go_region
      all_goals
        go_wp2
        refine bodyPost_ret (results_cell2 rfl _ _ w.heap.size 38 _ (0, 0) _ rfl (by rw [show ∀ w : World, w.drew.heap = w.heap from fun _ => rfl, Below.heap_alloc _ _ _ (by simpa using hlt)]; exact three_set HOb.out _ _ _) Try.underlying38 rfl (by kernel_rfl)) rfl ⟨rfl, ?_⟩
        exact Fr.drew (((((Fr.alloc (S := fun _ => False) (Fr.refl _ _) _).trans HF.out).setCell (.inl (Nat.le_refl _)) _).setCell (.inl (Nat.le_refl _)) _).setCell (.inl (Nat.le_refl _)) _ |>.alloc _)

set_option maxRecDepth 100000 in
set_option maxHeartbeats 2000000 in
theorem may_any (p g : Nat) (bs : List UInt8) (t sel : Int) (w : World) (h : Mat 108 w p g bs) :
    Calls Try.prog 69 #[.pointer (some ⟨p, 0, none⟩), .int .i64 t, .int .i64 sel] w fun e w' => e = .returned (.bool (may bs t sel)) ∧ Fr (fun _ => False) w w' := by
  have HS := Lib.hid (fun w h => search_any p g bs t sel w h)
  have H := Lib.hid h
  unfold may
  obtain ⟨⟨a, fo, em, n⟩, hh⟩ : ∃ x, search bs t sel = x := ⟨_, rfl⟩
  rw [hh] at HS ⊢
  simp only [hitv] at HS ⊢
  clear h hh
  by_cases hs : 1 ≤ sel
  · cases fo with
    | false =>
      go_enter Try.func69, Try.ntmps69
      go_wp2_with (go_at_call 63; refine (HS.out _ H.out).mono ?_; rintro e w' ⟨rfl, hf⟩; have HF := Lib.hid hf; clear hf)
      go_ret
      exact ⟨by simp [hs], Fr.alloc HF.out _⟩
    | true =>
      go_enter Try.func69, Try.ntmps69
      go_wp2_with (go_at_call 63; refine (HS.out _ H.out).mono ?_; rintro e w' ⟨rfl, hf⟩; have HF := Lib.hid hf; clear hf)
      go_ret
      exact ⟨by simp [hs], Fr.alloc HF.out _⟩
  · go_enter Try.func69, Try.ntmps69
    go_wp2_with (go_at_call 63; refine (HS.out _ H.out).mono ?_; rintro e w' ⟨rfl, hf⟩; have HF := Lib.hid hf; clear hf)
    go_ret
    exact ⟨by simp; omega, Fr.alloc HF.out _⟩
end Go.Proofs.Ytajeiccfgnpbpaa.Mem
