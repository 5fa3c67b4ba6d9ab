/- Contracts: the document's list of classes, one more behind some. -/
import Derived.Test.YtajeiccfgnpbpaaClsG
set_option linter.unusedSimpArgs false
set_option linter.unusedVariables false

namespace Go.Proofs.Ytajeiccfgnpbpaa.Mem
open Go.RowKit

theorem owns_empty {w : World} {base k : Nat} {e : TypeId} {size : Nat} (h : w.heap[k]? = some (.cells #[] e (0, 0))) (hb : base ≤ k) : w.ownsRow base e size (.slice (some ⟨k, 0, none⟩) 0 0) 0 [] :=
  ⟨by simp, .inr ⟨k, 0, #[], rfl, hb, h, by omega, by decide, by simp, by simp⟩⟩

theorem heap_alloc_two (w : World) (o p : Obj) : ((w.alloc o).alloc p).heap[w.heap.size]? = some o := by
  rw [Below.heap_alloc _ _ _ (by simp)]
  exact heap_alloc_last w o
theorem heap_alloc_next (w : World) (o p : Obj) : ((w.alloc o).alloc p).heap[w.heap.size + 1]? = some p := by
  have := heap_alloc_last (w.alloc o) p
  rwa [show (w.alloc o).heap.size = w.heap.size + 1 by simp] at this

theorem grown_cell4 {w w' : World} {k : Option Nat} {k2 : Nat} {x0 x1 x2 x3 : Value} {t : TypeId} (hg : w.grownBy w' k) (h : w.heap[k2]? = some (.cells #[x0, x1, x2, x3] t (0, 0))) (hne : some k2 ≠ k) : ∀ j u, [x0, x1, x2, x3][j]? = some u → w'.cell? ((⟨k2, 0, none⟩ : Addr).add j) = some u :=
  cell_four_new w' x0 x1 x2 x3 t k2 (by rw [hg.block k2 (lt_of_block h) hne]; exact h)

/-- A class of the document's list, as cells: parent, size, slots, own methods. -/
abbrev Row4 := Int × Int × Int × Value
def rw4 (r : Row4) : List Value := [.int .i64 r.1, .int .i64 r.2.1, .int .i64 r.2.2.1, r.2.2.2]
def rows4 (L : List Row4) : List Value := L.flatMap rw4
theorem rows4_len (L : List Row4) : (rows4 L).length = L.length * 4 := by
  induction L with
  | nil => rfl
  | cons r L ih =>
    show (rw4 r ++ rows4 L).length = _
    rw [List.length_append, ih]
    simp [rw4]
    omega
theorem rows4_add (L : List Row4) (r : Row4) : rows4 (L ++ [r]) = rows4 L ++ rw4 r := by simp [rows4]
theorem rows4_get (L : List Row4) (k j : Nat) (r : Row4) (h : L[k]? = some r) (hj : j < 4) : (rows4 L)[k * 4 + j]? = (rw4 r)[j]? := by
  induction L generalizing k with
  | nil => simp at h
  | cons r0 L ih =>
    show (rw4 r0 ++ rows4 L)[k * 4 + j]? = _
    match k, h with
    | 0, h =>
      obtain rfl : r0 = r := by simpa using h
      rw [List.getElem?_append_left (by simp [rw4]; omega)]
      simp
    | k + 1, h =>
      rw [List.getElem?_append_right (by simp [rw4]; omega)]
      have := ih k (by simpa using h)
      rw [← this]
      congr 1
      simp [rw4]
      omega
theorem rows4_one (L : List Row4) (h : ∀ r ∈ L, r.2.2.2.oneCell' = true) : ∀ u ∈ rows4 L, u.oneCell' = true := by
  intro u hu
  obtain ⟨r, hr, hu⟩ := List.mem_flatMap.1 hu
  simp only [rw4, List.mem_cons, List.not_mem_nil, or_false] at hu
  rcases hu with rfl | rfl | rfl | rfl
  · rfl
  · rfl
  · rfl
  · exact h r hr

set_option maxRecDepth 100000 in
set_option maxHeartbeats 4000000 in
theorem rcnew_row (slots : Int) (base g n c : Nat) (L : List Row4) (w : World) (ho : w.ownsRow base 90 4 (.slice (some ⟨g, 0, none⟩) n c) n (rows4 L)) (h1 : ∀ r ∈ L, r.2.2.2.oneCell' = true) (hn : n ≤ 64) :
    Calls Try.prog 78 #[.slice (some ⟨g, 0, none⟩) n c, .int .i64 (-1), .int .i64 slots] w
      fun e w' => ∃ v', e = .returned v' ∧ w'.ownsRow w.heap.size 90 4 v' (n + 1) (rows4 (L ++ [(-1, 8, slots, .slice none 0 0)])) ∧ Fr (fun _ => False) w w' := by
  have h1 := rows4_one L h1
  have hadd := rows4_add L (-1, 8, slots, .slice none 0 0)
  obtain ⟨xs, hxs⟩ : ∃ xs, rows4 L = xs := ⟨_, rfl⟩
  rw [hxs] at ho h1 hadd
  rw [hadd]
  clear hadd hxs
  obtain ⟨i0, hi, hz0, hz1, hz2⟩ := info_parts infoRCl
  have HI := Lib.hid hi
  have HZ := Lib.hid (And.intro hz0 (And.intro hz1 hz2))
  clear hi hz0 hz1 hz2
  have HC := Lib.hid (fun W (hF : Fr (fun _ => False) w W) j u (hu : xs[j]? = some u) => Fr.cell hF (owns_holds ho ⟨g, 0, none⟩ rfl j u hu) id)
  have HL := Lib.hid (owns_length ho)
  have H1 := Lib.hid h1
  clear ho h1
  go_enter Try.func78, Try.ntmps78
  go_wp2_with fail
  have FX := Lib.hid ((Fr.refl (fun _ => False) w).alloc (.cells #[.int .i64 (-1), .int .i64 8, .int .i64 slots, .slice none 0 0] 90))
  have OX := heap_alloc_last w (.cells #[.int .i64 (-1), .int .i64 8, .int .i64 slots, .slice none 0 0] 90)
  obtain ⟨wX, hwX⟩ : ∃ wX, w.alloc (.cells #[.int .i64 (-1), .int .i64 8, .int .i64 slots, .slice none 0 0] 90) = wX := ⟨_, rfl⟩
  rw [hwX] at FX OX ⊢
  obtain ⟨p0, p1, p2, p3, pl⟩ := four_cells OX
  clear hwX OX
  have HC2 := Lib.hid (fun W (hF : Fr (fun _ => False) wX W) j u (hu : xs[j]? = some u) => HC.out W (FX.out.trans hF) j u hu)
  go_region_held3 (fun W => W.cell? ⟨w.heap.size, 0, none⟩ = some (.int .i64 (-1)) ∧ W.cell? ⟨w.heap.size, 1, none⟩ = some (.int .i64 8) ∧ W.cell? ⟨w.heap.size, 2, none⟩ = some (.int .i64 slots) ∧ W.cell? ⟨w.heap.size, 3, none⟩ = some (.slice none 0 0) ∧ Fr (fun _ => False) wX W)
    ((go_split_ands; refine (fun hF => ⟨Fr.cell hF p0 id, Fr.cell hF p1 id, Fr.cell hF p2 id, Fr.cell hF p3 id, hF⟩ : Fr (fun _ => False) wX _ → _) ?_; repeat' first | exact Fr.refl _ _ | assumption | apply Fr.drew | apply Fr.alloc))
    (first | (go_split_ands; refine step_append_own rfl (.tmp 25) (.tmp 26) 54 rfl wX.heap.size 90 i0 _ 4 48 Try.underlying54 HI.out HZ.out.1 HZ.out.2.1 HZ.out.2.2 rfl (by decide) (.slice (some ⟨wX.heap.size, 0, none⟩) 0 0) 0 [] ?hs ?own ⟨g, 0, none⟩ n c xs ?hx HL.out ?news H1.out (by unfold maxLen; omega) (by omega) ?base ?_; (case hs => exact rfl); (case hx => exact rfl); (case own => (exact (owns_empty (heap_alloc_last _ _) (Nat.le_refl _)))); (case news => (intro j u hu; exact HC2.out _ (by repeat' first | exact Fr.refl _ _ | assumption | apply Fr.drew | apply Fr.alloc) j u hu)); (case base => (show wX.heap.size ≤ _; simp; try omega)); intro v1 w1 hown1 hg1; have hq1 : Fr (fun _ => False) wX w1 := Fr.grown (by repeat' first | exact Fr.refl _ _ | assumption | apply Fr.drew | apply Fr.alloc) hg1 (fun k hk => .inl (by cases hk; simp)); have HV1 := Lib.hid hown1; have HG1 := Lib.hid hg1; clear hown1 hg1) | (go_split_ands; refine step_append_own rfl (.tmp 25) (.tmp 26) 54 rfl wX.heap.size 90 i0 _ 4 48 Try.underlying54 HI.out HZ.out.1 HZ.out.2.1 HZ.out.2.2 rfl (by decide) (.slice (some ⟨wX.heap.size, 0, none⟩) 0 0) 0 [] ?hs ?own ⟨g, 0, none⟩ n c xs ?hx HL.out ?news H1.out (by unfold maxLen; omega) (by omega) ?base ?_; (case hs => exact rfl); (case hx => exact rfl); (case own => (exact (owns_empty (heap_alloc_two _ _ _) (Nat.le_refl _)))); (case news => (intro j u hu; exact HC2.out _ (by repeat' first | exact Fr.refl _ _ | assumption | apply Fr.drew | apply Fr.alloc) j u hu)); (case base => (show wX.heap.size ≤ _; simp; try omega)); intro v1 w1 hown1 hg1; have hq1 : Fr (fun _ => False) wX w1 := Fr.grown (by repeat' first | exact Fr.refl _ _ | assumption | apply Fr.drew | apply Fr.alloc) hg1 (fun k hk => .inl (by cases hk; simp)); have HV1 := Lib.hid hown1; have HG1 := Lib.hid hg1; clear hown1 hg1) | (go_split_ands; refine step_append_own rfl (.tmp 25) (.tmp 26) 54 rfl wX.heap.size 90 i0 _ 4 48 Try.underlying54 HI.out HZ.out.1 HZ.out.2.1 HZ.out.2.2 rfl (by decide) (.slice (some ⟨wX.heap.size + 1, 0, none⟩) 0 0) 0 [] ?hs ?own ⟨g, 0, none⟩ n c xs ?hx HL.out ?news H1.out (by unfold maxLen; omega) (by omega) ?base ?_; (case hs => exact rfl); (case hx => exact rfl); (case own => (exact (owns_empty (heap_alloc_next _ _ _) (by omega)))); (case news => (intro j u hu; exact HC2.out _ (by repeat' first | exact Fr.refl _ _ | assumption | apply Fr.drew | apply Fr.alloc) j u hu)); (case base => (show wX.heap.size ≤ _; simp; try omega)); intro v1 w1 hown1 hg1; have hq1 : Fr (fun _ => False) wX w1 := Fr.grown (by repeat' first | exact Fr.refl _ _ | assumption | apply Fr.drew | apply Fr.alloc) hg1 (fun k hk => .inl (by cases hk; simp)); have HV1 := Lib.hid hown1; have HG1 := Lib.hid hg1; clear hown1 hg1) | (go_split_ands; refine step_append_own rfl (.tmp 27) (.tmp 29) 54 rfl wX.heap.size 90 i0 _ 4 48 Try.underlying54 HI.out HZ.out.1 HZ.out.2.1 HZ.out.2.2 rfl (by decide) v1 n xs ?hs ?own ⟨w1.heap.size, 0, none⟩ 1 1 [.int .i64 (-1), .int .i64 8, .int .i64 slots, .slice none 0 0] ?hx (by rfl) ?news (by simp [Value.oneCell']) (by unfold maxLen; omega) (by omega) ?base ?_; (case hs => exact rfl); (case hx => exact rfl); (case own => (exact ((show w1.ownsRow wX.heap.size 90 4 v1 n xs by simpa using HV1.out).alloc _))); (case news => (exact (cell_four_new _ _ _ _ _ _ _ (heap_alloc_last _ _)))); (case base => (have := hq1.size; show wX.heap.size ≤ _; first | omega | (simp; omega))); intro v2 w2 hown2 hg2; have hq2 : Fr (fun _ => False) wX w2 := Fr.grown (by repeat' first | exact Fr.refl _ _ | assumption | apply Fr.drew | apply Fr.alloc) hg2 (fun k hk => .inl (HV1.out.lt k hk).1); have HV2 := Lib.hid hown2; clear hown2 hg2) | (go_split_ands; refine step_append_own rfl (.tmp 27) (.tmp 29) 54 rfl wX.heap.size 90 i0 _ 4 48 Try.underlying54 HI.out HZ.out.1 HZ.out.2.1 HZ.out.2.2 rfl (by decide) v1 n xs ?hs ?own ⟨wX.heap.size + 1, 0, none⟩ 1 1 [.int .i64 (-1), .int .i64 8, .int .i64 slots, .slice none 0 0] ?hx (by rfl) ?news (by simp [Value.oneCell']) (by unfold maxLen; omega) (by omega) ?base ?_; (case hs => exact rfl); (case hx => exact rfl); (case own => (exact (show w1.ownsRow wX.heap.size 90 4 v1 n xs by simpa using HV1.out))); (case news => (exact (grown_cell4 HG1.out (heap_alloc_next _ _ _) (by simp [Value.ownBlock])))); (case base => (have := hq1.size; show wX.heap.size ≤ _; first | omega | (simp; omega))); intro v2 w2 hown2 hg2; have hq2 : Fr (fun _ => False) wX w2 := Fr.grown (by repeat' first | exact Fr.refl _ _ | assumption | apply Fr.drew | apply Fr.alloc) hg2 (fun k hk => .inl (HV1.out.lt k hk).1); have HV2 := Lib.hid hown2; clear hown2 hg2) | (go_split_ands; refine step_append_own rfl (.tmp 27) (.tmp 29) 54 rfl wX.heap.size 90 i0 _ 4 48 Try.underlying54 HI.out HZ.out.1 HZ.out.2.1 HZ.out.2.2 rfl (by decide) v1 n xs ?hs ?own ⟨wX.heap.size, 0, none⟩ 1 1 [.int .i64 (-1), .int .i64 8, .int .i64 slots, .slice none 0 0] ?hx (by rfl) ?news (by simp [Value.oneCell']) (by unfold maxLen; omega) (by omega) ?base ?_; (case hs => exact rfl); (case hx => exact rfl); (case own => (exact (show w1.ownsRow wX.heap.size 90 4 v1 n xs by simpa using HV1.out))); (case news => (exact (grown_cell4 HG1.out (heap_alloc_two _ _ _) (by simp [Value.ownBlock])))); (case base => (have := hq1.size; show wX.heap.size ≤ _; first | omega | (simp; omega))); intro v2 w2 hown2 hg2; have hq2 : Fr (fun _ => False) wX w2 := Fr.grown (by repeat' first | exact Fr.refl _ _ | assumption | apply Fr.drew | apply Fr.alloc) hg2 (fun k hk => .inl (HV1.out.lt k hk).1); have HV2 := Lib.hid hown2; clear hown2 hg2) | fail)
  all_goals
    go_wp2_with fail
    go_ret
    exact ⟨_, rfl, owns_mono (by simpa [rw4] using HV2.out) FX.out.size, FX.out.trans hq2⟩

set_option maxRecDepth 100000 in
set_option maxHeartbeats 4000000 in
theorem rcnew_of (slots kk sz sl : Int) (ov : Value) (par : Nat) (base g n c : Nat) (L : List Row4) (w : World) (ho : w.ownsRow base 90 4 (.slice (some ⟨g, 0, none⟩) n c) n (rows4 L)) (h1 : ∀ r ∈ L, r.2.2.2.oneCell' = true) (hn : n ≤ 64) (hp : L[par]? = some (kk, sz, sl, ov)) :
    Calls Try.prog 78 #[.slice (some ⟨g, 0, none⟩) n c, .int .i64 par, .int .i64 slots] w
      fun e w' => ∃ v', e = .returned v' ∧ w'.ownsRow w.heap.size 90 4 v' (n + 1) (rows4 (L ++ [((par : Int), sz, sl, .slice none 0 0)])) ∧ Fr (fun _ => False) w w' := by
  have h1 := rows4_one L h1
  have hx1 := rows4_get L par 1 _ hp (by omega)
  have hx2 := rows4_get L par 2 _ hp (by omega)
  have hpl : par < n := by
    have h2 := rows4_len L
    have h3 := owns_length ho
    have := (List.getElem?_eq_some_iff.1 hp).1
    omega
  simp only [rw4, List.getElem?_cons_succ, List.getElem?_cons_zero] at hx1 hx2
  have hadd := rows4_add L ((par : Int), sz, sl, .slice none 0 0)
  obtain ⟨xs, hxs⟩ : ∃ xs, rows4 L = xs := ⟨_, rfl⟩
  rw [hxs] at ho h1 hadd hx1 hx2
  rw [hadd]
  clear hadd hxs
  obtain ⟨i0, hi, hz0, hz1, hz2⟩ := info_parts infoRCl
  have HI := Lib.hid hi
  have HZ := Lib.hid (And.intro hz0 (And.intro hz1 hz2))
  clear hi hz0 hz1 hz2
  have HC := Lib.hid (fun W (hF : Fr (fun _ => False) w W) j u (hu : xs[j]? = some u) => Fr.cell hF (owns_holds ho ⟨g, 0, none⟩ rfl j u hu) id)
  have HL := Lib.hid (owns_length ho)
  have H1 := Lib.hid h1
  clear ho h1
  have FA : Fr (fun _ => False) w (w.alloc (.cells #[.int .i64 par, .int .i64 8, .int .i64 slots, .slice none 0 0] 90)) := (Fr.refl (fun _ => False) w).alloc _
  have FB : Fr (fun _ => False) w (w.alloc (.cells #[.int .i64 par, .int .i64 sz, .int .i64 slots, .slice none 0 0] 90)) := (Fr.refl (fun _ => False) w).alloc _
  have FC : Fr (fun _ => False) w (w.alloc (.cells #[.int .i64 par, .int .i64 sz, .int .i64 sl, .slice none 0 0] 90)) := (Fr.refl (fun _ => False) w).alloc _
  have c1 := HC.out _ FA _ _ hx1
  have c2 := HC.out _ FB _ _ hx2
  rw [addr_add'] at c1 c2
  have OC := heap_alloc_last w (.cells #[.int .i64 par, .int .i64 sz, .int .i64 sl, .slice none 0 0] 90)
  have FX := Lib.hid FC
  have OX := Lib.hid OC
  have hpt : ((par : Int).toNat) = par := by omega
  have hp0 : (0 : Int) ≤ par := by omega
  have hp1 : (par : Int) < n := by omega
  clear FA FB FC OC hx1 hx2
  go_enter Try.func78, Try.ntmps78
  go_wp2_with fail
  obtain ⟨wX, hwX⟩ : ∃ wX, (w.alloc (.cells #[.int .i64 par, .int .i64 sz, .int .i64 sl, .slice none 0 0] 90)) = wX := ⟨_, rfl⟩
  rw [hwX] at FX OX ⊢
  obtain ⟨p0, p1, p2, p3, pl⟩ := four_cells (show wX.heap[w.heap.size]? = some (.cells #[.int .i64 par, .int .i64 sz, .int .i64 sl, .slice none 0 0] 90 (0, 0)) from OX.out)
  clear hwX OX c1 c2
  have HC2 := Lib.hid (fun W (hF : Fr (fun _ => False) wX W) j u (hu : xs[j]? = some u) => HC.out W (FX.out.trans hF) j u hu)
  go_region_held3 (fun W => W.cell? ⟨w.heap.size, 0, none⟩ = some (.int .i64 par) ∧ W.cell? ⟨w.heap.size, 1, none⟩ = some (.int .i64 sz) ∧ W.cell? ⟨w.heap.size, 2, none⟩ = some (.int .i64 sl) ∧ W.cell? ⟨w.heap.size, 3, none⟩ = some (.slice none 0 0) ∧ Fr (fun _ => False) wX W)
    ((go_split_ands; refine (fun hF => ⟨Fr.cell hF p0 id, Fr.cell hF p1 id, Fr.cell hF p2 id, Fr.cell hF p3 id, hF⟩ : Fr (fun _ => False) wX _ → _) ?_; repeat' first | exact Fr.refl _ _ | assumption | apply Fr.drew | apply Fr.alloc))
    (first | (go_split_ands; refine step_append_own rfl (.tmp 25) (.tmp 26) 54 rfl wX.heap.size 90 i0 _ 4 48 Try.underlying54 HI.out HZ.out.1 HZ.out.2.1 HZ.out.2.2 rfl (by decide) (.slice (some ⟨wX.heap.size, 0, none⟩) 0 0) 0 [] ?hs ?own ⟨g, 0, none⟩ n c xs ?hx HL.out ?news H1.out (by unfold maxLen; omega) (by omega) ?base ?_; (case hs => exact rfl); (case hx => exact rfl); (case own => (exact (owns_empty (heap_alloc_last _ _) (Nat.le_refl _)))); (case news => (intro j u hu; exact HC2.out _ (by repeat' first | exact Fr.refl _ _ | assumption | apply Fr.drew | apply Fr.alloc) j u hu)); (case base => (show wX.heap.size ≤ _; simp; try omega)); intro v1 w1 hown1 hg1; have hq1 : Fr (fun _ => False) wX w1 := Fr.grown (by repeat' first | exact Fr.refl _ _ | assumption | apply Fr.drew | apply Fr.alloc) hg1 (fun k hk => .inl (by cases hk; simp)); have HV1 := Lib.hid hown1; have HG1 := Lib.hid hg1; clear hown1 hg1) | (go_split_ands; refine step_append_own rfl (.tmp 25) (.tmp 26) 54 rfl wX.heap.size 90 i0 _ 4 48 Try.underlying54 HI.out HZ.out.1 HZ.out.2.1 HZ.out.2.2 rfl (by decide) (.slice (some ⟨wX.heap.size, 0, none⟩) 0 0) 0 [] ?hs ?own ⟨g, 0, none⟩ n c xs ?hx HL.out ?news H1.out (by unfold maxLen; omega) (by omega) ?base ?_; (case hs => exact rfl); (case hx => exact rfl); (case own => (exact (owns_empty (heap_alloc_two _ _ _) (Nat.le_refl _)))); (case news => (intro j u hu; exact HC2.out _ (by repeat' first | exact Fr.refl _ _ | assumption | apply Fr.drew | apply Fr.alloc) j u hu)); (case base => (show wX.heap.size ≤ _; simp; try omega)); intro v1 w1 hown1 hg1; have hq1 : Fr (fun _ => False) wX w1 := Fr.grown (by repeat' first | exact Fr.refl _ _ | assumption | apply Fr.drew | apply Fr.alloc) hg1 (fun k hk => .inl (by cases hk; simp)); have HV1 := Lib.hid hown1; have HG1 := Lib.hid hg1; clear hown1 hg1) | (go_split_ands; refine step_append_own rfl (.tmp 25) (.tmp 26) 54 rfl wX.heap.size 90 i0 _ 4 48 Try.underlying54 HI.out HZ.out.1 HZ.out.2.1 HZ.out.2.2 rfl (by decide) (.slice (some ⟨wX.heap.size + 1, 0, none⟩) 0 0) 0 [] ?hs ?own ⟨g, 0, none⟩ n c xs ?hx HL.out ?news H1.out (by unfold maxLen; omega) (by omega) ?base ?_; (case hs => exact rfl); (case hx => exact rfl); (case own => (exact (owns_empty (heap_alloc_next _ _ _) (by omega)))); (case news => (intro j u hu; exact HC2.out _ (by repeat' first | exact Fr.refl _ _ | assumption | apply Fr.drew | apply Fr.alloc) j u hu)); (case base => (show wX.heap.size ≤ _; simp; try omega)); intro v1 w1 hown1 hg1; have hq1 : Fr (fun _ => False) wX w1 := Fr.grown (by repeat' first | exact Fr.refl _ _ | assumption | apply Fr.drew | apply Fr.alloc) hg1 (fun k hk => .inl (by cases hk; simp)); have HV1 := Lib.hid hown1; have HG1 := Lib.hid hg1; clear hown1 hg1) | (go_split_ands; refine step_append_own rfl (.tmp 27) (.tmp 29) 54 rfl wX.heap.size 90 i0 _ 4 48 Try.underlying54 HI.out HZ.out.1 HZ.out.2.1 HZ.out.2.2 rfl (by decide) v1 n xs ?hs ?own ⟨w1.heap.size, 0, none⟩ 1 1 [.int .i64 par, .int .i64 sz, .int .i64 sl, .slice none 0 0] ?hx (by rfl) ?news (by simp [Value.oneCell']) (by unfold maxLen; omega) (by omega) ?base ?_; (case hs => exact rfl); (case hx => exact rfl); (case own => (exact ((show w1.ownsRow wX.heap.size 90 4 v1 n xs by simpa using HV1.out).alloc _))); (case news => (exact (cell_four_new _ _ _ _ _ _ _ (heap_alloc_last _ _)))); (case base => (have := hq1.size; show wX.heap.size ≤ _; first | omega | (simp; omega))); intro v2 w2 hown2 hg2; have hq2 : Fr (fun _ => False) wX w2 := Fr.grown (by repeat' first | exact Fr.refl _ _ | assumption | apply Fr.drew | apply Fr.alloc) hg2 (fun k hk => .inl (HV1.out.lt k hk).1); have HV2 := Lib.hid hown2; clear hown2 hg2) | (go_split_ands; refine step_append_own rfl (.tmp 27) (.tmp 29) 54 rfl wX.heap.size 90 i0 _ 4 48 Try.underlying54 HI.out HZ.out.1 HZ.out.2.1 HZ.out.2.2 rfl (by decide) v1 n xs ?hs ?own ⟨wX.heap.size + 1, 0, none⟩ 1 1 [.int .i64 par, .int .i64 sz, .int .i64 sl, .slice none 0 0] ?hx (by rfl) ?news (by simp [Value.oneCell']) (by unfold maxLen; omega) (by omega) ?base ?_; (case hs => exact rfl); (case hx => exact rfl); (case own => (exact (show w1.ownsRow wX.heap.size 90 4 v1 n xs by simpa using HV1.out))); (case news => (exact (grown_cell4 HG1.out (heap_alloc_next _ _ _) (by simp [Value.ownBlock])))); (case base => (have := hq1.size; show wX.heap.size ≤ _; first | omega | (simp; omega))); intro v2 w2 hown2 hg2; have hq2 : Fr (fun _ => False) wX w2 := Fr.grown (by repeat' first | exact Fr.refl _ _ | assumption | apply Fr.drew | apply Fr.alloc) hg2 (fun k hk => .inl (HV1.out.lt k hk).1); have HV2 := Lib.hid hown2; clear hown2 hg2) | (go_split_ands; refine step_append_own rfl (.tmp 27) (.tmp 29) 54 rfl wX.heap.size 90 i0 _ 4 48 Try.underlying54 HI.out HZ.out.1 HZ.out.2.1 HZ.out.2.2 rfl (by decide) v1 n xs ?hs ?own ⟨wX.heap.size, 0, none⟩ 1 1 [.int .i64 par, .int .i64 sz, .int .i64 sl, .slice none 0 0] ?hx (by rfl) ?news (by simp [Value.oneCell']) (by unfold maxLen; omega) (by omega) ?base ?_; (case hs => exact rfl); (case hx => exact rfl); (case own => (exact (show w1.ownsRow wX.heap.size 90 4 v1 n xs by simpa using HV1.out))); (case news => (exact (grown_cell4 HG1.out (heap_alloc_two _ _ _) (by simp [Value.ownBlock])))); (case base => (have := hq1.size; show wX.heap.size ≤ _; first | omega | (simp; omega))); intro v2 w2 hown2 hg2; have hq2 : Fr (fun _ => False) wX w2 := Fr.grown (by repeat' first | exact Fr.refl _ _ | assumption | apply Fr.drew | apply Fr.alloc) hg2 (fun k hk => .inl (HV1.out.lt k hk).1); have HV2 := Lib.hid hown2; clear hown2 hg2) | fail)
  all_goals
    go_wp2_with fail
    go_ret
    exact ⟨_, rfl, owns_mono (by simpa [rw4] using HV2.out) FX.out.size, FX.out.trans hq2⟩
end Go.Proofs.Ytajeiccfgnpbpaa.Mem
