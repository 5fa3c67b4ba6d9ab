/- The statement CodeNames: its example, and all its tests. -/
import Derived.Test.YtcimiijmffblgaaDoorCodB
namespace Go.Proofs.YtcimiijmffblgaaDoor.Cod
open Go.RowKit

set_option maxRecDepth 100000 in
set_option maxHeartbeats 400000 in
theorem name_bad (n : Int) (w : World) (ht : Tab w) (hn : n < 1 ∨ 86 < n) (hn1 : n ≤ 9223372036854775807) :
    Calls Tryd.prog 11 #[.int .i64 n] w fun e w' => e = .returned (.string ByteArray.empty) ∧ Below w.heap.size w w' := by
  have HN := Lib.hid (names_any w ht)
  rcases hn with hn | hn
  · go_enter Tryd.func11, Tryd.ntmps11
    go_wp2_with (go_at_call 13; refine HN.out.mono ?_; rintro e w' ⟨rfl, rfl⟩)
    go_ret
    exact ⟨rfl, (Below.refl _ _).alloc (Nat.le_refl _) _⟩
  · have h1 : ¬ n < 1 := by omega
    go_enter Tryd.func11, Tryd.ntmps11
    go_wp2_with (go_at_call 13; refine HN.out.mono ?_; rintro e w' ⟨rfl, rfl⟩)
    go_ret
    exact ⟨rfl, (Below.refl _ _).alloc (Nat.le_refl _) _⟩

set_option maxRecDepth 100000 in
set_option maxHeartbeats 400000 in
theorem name_good (i : Nat) (w : World) (ht : Tab w) (hi : i < 86) :
    Calls Tryd.prog 11 #[.int .i64 ((i : Int) + 1)] w fun e w' => e = .returned (.string (nm.getD i ByteArray.empty)) ∧ Below w.heap.size w w' := by
  have HN := Lib.hid (names_any w ht)
  have HC : Hid ((w.alloc (.cells (nm.map Value.string).toArray 9)).cell? ⟨w.heap.size, i, none⟩ = some (.string (nm.getD i ByteArray.empty))) := by
    show _ = _
    have := nm_length
    simp [List.getD, this, hi]
  generalize nm.getD i ByteArray.empty = x at *
  have HW : Hid (∃ W, W = w.alloc (.cells (nm.map Value.string).toArray 9)) := ⟨_, rfl⟩
  obtain ⟨W, hW⟩ := HW.out
  have HB : Hid (Below w.heap.size w W) := by rw [hW]; exact (Below.refl _ _).alloc (Nat.le_refl _) _
  rw [← hW] at HC HN
  have hc := HC.out
  clear hW HW
  go_enter Tryd.func11, Tryd.ntmps11
  go_wp2_with (go_at_call 13; refine HN.out.mono ?_; rintro e w' ⟨rfl, rfl⟩)
  go_ret
  exact ⟨rfl, HB.out⟩

theorem tab_below {w w' : World} (h : Below w.heap.size w w') (ht : Tab w) : Tab w' := by
  have hg : Tryd.prog.globalNamed "strings.asciiSpace" = some 0 := by kernel_rfl
  refine var?_below h hg ?_ ht
  rcases Nat.lt_or_ge 0 w.heap.size with hlt | hge
  · exact hlt
  · exfalso
    unfold Tab Lib.TabIs World.var? at ht
    rw [hg] at ht
    simp only [Option.bind_some] at ht
    rw [Array.getElem?_eq_none hge] at ht
    simp at ht

theorem names_owns (w : World) : (w.alloc (.cells (nm.map Value.string).toArray 9)).ownsRow w.heap.size 9 1 (.slice (some ⟨w.heap.size, 0, none⟩) 86 86) 86 (nm.map Value.string) := by
  have h := World.ownsRow_lit (base := w.heap.size) (e := 9) (size := 1) w (nm.map Value.string).toArray 86 (Nat.le_refl _) (by decide) (by simp [nm_length])
  simpa using h

theorem owns_cells {w : World} {B : Nat} {v : Value} (ho : w.ownsRow B 9 1 v 86 (nm.map Value.string)) :
    ∃ g c, v = .slice (some ⟨g, 0, none⟩) 86 c ∧ ∀ j, j < nm.length → w.cell? ⟨g, 0 + j, none⟩ = some (.string (nm.getD j ByteArray.empty)) := by
  rcases ho.2 with ⟨_, h⟩ | ⟨g, cap, cur, rfl, _⟩
  · omega
  · refine ⟨g, cap, rfl, fun j hj => ?_⟩
    have hj' : j < 86 := by rwa [nm_length] at hj
    rw [Nat.zero_add, ho.cellAt j (by omega)]
    simp [List.getD, nm_length, hj']

set_option maxRecDepth 100000 in
set_option maxHeartbeats 400000 in
theorem lives_any (w : World) (ht : Tab w) : Calls Tryd.prog 4 #[] w fun e w' => e = .returned (.bool true) ∧ Below w.heap.size w w' := by
  have hd := number_any ⟨#[100, 117, 112]⟩ w ht
  rw [dup_number] at hd
  have HD := Lib.hid hd
  clear hd
  go_enter Tryd.func4, Tryd.ntmps4
  go_wp2_with fail
  refine HD.out.mono ?_
  rintro e w1 ⟨rfl, b1⟩
  have t1 := tab_below b1 ht
  go_wp2_with fail
  refine (names_any _ t1).mono ?_
  rintro e w2 ⟨rfl, h2⟩
  have o2 := names_owns w1
  rw [← h2] at o2
  have b2 : Below w1.heap.size w1 w2 := by rw [h2]; exact (Below.refl _ _).alloc (Nat.le_refl _) _
  have O2 := Lib.hid o2
  clear o2 h2
  have t2 := tab_below b2 t1
  go_wp2_with fail
  refine (refnames_any _).mono ?_
  rintro e w3 ⟨v3, rfl, o3, b3⟩
  have t3 := tab_below b3 t2
  have c2 := (owns_cells ((Fr.of_below b3 (fun _ => False)).owns O2.out (fun _ _ => id)))
  obtain ⟨g2, cc2, hv2, c2⟩ := c2
  obtain ⟨g3, cc3, rfl, c3⟩ := owns_cells o3
  have HE := Lib.hid (Tryd.slices_Equal_string g2 0 86 cc2 g3 0 86 cc3 nm nm w3 (by rw [nm_length]; exact Nat.le_refl _) (by rw [nm_length]; exact Nat.le_refl _) (by omega) (by omega) c2 c3)
  rw [← hv2] at HE
  rw [show decide (nm.take 86 = nm.take 86) = true from by simp] at HE
  clear c2 c3 hv2 o3
  go_wp2_with fail
  refine HE.out.mono ?_
  rintro e w4 ⟨rfl, d, h4⟩
  have b4 : Below w3.heap.size w3 w4 := by rw [h4]; exact ⟨rfl, rfl, rfl, Nat.le_refl _, fun _ _ => rfl⟩
  have t4 := tab_below b4 t3
  clear h4
  go_wp2_with fail
  refine (names_any _ t4).mono ?_
  rintro e w5 ⟨rfl, h5⟩
  have b5 : Below w4.heap.size w4 w5 := by rw [h5]; exact (Below.refl _ _).alloc (Nat.le_refl _) _
  clear h5
  go_wp2_with fail
  go_ret
  refine ⟨rfl, ?_⟩
  exact b1.trans ((b2.trans ((b3.trans ((b4.trans (b5.mono b4.size)).mono b3.size)).mono b2.size)).mono b1.size)

theorem below_trans {a b c : World} (h : Below a.heap.size a b) (k : Below b.heap.size b c) : Below a.heap.size a c := h.trans (k.mono h.size)

set_option maxRecDepth 100000 in
set_option maxHeartbeats 1000000 in
theorem law (s : ByteArray) (n : Int) (w : World) (hs : s.size ≤ maxLen) (ht : Tab w) (hn1 : n ≤ 9223372036854775807) :
    Calls Tryd.prog 3 #[.string s, .int .i64 n] w fun e w' => e = .returned (.bool true) ∧ Below w.heap.size w w' := by
  go_enter Tryd.func3, Tryd.ntmps3
  go_wp2_with fail
  refine (lives_any _ ht).mono ?_
  rintro e w1 ⟨rfl, b1⟩
  have t1 := tab_below b1 ht
  go_wp2_with fail
  refine (number_any s _ t1).mono ?_
  rintro e w2 ⟨rfl, b2⟩
  have t2 := tab_below b2 t1
  go_wp2_with fail
  refine (refnumber_any s _ hs).mono ?_
  rintro e w3 ⟨rfl, b3⟩
  have t3 := tab_below b3 t2
  go_wp2_with fail
  refine (inline_any s _).mono ?_
  rintro e w4 ⟨rfl, rfl⟩
  go_wp2_with fail
  refine (refinline_any s _).mono ?_
  rintro e w5 ⟨rfl, rfl⟩
  go_wp2_with fail
  refine (inner_any s _).mono ?_
  rintro e w6 ⟨rfl, rfl⟩
  go_wp2_with fail
  refine (refinner_any s _).mono ?_
  rintro e w7 ⟨rfl, rfl⟩
  have HB := Lib.hid (below_trans b1 (below_trans b2 b3))
  by_cases hn : n < 1
  · go_wp2_with fail
    refine (name_bad n _ t3 (.inl hn) hn1).mono ?_
    rintro e w8 ⟨rfl, b8⟩
    go_wp2_with fail
    go_ret
    exact ⟨rfl, below_trans HB.out b8⟩
  · by_cases hn2 : 86 < n
    · go_wp2_with fail
      refine (name_bad n _ t3 (.inr hn2) hn1).mono ?_
      rintro e w8 ⟨rfl, b8⟩
      go_wp2_with fail
      go_ret
      exact ⟨rfl, below_trans HB.out b8⟩
    · obtain ⟨i, hni⟩ : ∃ i : Nat, n = (i : Int) + 1 := ⟨(n - 1).toNat, by omega⟩
      have hi : i < 86 := by omega
      have h1 : 1 ≤ n := by omega
      have h2 : n ≤ 86 := by omega
      have d1 : decide (n < 1) = false := by simp; omega
      have d2 : decide (86 < n) = false := by simp; omega
      have HNI := Lib.hid hni
      have hnum := name_number ⟨i, hi⟩
      simp only at hnum
      have HC := Lib.hid (fun w ht => number_any (nm.getD i ByteArray.empty) w ht)
      rw [hnum] at HC
      have HNG := Lib.hid (name_good i _ t3 hi)
      obtain ⟨x, hx⟩ : ∃ x, nm.getD i ByteArray.empty = x := ⟨_, rfl⟩
      rw [hx] at HC HNG
      rw [← hni] at HC HNG
      clear hnum hx hni hi hn hn2
      go_wp2_with fail
      refine HNG.out.mono ?_
      rintro e w8 ⟨rfl, b8⟩
      have t8 := tab_below b8 t3
      go_wp2_with fail
      refine (HC.out _ t8).mono ?_
      rintro e w9 ⟨rfl, b9⟩
      go_wp2_with fail
      go_ret
      exact ⟨rfl, below_trans HB.out (below_trans b8 b9)⟩

end Go.Proofs.YtcimiijmffblgaaDoor.Cod
