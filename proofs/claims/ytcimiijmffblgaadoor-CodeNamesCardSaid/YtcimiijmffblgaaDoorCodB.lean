/- Contracts of package code and of the document's answer: names and numbers. -/
import Derived.Test.YtcimiijmffblgaaDoorCodA
namespace Go.Proofs.YtcimiijmffblgaaDoor.Cod
open Go.RowKit

set_option maxRecDepth 100000 in
set_option maxHeartbeats 400000 in
theorem text_any (w : World) : Calls Tryd.prog 17 #[] w fun e w' => e = .returned (.string refS) ∧ w' = w := by
  go_enter Tryd.func17, Tryd.ntmps17
  go_wp2
  go_ret
  exact ⟨rfl, rfl⟩

theorem infoStr : (Tryd.prog.info? 9).map (fun i => (i.zero, i.size, i.bytes)) = some (some (.string ByteArray.empty), 1, 16) := by kernel_rfl

theorem strs_one (l : List ByteArray) : ∀ u ∈ l.map Value.string, u.oneCell' = true := by
  intro u hu
  simp at hu
  obtain ⟨a, _, rfl⟩ := hu
  rfl

/-- What holds at the head of a round of the document's Names. -/
def NRel (w : World) (k : Nat) (v : Value) (wr : World) : Prop :=
  wr.ownsRow w.heap.size 9 1 v (cutUp k).1.length ((cutUp k).1.map Value.string) ∧ Below w.heap.size w wr

set_option maxRecDepth 100000 in
set_option maxHeartbeats 400000 in
theorem refnames_any (w : World) :
    Calls Tryd.prog 14 #[] w fun e w' => ∃ v, e = .returned v ∧ w'.ownsRow w.heap.size 9 1 v 86 (nm.map Value.string) ∧ Below w.heap.size w w' := by
  obtain ⟨i0, hi, hz0, hz1, hz2⟩ := info_parts infoStr
  have HI := Lib.hid hi
  have HZ := Lib.hid (And.intro hz0 (And.intro hz1 hz2))
  clear hi hz0 hz1 hz2
  have hsz := ref_size
  have HS := Lib.hid hsz
  have hs1 : refS.size ≤ 1000 := by omega
  clear hsz
  go_enter Tryd.func14, Tryd.ntmps14
  go_wp2_with (go_at_call 17; refine (text_any _).mono ?_; rintro e w' ⟨rfl, rfl⟩)
  go_loopg [1, 3, 4] refS.size (fun g v at' i wr => ∃ k : Nat, k ≤ refS.size ∧ g = refS.size - k ∧ i = .int .i64 k ∧ at' = .int .i64 ((cutUp k).2 : Nat) ∧ NRel w' k v wr)
  case atStart => exact ⟨0, Nat.zero_le _, rfl, rfl, rfl, World.ownsRow_nil _ _ _ _, Below.refl _ _⟩
  case round =>
    obtain ⟨k, hk, rfl, rfl, rfl, hown, hbel⟩ := hrel
    have hat := cutUp_le k
    have hlen := cutUp_len k
    have HO := Lib.hid hown
    clear hown
    obtain ⟨a, ha⟩ : ∃ a, (cutUp k).2 = a := ⟨_, rfl⟩
    obtain ⟨L, hL⟩ : ∃ L, (cutUp k).1 = L := ⟨_, rfl⟩
    rw [ha] at hat
    rw [ha]
    rw [hL] at hlen HO
    have HST := Lib.hid (cutUp_succ k)
    unfold step at HST
    rw [ha, hL] at HST
    have HA := Lib.hid ha
    have HLL := Lib.hid hL
    clear ha hL
    by_cases hlt : k < refS.size
    · have hx : refS.extract a k = ⟨((refS.data.toList.drop a).take (k - a)).toArray⟩ := Lib.extract_eq refS a k
      have HX := Lib.hid hx
      clear hx
      have hg : (refS.data.toList.getD k 0).toNat = refS[k].toNat := by
        have : refS[k] = refS.data.toList[k]'(by rwa [← Lib.size_eq]) := rfl
        rw [this, List.getD_eq_getElem?_getD, List.getElem?_eq_getElem (by rwa [← Lib.size_eq])]
        rfl
      rw [hg] at HST
      clear hg
      cases hc : ((refS[k].toNat : Int) == 32) with
      | false =>
        have h32 : ¬ refS[k].toNat = 32 := by rw [beq_eq_false_iff_ne] at hc; omega
        rw [if_neg h32] at HST
        clear h32
        go_wp2
        go_roundg (refS.size - (k + 1))
        case measure => omega
        case rel => exact ⟨k + 1, by omega, rfl, by go_num, by rw [HST.out, HA.out], by unfold NRel; rw [HST.out, HLL.out]; exact ⟨HO.out, hbel⟩⟩
      | true =>
        have h32 : refS[k].toNat = 32 := by rw [beq_iff_eq] at hc; omega
        rw [if_pos h32] at HST
        clear h32
        go_wp2_with (at_builtin; refine wpList_append_own _ rfl (.tmp 16) (.tmp 21) 29 rfl w'.heap.size 9 i0 _ 1 16 Tryd.underlying29 HI.out HZ.out.1 HZ.out.2.1 HZ.out.2.2 rfl (by decide) _ L.length (L.map Value.string) rfl (HO.out.alloc _) ⟨wr.heap.size, 0, none⟩ 1 1 [.string (refS.extract a k)] rfl rfl (cell_one_new _ _ _) (by simp [Value.oneCell']) (by unfold maxLen; omega) (by omega) (by have := hbel.size; simp; omega) ?_; intro v' w1 hown1 hgrow1 _; have HO1 := Lib.hid hown1; have HB1 : Below w'.heap.size w' w1 := (hbel.alloc hbel.size _).grown hgrow1 (by have := hbel.size; simp; omega) (fun j hj => (HO.out.lt j hj).1); clear hown1 hgrow1)
        go_roundg (refS.size - (k + 1))
        case measure => omega
        case rel =>
          refine ⟨k + 1, by omega, rfl, by go_num, by rw [HST.out]; go_num, ?_⟩
          unfold NRel
          rw [HST.out, ← HX.out]
          refine ⟨?_, HB1⟩
          have := HO1.out
          simpa using this
    · obtain rfl : k = refS.size := by omega
      have hfin := cutUp_all
      rw [← HS.out] at hfin
      have hL : L = nm := by rw [← HLL.out, hfin]
      have HN := Lib.hid hL
      clear hfin hL
      go_wp2
      go_ret
      refine ⟨_, rfl, ?_, hbel⟩
      have h := HO.out
      rw [HN.out, nm_length] at h
      exact h

set_option maxRecDepth 100000 in
set_option maxHeartbeats 400000 in
theorem number_any (s : ByteArray) (w : World) (ht : Tab w) :
    Calls Tryd.prog 5 #[.string s] w fun e w' => e = .returned (.int .i64 (Lib.idxOfS nm s + 1)) ∧ Below w.heap.size w w' := by
  have HN := Lib.hid (names_any w ht)
  have hb := idx_bd s
  have hc : ∀ j, j < nm.length → (w.alloc (.cells (nm.map Value.string).toArray 9)).cell? ⟨w.heap.size, 0 + j, none⟩ = some (.string (nm.getD j ByteArray.empty)) := fun j hj => by
    simp [List.getD, hj]
  have HI := Lib.hid (Tryd.slices_Index_string w.heap.size 0 86 86 nm s (w.alloc (.cells (nm.map Value.string).toArray 9)) (by rw [nm_length]; exact Nat.le_refl _) (by omega) hc)
  rw [List.take_of_length_le (by rw [nm_length]; exact Nat.le_refl _)] at HI
  clear hc
  go_enter Tryd.func5, Tryd.ntmps5
  go_wp2_with (go_at_call 13; refine HN.out.mono ?_; rintro e w' ⟨rfl, rfl⟩)
  refine HI.out.mono ?_
  rintro e w' ⟨rfl, rfl⟩
  go_wp2_with fail
  go_ret
  exact ⟨rfl, (Below.refl _ _).alloc (Nat.le_refl _) _⟩

set_option maxRecDepth 100000 in
set_option maxHeartbeats 400000 in
theorem refnumber_any (s : ByteArray) (w : World) (hs : s.size ≤ maxLen) :
    Calls Tryd.prog 6 #[.string s] w fun e w' => e = .returned (.int .i64 (Lib.idxOfS nm s + 1)) ∧ Below w.heap.size w w' := by
  have HN := Lib.hid (refnames_any w)
  go_enter Tryd.func6, Tryd.ntmps6
  go_wp2_with fail
  refine HN.out.mono ?_
  rintro e w1 ⟨v, rfl, hown, hbel⟩
  obtain ⟨o, c, rfl, _, _, hf3, hf4⟩ := owns_form hown
  obtain ⟨g, rfl⟩ : ∃ g, o = some ⟨g, 0, none⟩ := by
    cases o with
    | none => have := hf3 rfl; omega
    | some b => obtain ⟨e1, e2, _⟩ := hf4 b rfl; exact ⟨b.block, by cases b; simp_all⟩
  clear hf3 hf4
  have HC : Hid (∀ j, j < 86 → w1.cell? ⟨g, j, none⟩ = some (.string (nm.getD j ByteArray.empty))) := fun j hj => by
    rw [hown.cellAt j (by omega)]
    simp [List.getD, nm_length, hj]
  clear hown
  go_wp2_with fail
  go_loop [4] (fun i => ∃ k : Nat, k ≤ 86 ∧ i = .int .i64 k ∧ ∀ j, j < k → nm.getD j ByteArray.empty ≠ s) (fun i => 86 - (intOf i).toNat)
  case atStart => exact ⟨0, Nat.zero_le _, rfl, fun j hj => absurd hj (Nat.not_lt_zero j)⟩
  case round =>
    obtain ⟨k, hk, rfl, hno⟩ := hrel
    have HNO := Lib.hid hno
    clear hno
    by_cases hlt : k < 86
    · have hck := HC.out k hlt
      obtain ⟨x, hx⟩ : ∃ x, nm.getD k ByteArray.empty = x := ⟨_, rfl⟩
      rw [hx] at hck
      have HX := Lib.hid hx
      clear hx
      cases hc : (x.toList == s.toList) with
      | true =>
        have hxs : x = s := (Lib.bytes_beq_iff x s).1 hc
        have HXS := Lib.hid hxs
        clear hxs
        go_wp2
        go_ret
        refine ⟨ret_int ?_, hbel⟩
        have := Lib.idxFromS_hit s nm k 0 (by rw [nm_length]; exact hlt) (HX.out.trans HXS.out) HNO.out
        unfold Lib.idxOfS
        rw [this]
        simp
      | false =>
        have hxs : x ≠ s := (Lib.bytes_beq_false_iff x s).1 hc
        go_wp2
        go_round
        case rel =>
          refine ⟨k + 1, by omega, by go_num, fun j hj => ?_⟩
          by_cases e : j = k
          · subst e; rw [HX.out]; exact hxs
          · exact HNO.out j (by omega)
        case measure => simp [intOf]; omega
    · obtain rfl : k = 86 := by omega
      go_wp2
      go_ret
      refine ⟨ret_int ?_, hbel⟩
      have := Lib.idxFromS_miss s nm 0 (fun j hj => HNO.out j (by rwa [nm_length] at hj))
      unfold Lib.idxOfS
      rw [this]
      rfl
end Go.Proofs.YtcimiijmffblgaaDoor.Cod
