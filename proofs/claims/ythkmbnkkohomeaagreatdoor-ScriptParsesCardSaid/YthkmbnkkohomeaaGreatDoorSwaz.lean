/- Several texts in one: SrP, SrA, SrB. -/
import Derived.Test.YthkmbnkkohomeaaGreatDoorSwaf
import Derived.Test.YthkmbnkkohomeaaGreatDoorSwao
import Derived.BigQuiet
set_option linter.unusedSimpArgs false
set_option linter.unusedVariables false
/- Plain mathematics: the next word of a text. No program. -/
namespace Go.Proofs.YthkmbnkkohomeaaGreatDoor.Mem
open Go.RowKit

def skipB : List UInt8 → Nat
  | [] => 0
  | c :: l => if c.toNat ≤ 32 then skipB l + 1 else 0
def skipW : List UInt8 → Nat
  | [] => 0
  | c :: l => if c.toNat ≤ 32 then 0 else skipW l + 1
theorem skipB_of : ∀ (l : List UInt8) (k : Nat), k ≤ l.length → (∀ j, j < k → (l.getD j 0).toNat ≤ 32) → (k = l.length ∨ 32 < (l.getD k 0).toNat) → skipB l = k
  | [], k, hk, _, _ => by simp at hk; subst hk; rfl
  | c :: l, 0, _, _, h => by
    rcases h with h | h
    · simp at h
    · simp at h
      rw [skipB, if_neg (by omega)]
  | c :: l, k + 1, hk, h1, h2 => by
    have hc : c.toNat ≤ 32 := by simpa using h1 0 (by omega)
    rw [skipB, if_pos hc, skipB_of l k (by simpa using hk) (fun j hj => by simpa using h1 (j + 1) (by omega)) (h2.elim (fun e => .inl (by simpa using e)) (fun e => .inr (by simpa using e)))]
theorem skipW_of : ∀ (l : List UInt8) (k : Nat), k ≤ l.length → (∀ j, j < k → 32 < (l.getD j 0).toNat) → (k = l.length ∨ (l.getD k 0).toNat ≤ 32) → skipW l = k
  | [], k, hk, _, _ => by simp at hk; subst hk; rfl
  | c :: l, 0, _, _, h => by
    rcases h with h | h
    · simp at h
    · simp at h
      rw [skipW, if_pos (by omega)]
  | c :: l, k + 1, hk, h1, h2 => by
    have hc : 32 < c.toNat := by simpa using h1 0 (by omega)
    rw [skipW, if_neg (by omega), skipW_of l k (by simpa using hk) (fun j hj => by simpa using h1 (j + 1) (by omega)) (h2.elim (fun e => .inl (by simpa using e)) (fun e => .inr (by simpa using e)))]

/-- Where the next word begins, where it ends, and how many bytes are then read. -/
def wfr (l : List UInt8) : Nat := skipB l
def wto (l : List UInt8) : Nat := skipB l + skipW (l.drop (skipB l))
def wnx (l : List UInt8) : Nat := if wto l < l.length ∧ (l.getD (wto l) 0).toNat ≠ 10 then wto l + 1 else wto l

theorem wto_of (l : List UInt8) (a k : Nat) (ha : skipB l = a) (hk : a ≤ k) (hl : k ≤ l.length) (h1 : ∀ j, a ≤ j → j < k → 32 < (l.getD j 0).toNat) (h2 : k = l.length ∨ (l.getD k 0).toNat ≤ 32) : wto l = k := by
  unfold wto
  rw [ha]
  have hg : ∀ j, (l.drop a).getD j 0 = l.getD (a + j) 0 := fun j => by simp [List.getD_eq_getElem?_getD]
  rw [skipW_of (l.drop a) (k - a) (by simp; omega) (fun j hj => by rw [hg]; exact h1 _ (by omega) (by omega)) (by
    rw [hg, show a + (k - a) = k by omega]
    rcases h2 with h2 | h2
    · left; simp; omega
    · exact .inr h2)]
  omega
theorem ba_at (r : ByteArray) (k : Nat) (h : k < r.size) : r.data.toList.getD k 0 = r[k] := by
  rw [List.getD_eq_getElem?_getD, List.getElem?_eq_getElem (by simpa using h)]
  simp
  rfl
theorem ba_len (r : ByteArray) : r.data.toList.length = r.size := by simp
end Go.Proofs.YthkmbnkkohomeaaGreatDoor.Mem

/- Contracts of package source: New, Rest, read, Word. -/
namespace Go.Proofs.YthkmbnkkohomeaaGreatDoor.Mem
open Go.RowKit

/-- At b lies a source: a text, and how much of it has been read. -/
def Src (w : World) (b : Nat) (t : ByteArray) (a : Nat) : Prop := w.heap[b]? = some (.cells #[.string t, .int .i64 a] 206 (0, 0)) ∧ a ≤ t.size ∧ t.size ≤ 1048576
theorem Src.cells {w : World} {b : Nat} {t : ByteArray} {a : Nat} (h : Src w b t a) : w.cell? ⟨b, 0, none⟩ = some (.string t) ∧ w.cell? ⟨b, 1, none⟩ = some (.int .i64 a) ∧ w.frozen? ⟨b, 1, none⟩ = false :=
  ⟨by rw [cell_of_row w b _ _ _ _ h.1]; rfl, by rw [cell_of_row w b _ _ _ _ h.1]; rfl, frozen_of_row w b 1 _ _ h.1⟩
theorem Src.fr {S : Nat → Prop} {w w' : World} {b : Nat} {t : ByteArray} {a : Nat} (h : Src w b t a) (f : Fr S w w') (hb : ¬ S b) : Src w' b t a := ⟨f.obj h.1 hb, h.2⟩

set_option maxRecDepth 100000 in
theorem srnew_any (t : ByteArray) (w : World) (ht : t.size ≤ 1048576) :
    Calls Tryz.prog 79 #[.string t] w fun e w' => e = .returned (.pointer (some ⟨w.heap.size, 0, none⟩)) ∧ Src w' w.heap.size t 0 ∧ Fr (fun _ => False) w w' := by
  have hA := heap_alloc_last w (.cells #[.string t, .int .i64 0] 206)
  go_enter Tryz.func79, Tryz.ntmps79
  go_wp2_with fail
  go_ret
  exact ⟨rfl, ⟨hA, Nat.zero_le _, ht⟩, (Fr.refl _ _).alloc _⟩

set_option maxRecDepth 100000 in
theorem srread_any (b : Nat) (t : ByteArray) (a n : Nat) (w : World) (h : Src w b t a) (hn : a + n ≤ t.size) :
    Calls Tryz.prog 164 #[.pointer (some ⟨b, 0, none⟩), .int .i64 n] w fun e w' => e = .returned (.tuple #[]) ∧ Src w' b t (a + n) ∧ Fr (fun j => j = b) w w' := by
  obtain ⟨h0, h1, h2⟩ := h.cells
  have hs := h.2
  have hb : (a : Int) ≤ 1048576 ∧ (n : Int) ≤ 1048576 := by omega
  have H := Lib.hid h
  clear h hs
  go_enter Tryz.func164, Tryz.ntmps164
  go_wp2_with fail
  (try simp only [Exit.inBlock, Exit.then])
  refine bodyPost_end (results_none rfl _ _ _) rfl ⟨rfl, ⟨?_, by omega, H.out.2.2⟩, (Fr.refl _ _).setOne 1 _⟩
  rw [heap_setCell_same w b 1 _ _ _ H.out.1]
  rfl

set_option maxRecDepth 100000 in
theorem srrest_any (b : Nat) (t : ByteArray) (a : Nat) (w : World) (h : Src w b t a) :
    Calls Tryz.prog 163 #[.pointer (some ⟨b, 0, none⟩)] w fun e w' => e = .returned (.string (t.extract a t.size)) ∧ Fr (fun _ => False) w w' := by
  obtain ⟨h0, h1, h2⟩ := h.cells
  have hs := h.2
  have hb : (a : Int) ≤ t.size ∧ (t.size : Int) ≤ 1048576 := by omega
  go_enter Tryz.func163, Tryz.ntmps163
  go_wp2_with fail
  go_quiet (fail)
  go_wp2_with fail
  go_ret
  exact ⟨rfl, (Fr.refl _ _).drewN _⟩
end Go.Proofs.YthkmbnkkohomeaaGreatDoor.Mem

/- The contract of source.Word. -/
namespace Go.Proofs.YthkmbnkkohomeaaGreatDoor.Mem
open Go.RowKit

theorem ext_nil (r : ByteArray) : r.extract r.size r.size = ByteArray.empty := by
  apply ByteArray.ext
  simp [ByteArray.data_extract]

set_option maxRecDepth 100000 in
set_option maxHeartbeats 2000000 in
theorem word_any (b : Nat) (t : ByteArray) (a : Nat) (w : World) (h : Src w b t a) (r : ByteArray) (hr : t.extract a t.size = r) :
    Calls Tryz.prog 96 #[.pointer (some ⟨b, 0, none⟩)] w
      fun e w' => e = .returned (.string (r.extract (wfr r.data.toList) (wto r.data.toList))) ∧ Src w' b t (a + wnx r.data.toList) ∧ Fr (fun j => j = b) w w' := by
  have hrl : r.size = t.size - a := by rw [← hr, ByteArray.size_extract]; omega
  have HRS := Lib.hid (srrest_any b t a w h)
  rw [hr] at HRS
  have HRD := Lib.hid (fun n W (h : Src W b t a) hn => srread_any b t a n W h hn)
  have H := Lib.hid h
  have hs := h.2
  have hb : (r.size : Int) ≤ 1048576 := by omega
  have HB := Lib.hid (And.intro hrl hs)
  clear h hr hrl hs
  go_enter Tryz.func96, Tryz.ntmps96
  go_wp2_with (go_at_call 163; refine HRS.out.mono ?_; rintro e w1 ⟨rfl, hf1⟩)
  have H1 := Lib.hid (H.out.fr hf1 id)
  have F1 := Lib.hid hf1
  clear hf1
  go_loop [4] (fun iv => ∃ k : Nat, k ≤ r.size ∧ iv = .int .i64 k ∧ ∀ j, j < k → (r.data.toList.getD j 0).toNat ≤ 32) (fun iv => r.size - (intOf iv).toNat)
  case atStart => exact ⟨0, Nat.zero_le _, rfl, fun j hj => absurd hj (Nat.not_lt_zero j)⟩
  case round =>
    obtain ⟨k, hk, rfl, hno⟩ := hrel
    have HN := Lib.hid hno
    clear hno
    by_cases hgo : ∃ hlt : k < r.size, r[k].toNat ≤ 32
    · obtain ⟨hlt, hc⟩ := hgo
      have hc' : (r[k].toNat : Int) ≤ 32 := by omega
      go_wp2_with fail
      go_round
      case rel =>
        refine ⟨k + 1, by omega, by go_num, fun j hj => ?_⟩
        by_cases e : j = k
        · subst e
          rw [ba_at r j hlt]
          exact hc
        · exact HN.out j (by omega)
      case measure => simp [intOf]; omega
    · have hwf : wfr r.data.toList = k := skipB_of _ k (by rw [ba_len]; exact hk) HN.out (by
        rw [ba_len]
        by_cases hlt : k < r.size
        · right
          rw [ba_at r k hlt]
          have : ¬ r[k].toNat ≤ 32 := fun e => hgo ⟨hlt, e⟩
          omega
        · left; omega)
      have HWF := Lib.hid hwf
      have HGO := Lib.hid hgo
      clear hwf
      by_cases hlt : k < r.size
      · have hc : ¬ (r[k].toNat : Int) ≤ 32 := fun e => hgo ⟨hlt, by omega⟩
        have hc0 : (32 : Int) < (r[k].toNat : Int) := by omega
        clear hgo
        go_wp2_with fail
        go_loop [5] (fun iv => ∃ k2 : Nat, k ≤ k2 ∧ k2 ≤ r.size ∧ iv = .int .i64 k2 ∧ ∀ j, k ≤ j → j < k2 → 32 < (r.data.toList.getD j 0).toNat) (fun iv => r.size - (intOf iv).toNat)
        case atStart => exact ⟨k, Nat.le_refl _, hk, rfl, fun j h1 h2 => by omega⟩
        case round =>
          obtain ⟨k2, hk1, hk2, rfl, hno⟩ := hrel
          have HN2 := Lib.hid hno
          clear hno
          by_cases hgo2 : ∃ hlt : k2 < r.size, 32 < r[k2].toNat
          · obtain ⟨hlt2, hc⟩ := hgo2
            have hc' : (32 : Int) < (r[k2].toNat : Int) := by omega
            go_wp2_with fail
            go_round
            case rel =>
              refine ⟨k2 + 1, by omega, by omega, by go_num, fun j h1 h2 => ?_⟩
              by_cases e : j = k2
              · subst e
                rw [ba_at r j hlt2]
                exact hc
              · exact HN2.out j h1 (by omega)
            case measure => simp [intOf]; omega
          · have hwt : wto r.data.toList = k2 := wto_of _ k k2 HWF.out hk1 (by rw [ba_len]; exact hk2) HN2.out (by
              rw [ba_len]
              by_cases hlt : k2 < r.size
              · right
                rw [ba_at r k2 hlt]
                have : ¬ 32 < r[k2].toNat := fun e => hgo2 ⟨hlt, e⟩
                omega
              · left; omega)
            have HWT := Lib.hid hwt
            by_cases hlt2 : k2 < r.size
            · have hc2 : ¬ (32 : Int) < (r[k2].toNat : Int) := fun e => hgo2 ⟨hlt2, by omega⟩
              have hc3 : (r[k2].toNat : Int) ≤ 32 := by omega
              by_cases h10 : (r[k2].toNat : Int) = 10
              · have HNX : Hid (wnx r.data.toList = k2) := Lib.hid (by
                  unfold wnx
                  rw [hwt, if_neg (by rw [ba_at r k2 hlt2]; omega)])
                clear hgo2 hwt
                have H2 := Lib.hid (HRD.out (wnx r.data.toList) w1 H1.out (by rw [HNX.out]; have := HB.out; omega))
                rw [HNX.out] at H2
                go_wp2_with (go_at_call 164; refine H2.out.mono ?_; rintro e w2 ⟨rfl, hs2, hf2⟩)
                go_ret
                exact ⟨by rw [HWF.out, HWT.out]; rfl, by rw [HNX.out]; exact hs2, (F1.out.mono fun _ _ e => e.elim).trans hf2⟩
              · have HNX : Hid (wnx r.data.toList = k2 + 1) := Lib.hid (by
                  unfold wnx
                  rw [hwt, if_pos ⟨by rw [ba_len]; exact hlt2, by rw [ba_at r k2 hlt2]; omega⟩])
                clear hgo2 hwt
                have H2 := Lib.hid (HRD.out (wnx r.data.toList) w1 H1.out (by rw [HNX.out]; have := HB.out; omega))
                rw [HNX.out] at H2
                go_wp2_with (go_at_call 164; refine H2.out.mono ?_; rintro e w2 ⟨rfl, hs2, hf2⟩)
                go_ret
                exact ⟨by rw [HWF.out, HWT.out]; rfl, by rw [HNX.out]; exact hs2, (F1.out.mono fun _ _ e => e.elim).trans hf2⟩
            · have HNX : Hid (wnx r.data.toList = k2) := Lib.hid (by
                unfold wnx
                rw [hwt, if_neg (by rw [ba_len]; omega)])
              clear hgo2 hwt
              obtain rfl : k2 = r.size := by omega
              have H2 := Lib.hid (HRD.out (wnx r.data.toList) w1 H1.out (by rw [HNX.out]; have := HB.out; omega))
              rw [HNX.out] at H2
              go_wp2_with (go_at_call 164; refine H2.out.mono ?_; rintro e w2 ⟨rfl, hs2, hf2⟩)
              go_ret
              exact ⟨by rw [HWF.out, HWT.out]; rfl, by rw [HNX.out]; exact hs2, (F1.out.mono fun _ _ e => e.elim).trans hf2⟩
      · obtain rfl : k = r.size := by omega
        clear hgo
        go_wp2_with fail
        go_loop [5] (fun iv => iv = .int .i64 r.size) (fun iv => r.size - (intOf iv).toNat)
        case atStart => rfl
        case round =>
          subst hrel
          have hwt : wto r.data.toList = r.size := wto_of _ r.size r.size HWF.out (Nat.le_refl _) (by rw [ba_len]; exact Nat.le_refl _) (fun j h1 h2 => by omega) (.inl (by rw [ba_len]))
          have HWT := Lib.hid hwt
          have HNX : Hid (wnx r.data.toList = r.size) := Lib.hid (by
            unfold wnx
            rw [hwt, if_neg (by rw [ba_len]; omega)])
          clear hwt
          have H2 := Lib.hid (HRD.out (wnx r.data.toList) w1 H1.out (by rw [HNX.out]; have := HB.out; omega))
          rw [HNX.out] at H2
          go_wp2_with (go_at_call 164; refine H2.out.mono ?_; rintro e w2 ⟨rfl, hs2, hf2⟩)
          go_ret
          exact ⟨by rw [HWF.out, HWT.out, ext_nil]; rfl, by rw [HNX.out]; exact hs2, (F1.out.mono fun _ _ e => e.elim).trans hf2⟩
end Go.Proofs.YthkmbnkkohomeaaGreatDoor.Mem
