/- Several texts in one: MemB, SpA, SpB. -/
import Derived.Test.YthkmbnkkohomeaaGreatDoorSwaf
import Derived.StillTailTactics
import Derived.BigRegion
import Derived.Laws.BytesArg
import Derived.Lib.BufferWrite
import Derived.Deep.OwnRows
import Derived.Deep.WholeRow
import Derived.Deep.RegionWith
set_option linter.unusedSimpArgs false
set_option linter.unusedVariables false
/- Contracts of package mem: what writes. -/
namespace Go.Proofs.YthkmbnkkohomeaaGreatDoor.Mem
open Go.RowKit

set_option maxRecDepth 100000 in
set_option maxHeartbeats 1000000 in
theorem setCell_any (p g : Nat) (bs : List UInt8) (a n : Int) (w : World) (h : Mat 221 w p g bs) :
    Calls Tryz.prog 93 #[.pointer (some ⟨p, 0, none⟩), .int .i64 a, .int .i64 n] w fun e w' => e = .returned (.int .i64 (code bs.length a)) ∧ Mat 221 w' p g (setc bs a n) ∧ Only g w w' := by
  have hcall := fun w h => cellAt_any p g bs a w h
  have H := Lib.hid h
  obtain ⟨c, hc⟩ : ∃ c, code bs.length a = c := ⟨_, rfl⟩
  rw [hc] at hcall ⊢
  have HC := Lib.hid hcall
  clear hcall
  by_cases hz : c = 0
  · subst hz
    have hp : setc bs a n = setv bs a.toNat n := by unfold setc; rw [if_pos hc]
    obtain ⟨ha0, ha1, _⟩ := code_ok hc
    obtain ⟨x, rfl⟩ : ∃ x : Nat, a = x := ⟨a.toNat, by omega⟩
    rw [hp]
    simp only [Int.toNat_natCast]
    have hbl := h.2.2.2
    have HL := Lib.hid (wr_length bs x (m64 n).toNat)
    obtain ⟨nb, hnn⟩ : ∃ nb, bs.length = nb := ⟨_, rfl⟩
    rw [hnn] at hbl ha1 HL
    clear h hc hp
    have HNN := Lib.hid hnn
    clear hnn
    go_enter Tryz.func93, Tryz.ntmps93
    go_wp2_with (go_at_call 162; refine (HC.out _ H.out).mono ?_; rintro e w' ⟨rfl, rfl⟩)
    go_loopw [15] (fun iv wr' => ∃ k : Nat, k ≤ 8 ∧ iv = .int .i64 k ∧ Mat 221 wr' p g (wr bs x (m64 n).toNat k) ∧ Only g w' wr') (fun iv _ => 8 - (intOf iv).toNat)
    case atStart => exact ⟨0, by omega, rfl, H.out, Fr.refl _ _⟩
    case round =>
      obtain ⟨k, hk, rfl, hM, hF⟩ := hrel
      by_cases hlt : k < 8
      · have h0 := hM.hd
        rw [HL.out] at h0
        have hcell := hM.at (x + k) (by rw [HL.out]; omega)
        have hfree := hM.free (x + k)
        have HM := Lib.hid hM
        have HF := Lib.hid hF
        clear hM hF
        go_wp2
        go_region
        go_wp2
        go_roundw
        case rel =>
          refine ⟨k + 1, by omega, by go_num, ?_, ?_⟩
          · have hs := HM.out.set (x + k) (UInt8.ofNat ((m64 n).toNat / 256 ^ k % 256))
            rw [byte_of]
            exact hs
          · exact (HF.out.setOne _ _).drew
        case measure => simp only [intOf]; omega
      · obtain rfl : k = 8 := by omega
        have HM := Lib.hid hM
        have HF := Lib.hid hF
        clear hM hF
        go_wp2
        go_ret
        exact ⟨rfl, HM.out, HF.out⟩
  · have hp : setc bs a n = bs := by unfold setc; rw [if_neg (by rw [hc]; exact hz)]
    rw [hp]
    have hz' : (c != 0) = true := by simp [hz]
    clear h hc hp hz
    go_enter Tryz.func93, Tryz.ntmps93
    go_wp2_with (go_at_call 162; refine (HC.out _ H.out).mono ?_; rintro e w' ⟨rfl, rfl⟩)
    go_ret
    exact ⟨rfl, H.out, Fr.refl _ _⟩
theorem strOf_bytes (l : List UInt8) : strOfNums (l.map fun b => (b.toNat : Int)) = ⟨l.toArray⟩ := by
  unfold strOfNums
  rw [List.map_map]
  simp [Function.comp_def]
theorem getD_bytes (l : List UInt8) (i : Nat) : (l.map fun b => (b.toNat : Int)).getD i 0 = ((l.getD i 0).toNat : Int) := by
  simp only [List.getD_eq_getElem?_getD, List.getElem?_map]
  cases l[i]? <;> simp

set_option maxRecDepth 100000 in
set_option maxHeartbeats 1000000 in
theorem text_any (p g : Nat) (bs : List UInt8) (a k : Int) (w : World) (h : Mat 221 w p g bs) (hk1 : -9223372036854775808 ≤ k) (hk2 : k ≤ 9223372036854775807) :
    Calls Tryz.prog 319 #[.pointer (some ⟨p, 0, none⟩), .int .i64 a, .int .i64 k] w fun e w' => e = .returned (.tuple #[.string ⟨(txt bs a k).1.toArray⟩, .int .i64 (txt bs a k).2]) ∧ w' = w := by
  have hh := fun w h => has_any p g bs a k w h hk1 hk2
  have H := Lib.hid h
  by_cases h1 : has bs.length a k = true
  · have hp : txt bs a k = (text bs a.toNat k.toNat, 0) := by unfold txt; rw [if_pos h1]
    rw [hp]
    rw [h1] at hh
    have HH := Lib.hid hh
    clear hh hp
    simp [has] at h1
    obtain ⟨x, rfl⟩ : ∃ x : Nat, a = x := ⟨a.toNat, by omega⟩
    obtain ⟨n, rfl⟩ : ∃ n : Nat, k = n := ⟨k.toNat, by omega⟩
    simp only [Int.toNat_natCast]
    have h0 := h.hd
    have hn := h.2.2.2
    by_cases hz : n = 0
    · subst hz
      have ht : text bs x 0 = [] := by simp [text]
      rw [ht]
      clear h
      go_enter Tryz.func319, Tryz.ntmps319
      go_wp2_with (go_at_call 297; refine (HH.out _ H.out).mono ?_; rintro e w' ⟨rfl, rfl⟩)
      go_ret2
      exact ⟨rfl, rfl⟩
    · have hl : (text bs x n).length = n := text_length _ _ _ (by omega)
      have hz' : ((n : Int) == 0) = false := by simp [hz]
      have hc := run_convert_bytes_arg (P := Tryz.prog) w 55 5 Tryz.underlying55 Tryz.underlying5 g x n (bs.length - x) ((text bs x n).map fun b => (b.toNat : Int)) (by simp [hl]) (fun i hi => by
        rw [h.at (x + i) (by omega), getD_bytes, text_get bs x n i hi]) 9 Tryz.underlying9
      rw [strOf_bytes] at hc
      obtain ⟨st, hst⟩ : ∃ st : ByteArray, ⟨(text bs x n).toArray⟩ = st := ⟨_, rfl⟩
      rw [hst] at hc ⊢
      obtain ⟨nb, hnn⟩ : ∃ nb, bs.length = nb := ⟨_, rfl⟩
      rw [hnn] at hc h0 hn h1
      have hne : ¬ nb = x := by omega
      clear h hst hl hnn hz
      go_enter Tryz.func319, Tryz.ntmps319
      go_wp2_with (go_at_call 297; refine (HH.out _ H.out).mono ?_; rintro e w' ⟨rfl, rfl⟩)
      go_ret2
      exact ⟨rfl, rfl⟩
  · have hp : txt bs a k = ([], -9) := by unfold txt; rw [if_neg h1]
    rw [hp]
    have h1' : has bs.length a k = false := by simpa using h1
    rw [h1'] at hh
    have HH := Lib.hid hh
    clear hh h1 h1' h hp
    go_enter Tryz.func319, Tryz.ntmps319
    go_wp2_with (go_at_call 297; refine (HH.out _ H.out).mono ?_; rintro e w' ⟨rfl, rfl⟩)
    go_ret2
    exact ⟨rfl, rfl⟩

theorem Mat.row {t : TypeId} {w : World} {p g : Nat} {bs : List UInt8} (h : Mat t w p g bs) (l : List UInt8) (hl : l.length = bs.length) : Mat t (w.setRow g (l.map bv).toArray) p g l :=
  ⟨h.1, by rw [setRow_other _ _ _ _ h.1, hl]; exact h.2.1, setRow_heap _ _ _ _ _ _ h.2.2.1, by rw [hl]; exact h.2.2.2⟩
theorem Fr.setRow {S : Nat → Prop} {a b : World} (h : Fr S a b) {g : Nat} (hg : S g) (cs : Array Value) : Fr S a (b.setRow g cs) :=
  ⟨h.os, h.tape, h.output, by simpa using h.size, fun k hk hs => (setRow_other _ _ _ _ (fun e => hs (by rw [e]; exact hg))).trans (h.block k hk hs)⟩
theorem put_cells (bs : List UInt8) (x : Nat) (s : ByteArray) : ((bs.map bv).toArray.toList.take x ++ Lib.byteCells s.data.toList ++ (bs.map bv).toArray.toList.drop (x + s.size)).toArray = ((put bs x s.data.toList).map bv).toArray := by
  have : s.data.toList.length = s.size := Array.length_toList
  simp [put, Lib.byteCells, bv, List.map_take, List.map_drop, this]

set_option maxRecDepth 100000 in
set_option maxHeartbeats 1000000 in
theorem setText_any (p g : Nat) (bs : List UInt8) (a : Int) (s : ByteArray) (w : World) (h : Mat 221 w p g bs) (hsz : s.size ≤ 1048576) :
    Calls Tryz.prog 377 #[.pointer (some ⟨p, 0, none⟩), .int .i64 a, .string s] w fun e w' => e = .returned (.int .i64 (codet bs a s.data.toList)) ∧ Mat 221 w' p g (sett bs a s.data.toList) ∧ Only g w w' := by
  have hlen : s.data.toList.length = s.size := Array.length_toList
  have hh := fun w h => has_any p g bs a s.size w h (by omega) (by omega)
  have H := Lib.hid h
  by_cases h1 : has bs.length a s.size = true
  · have hp : codet bs a s.data.toList = 0 ∧ sett bs a s.data.toList = put bs a.toNat s.data.toList := by unfold codet sett; rw [hlen, if_pos h1, if_pos h1]; exact ⟨rfl, rfl⟩
    rw [hp.1, hp.2]
    rw [h1] at hh
    have HH := Lib.hid hh
    clear hh hp
    simp [has] at h1
    obtain ⟨x, rfl⟩ : ∃ x : Nat, a = x := ⟨a.toNat, by omega⟩
    simp only [Int.toNat_natCast]
    have h0 := h.hd
    have hn := h.2.2.2
    by_cases hz : s.size = 0
    · have hs : s = ByteArray.mk #[] := by
        have : s.data.toList = [] := List.length_eq_zero_iff.1 (by rw [hlen]; exact hz)
        cases s; simp_all
      subst hs
      have ht : put bs x [] = bs := by simp [put]
      rw [show (ByteArray.mk #[]).data.toList = [] from rfl, ht]
      clear h
      go_enter Tryz.func377, Tryz.ntmps377
      go_wp2_with (go_at_call 297; refine (HH.out _ H.out).mono ?_; rintro e w' ⟨rfl, rfl⟩)
      go_ret
      exact ⟨rfl, H.out, Fr.refl _ _⟩
    · have hz' : (!s.toList.isEmpty) = true := by
        rw [ByteArray.toList_eq, Bool.not_eq_true', List.isEmpty_eq_false_iff]
        intro e
        exact hz (by rw [← hlen, e]; rfl)
      have hM := h.row (put bs x s.data.toList) (put_length _ _ _ (by omega))
      have hcp := Lib.run_copy_row_string (P := Tryz.prog) w 55 9 3 5 g x (bs.length - x) (bs.length - x) s _ _ Tryz.underlying55 (by kernel_rfl) h.2.2.1 (by omega) (by simp; omega)
      rw [put_cells] at hcp
      have hne : ¬ bs.length = x := by omega
      have HM := Lib.hid hM
      obtain ⟨L, hL⟩ : ∃ L, ((put bs x s.data.toList).map bv).toArray = L := ⟨_, rfl⟩
      rw [hL] at hcp HM
      obtain ⟨nb, hnn⟩ : ∃ nb, bs.length = nb := ⟨_, rfl⟩
      rw [hnn] at hcp h0 hn h1 hne
      clear h hnn hz hlen hL hM
      go_enter Tryz.func377, Tryz.ntmps377
      go_wp2_with (go_at_call 297; refine (HH.out _ H.out).mono ?_; rintro e w' ⟨rfl, rfl⟩)
      go_ret
      exact ⟨rfl, HM.out, Fr.setRow (S := fun j => j = g) (Fr.refl _ _) rfl _⟩
  · have hp : codet bs a s.data.toList = -9 ∧ sett bs a s.data.toList = bs := by unfold codet sett; rw [hlen, if_neg h1, if_neg h1]; exact ⟨rfl, rfl⟩
    rw [hp.1, hp.2]
    have h1' : has bs.length a s.size = false := by simpa using h1
    rw [h1'] at hh
    have HH := Lib.hid hh
    clear hh h1 h1' h hp hlen
    go_enter Tryz.func377, Tryz.ntmps377
    go_wp2_with (go_at_call 297; refine (HH.out _ H.out).mono ?_; rintro e w' ⟨rfl, rfl⟩)
    go_ret
    exact ⟨rfl, H.out, Fr.refl _ _⟩

set_option maxRecDepth 100000 in
set_option maxHeartbeats 1000000 in
theorem new_ok (n : Nat) (w : World) (hn : n ≤ 1048576) (h8 : n % 8 = 0) :
    Calls Tryz.prog 109 #[.int .i64 n] w fun e w' => e = .returned (.tuple #[.pointer (some ⟨w.heap.size + 1, 0, none⟩), .int .i64 0]) ∧ Mat 221 w' (w.heap.size + 1) w.heap.size (List.replicate n 0) ∧ Fr (fun _ => False) w w' := by
  have hmk := run_make_row' (P := Tryz.prog) 55 5 (.int .u8 0) 1 Tryz.underlying55 (by kernel_rfl) rfl .i64 .i64 n (by omega) (by omega)
  have h8' : ((n : Int) % 8 != 0) = false := by
    have : (n : Int) % 8 = 0 := by omega
    simp [this]
  have hrow : madeCells #[.int .u8 0] n = ((List.replicate n 0).map bv).toArray := by
    apply Array.ext'
    rw [toList_madeCells_one]
    simp [List.map_replicate, bv]
  rw [hrow] at hmk
  obtain ⟨L, hL⟩ : ∃ L, ((List.replicate n 0).map bv).toArray = L := ⟨_, rfl⟩
  rw [hL] at hmk
  have hw1 := heap_alloc_last w (.cells L 5)
  clear h8 hrow
  go_enter Tryz.func109, Tryz.ntmps109
  go_wp2
  go_ret2
  have hsz : (w.alloc (.cells L 5)).heap.size = w.heap.size + 1 := by simp
  refine ⟨rfl, ⟨by omega, ?_, ?_, by rw [List.length_replicate]; exact hn⟩, ((Fr.refl _ _).alloc _).alloc _⟩
  · have := heap_alloc_last (w.alloc (.cells L 5)) (.cells #[.slice (some ⟨w.heap.size, 0, none⟩) n n] 221)
    rw [hsz] at this
    rw [List.length_replicate]
    exact this
  · rw [Below.heap_alloc _ _ _ (by omega), hw1, hL]

end Go.Proofs.YthkmbnkkohomeaaGreatDoor.Mem

/- Contracts of package space: a part of a memory that is allocated from its start on. -/
namespace Go.Proofs.YthkmbnkkohomeaaGreatDoor.Mem
open Go.RowKit

/-- At b lies a space of the memory at p (bytes at g), from a to z, allocated up to x. -/
def Sat (w : World) (b p g a z x : Nat) (bs : List UInt8) : Prop :=
  b ≠ p ∧ b ≠ g ∧ w.heap[b]? = some (.cells #[.pointer (some ⟨p, 0, none⟩), .int .i64 a, .int .i64 z, .int .i64 x] 165 (0, 0)) ∧ Mat 221 w p g bs ∧ a ≤ x ∧ x ≤ z ∧ z ≤ bs.length

theorem Sat.cells {w : World} {b p g a z x : Nat} {bs : List UInt8} (h : Sat w b p g a z x bs) :
    w.cell? ⟨b, 0, none⟩ = some (.pointer (some ⟨p, 0, none⟩)) ∧ w.cell? ⟨b, 1, none⟩ = some (.int .i64 a) ∧ w.cell? ⟨b, 2, none⟩ = some (.int .i64 z) ∧ w.cell? ⟨b, 3, none⟩ = some (.int .i64 x) := by
  refine ⟨?_, ?_, ?_, ?_⟩ <;> rw [cell_of_row w b _ _ _ _ h.2.2.1] <;> rfl
theorem Sat.free {w : World} {b p g a z x : Nat} {bs : List UInt8} (h : Sat w b p g a z x bs) (i : Nat) : w.frozen? ⟨b, i, none⟩ = false := frozen_of_row w b i _ _ h.2.2.1
theorem Sat.mat {w : World} {b p g a z x : Nat} {bs : List UInt8} (h : Sat w b p g a z x bs) : Mat 221 w p g bs := h.2.2.2.1
theorem Sat.bd {w : World} {b p g a z x : Nat} {bs : List UInt8} (h : Sat w b p g a z x bs) : a ≤ x ∧ x ≤ z ∧ z ≤ bs.length ∧ bs.length ≤ 1048576 := ⟨h.2.2.2.2.1, h.2.2.2.2.2.1, h.2.2.2.2.2.2, h.mat.2.2.2⟩
theorem Sat.lt {w : World} {b p g a z x : Nat} {bs : List UInt8} (h : Sat w b p g a z x bs) : b < w.heap.size ∧ p < w.heap.size ∧ g < w.heap.size := ⟨lt_of_block h.2.2.1, h.mat.lt⟩
theorem Sat.fr {S : Nat → Prop} {w w' : World} {b p g a z x : Nat} {bs : List UInt8} (h : Sat w b p g a z x bs) (f : Fr S w w') (hb : ¬ S b) (hp : ¬ S p) (hg : ¬ S g) : Sat w' b p g a z x bs :=
  ⟨h.1, h.2.1, f.obj h.2.2.1 hb, h.mat.fr f hp hg, h.2.2.2.2⟩
/-- The space behind a write into its memory. -/
theorem Sat.wrote {w w' : World} {b p g a z x : Nat} {bs cs : List UInt8} (h : Sat w b p g a z x bs) (f : Only g w w') (hm : Mat 221 w' p g cs) (hl : cs.length = bs.length) : Sat w' b p g a z x cs :=
  ⟨h.1, h.2.1, f.obj h.2.2.1 h.2.1, hm, h.2.2.2.2.1, h.2.2.2.2.2.1, by rw [hl]; exact h.2.2.2.2.2.2⟩
/-- The space behind a step of what is allocated. -/
theorem Sat.move {w : World} {b p g a z x : Nat} {bs : List UInt8} (h : Sat w b p g a z x bs) (y : Nat) (ha : a ≤ y) (hz : y ≤ z) : Sat (w.setCell ⟨b, 3, none⟩ (.int .i64 y)) b p g a z y bs := by
  refine ⟨h.1, h.2.1, ?_, ⟨h.mat.1, ?_, ?_, h.mat.2.2.2⟩, ha, hz, h.2.2.2.2.2.2⟩
  · rw [heap_setCell_same w b 3 _ _ _ h.2.2.1]
    rfl
  · rw [heap_setCell_other w ⟨b, 3, none⟩ p _ (Ne.symm h.1)]
    exact h.mat.2.1
  · rw [heap_setCell_other w ⟨b, 3, none⟩ g _ (Ne.symm h.2.1)]
    exact h.mat.2.2.1

set_option maxHeartbeats 400000 in
theorem here_any (b p g a z x : Nat) (bs : List UInt8) (w : World) (h : Sat w b p g a z x bs) :
    Calls Tryz.prog 61 #[.pointer (some ⟨b, 0, none⟩)] w fun e w' => e = .returned (.int .i64 x) ∧ w' = w := by
  obtain ⟨h0, h1, h2, h3⟩ := h.cells
  clear h
  go_enter Tryz.func61, Tryz.ntmps61
  go_wp2
  go_ret
  exact ⟨rfl, rfl⟩

set_option maxRecDepth 100000 in
set_option maxHeartbeats 1000000 in
theorem snew_ok (p g a z : Nat) (bs : List UInt8) (w : World) (h : Mat 221 w p g bs) (ha : a ≤ z) (hz : z ≤ bs.length) :
    Calls Tryz.prog 122 #[.pointer (some ⟨p, 0, none⟩), .int .i64 a, .int .i64 z] w fun e w' => e = .returned (.tuple #[.pointer (some ⟨w.heap.size, 0, none⟩), .int .i64 0]) ∧ Sat w' w.heap.size p g a z a bs ∧ Fr (fun _ => False) w w' := by
  have HS := Lib.hid (fun w h => size_any p g bs w h)
  have H := Lib.hid h
  have hl := h.lt
  have hn := h.2.2.2
  have HN := Lib.hid (show a ≤ a ∧ a ≤ z ∧ z ≤ bs.length from ⟨Nat.le_refl _, ha, hz⟩)
  obtain ⟨nb, hnn⟩ : ∃ nb, bs.length = nb := ⟨_, rfl⟩
  rw [hnn] at hz HS hn
  clear h hnn
  have hA := heap_alloc_last w (.cells #[.pointer (some ⟨p, 0, none⟩), .int .i64 a, .int .i64 z, .int .i64 a] 165)
  have hL := Lib.hid hl
  clear hl
  go_enter Tryz.func122, Tryz.ntmps122
  go_wp2_with (go_at_call 120; refine (HS.out _ H.out).mono ?_; rintro e w' ⟨rfl, rfl⟩)
  go_ret2
  have hl := hL.out
  exact ⟨rfl, ⟨by omega, by omega, hA, H.out.fr (Fr.alloc (S := fun _ => False) (Fr.refl _ _) _) id id, HN.out⟩, Fr.alloc (Fr.refl _ _) _⟩

set_option maxRecDepth 100000 in
set_option maxHeartbeats 1000000 in
theorem back_ok (b p g a z x : Nat) (y : Nat) (bs : List UInt8) (w : World) (h : Sat w b p g a z x bs) (ha : a ≤ y) (hx : y ≤ x) :
    Calls Tryz.prog 172 #[.pointer (some ⟨b, 0, none⟩), .int .i64 y] w fun e w' => e = .returned (.int .i64 0) ∧ Sat w' b p g a z y bs ∧ Fr (fun j => j = b) w w' := by
  obtain ⟨h0, h1, h2, h3⟩ := h.cells
  have hf := h.free 3
  have hb := h.bd
  have HM := Lib.hid (h.move y ha (by omega))
  have hbd : y ≤ 1048576 ∧ x ≤ 1048576 ∧ a ≤ 1048576 := by omega
  clear h
  go_enter Tryz.func172, Tryz.ntmps172
  go_wp2
  go_ret
  exact ⟨rfl, HM.out, (Fr.refl _ _).setOne _ _⟩
end Go.Proofs.YthkmbnkkohomeaaGreatDoor.Mem

/- Contracts of package space: a cell, a byte. -/
namespace Go.Proofs.YthkmbnkkohomeaaGreatDoor.Mem
open Go.RowKit

theorem Fr.undrew {S : Nat → Prop} {w w' : World} (h : Fr S w.drew w') : Fr S w w' := ⟨h.os, h.tape, h.output, h.size, h.block⟩
theorem Mat.drew {t : TypeId} {w : World} {p g : Nat} {bs : List UInt8} (h : Mat t w p g bs) : Mat t w.drew p g bs := h
theorem Sat.drew {w : World} {b p g a z x : Nat} {bs : List UInt8} (h : Sat w b p g a z x bs) : Sat w.drew b p g a z x bs := h

set_option maxRecDepth 100000 in
set_option maxHeartbeats 1000000 in
theorem comma1_any (b p g a z x c1 c2 : Nat) (bs : List UInt8) (y n : Int) (w : World) (h : Sat w b p g a z x bs) (h1 : w.cell? ⟨c1, 0, none⟩ = some (.pointer (some ⟨b, 0, none⟩))) (h2 : w.cell? ⟨c2, 0, none⟩ = some (.int .i64 n)) :
    Calls Tryz.prog 241 #[.int .i64 y, .pointer (some ⟨c1, 0, none⟩), .pointer (some ⟨c2, 0, none⟩)] w fun e w' => e = .returned (.int .i64 (code bs.length y)) ∧ Mat 221 w' p g (setc bs y n) ∧ Only g w w' := by
  have h0 := h.cells.1
  have HC := Lib.hid (fun w h => setCell_any p g bs y n w h)
  have HM := Lib.hid h.mat
  clear h
  go_enter Tryz.func241, Tryz.ntmps241
  go_wp2
  go_region_with (go_at_call 93; refine (HC.out _ HM.out.drew).mono ?_; rintro e w' ⟨rfl, hm, hf⟩)
  all_goals
    go_wp2
    go_ret
    exact ⟨rfl, hm, Fr.undrew hf⟩

/-- Only the space's own cells, and the bytes, may have been written. -/
abbrev Both (b g : Nat) := Fr fun j => j = b ∨ j = g

theorem Fr.drewN' {S : Nat → Prop} {w w' : World} (n : Nat) (h : Fr S (w.drewN n) w') : Fr S w w' := ⟨h.os, h.tape, h.output, h.size, h.block⟩

set_option maxRecDepth 100000 in
set_option maxHeartbeats 1000000 in
theorem put_full (b p g a z x : Nat) (bs : List UInt8) (f : Value) (w : World) (h : Sat w b p g a z x bs) (hz : ¬ x + 8 ≤ z) :
    Calls Tryz.prog 240 #[.pointer (some ⟨b, 0, none⟩), .int .i64 8, f] w fun e w' => e = .returned (.int .i64 (-8)) ∧ Sat w' b p g a z x bs ∧ Fr (fun _ => False) w w' := by
  obtain ⟨h0, h1, h2, h3⟩ := h.cells
  have hb := h.bd
  have HS := Lib.hid (fun n => (show Sat (w.drewN n) b p g a z x bs from h))
  have hzz : ¬ (8 : Int) ≤ (z : Int) - (x : Int) := by omega
  have hbd : x ≤ 1048576 ∧ z ≤ 1048576 := by omega
  have hxz : x ≤ z := hb.2.1
  clear h hb hz
  go_enter Tryz.func240, Tryz.ntmps240
  go_wp2
  go_quiet (fail)
  go_wp2
  go_ret
  exact ⟨rfl, HS.out _, Fr.drewN (Fr.refl _ _) _⟩

set_option maxRecDepth 100000 in
set_option maxHeartbeats 1000000 in
theorem put_comma (b p g a z x c1 c2 : Nat) (bs : List UInt8) (n : Int) (w : World) (h : Sat w b p g a z x bs) (h8 : x % 8 = 0) (hz : x + 8 ≤ z)
    (k1 : w.cell? ⟨c1, 0, none⟩ = some (.pointer (some ⟨b, 0, none⟩))) (k2 : w.cell? ⟨c2, 0, none⟩ = some (.int .i64 n)) :
    Calls Tryz.prog 240 #[.pointer (some ⟨b, 0, none⟩), .int .i64 8, .func (.func 241) #[] #[.pointer (some ⟨c1, 0, none⟩), .pointer (some ⟨c2, 0, none⟩)]] w
      fun e w' => e = .returned (.int .i64 0) ∧ Sat w' b p g a z (x + 8) (setv bs x n) ∧ Both b g w w' := by
  obtain ⟨h0, h1, h2, h3⟩ := h.cells
  have hb := h.bd
  have hc0 : code bs.length (x : Int) = 0 := by rw [code_in (by omega), if_pos h8]
  have hset : setc bs x n = setv bs x n := by unfold setc; rw [if_pos hc0]; rfl
  have HC := Lib.hid (fun w h k1 k2 => comma1_any b p g a z x c1 c2 bs x n w h k1 k2)
  rw [hc0, hset] at HC
  have HS := Lib.hid (fun n => (show Sat (w.drewN n) b p g a z x bs from h))
  have HK := Lib.hid (And.intro k1 k2)
  have hzz : (8 : Int) ≤ (z : Int) - (x : Int) := by omega
  have hbd : x ≤ 1048576 ∧ z ≤ 1048576 := by omega
  have HL := Lib.hid (setv_length bs x n)
  have HB := Lib.hid hb
  clear h hb h8 hc0 hset k1 k2
  go_enter Tryz.func240, Tryz.ntmps240
  go_wp2
  go_quiet (fail)
  go_wp2_with (go_at_call 241; refine (HC.out _ (HS.out _) HK.out.1 HK.out.2).mono ?_; rintro e w' ⟨rfl, hm, hf⟩; have hS2 := (HS.out _).wrote hf hm HL.out; obtain ⟨q0, q1, q2, q3⟩ := hS2.cells; have q4 := hS2.free 3; have HS2 := Lib.hid hS2; have HF := Lib.hid hf; clear hS2 hm hf)
  go_ret
  refine ⟨rfl, HS2.out.move (x + 8) (by have := HB.out; omega) hz, ?_⟩
  refine Fr.setCell (S := fun j => j = b ∨ j = g) ?_ (.inr (.inl rfl)) _
  exact (Fr.drewN' _ HF.out).mono fun k _ e => .inr e

/-- Two new blocks of one cell each. -/
theorem two_new (w : World) (u v : Value) (t s : TypeId) : ((w.alloc (.cells #[u] t)).alloc (.cells #[v] s)).cell? ⟨w.heap.size, 0, none⟩ = some u ∧ ((w.alloc (.cells #[u] t)).alloc (.cells #[v] s)).cell? ⟨w.heap.size + 1, 0, none⟩ = some v := by
  have hs : (w.alloc (.cells #[u] t)).heap.size = w.heap.size + 1 := by simp
  refine ⟨cell_of_one (t := t) ?_, cell_of_one (t := s) ?_⟩
  · rw [Below.heap_alloc _ _ _ (by omega)]
    exact heap_alloc_last _ _
  · have := heap_alloc_last (w.alloc (.cells #[u] t)) (.cells #[v] s)
    rw [hs] at this
    exact this

set_option maxRecDepth 100000 in
set_option maxHeartbeats 1000000 in
theorem comma_ok (b p g a z x : Nat) (bs : List UInt8) (n : Int) (w : World) (h : Sat w b p g a z x bs) (h8 : x % 8 = 0) (hz : x + 8 ≤ z) :
    Calls Tryz.prog 124 #[.pointer (some ⟨b, 0, none⟩), .int .i64 n] w
      fun e w' => e = .returned (.int .i64 0) ∧ Sat w' b p g a z (x + 8) (setv bs x n) ∧ Both b g w w' := by
  have hmf : ∀ (fn : Fn) (first cap : Array Value) (w : World), (Instr.makeFunc fn first cap).run Tryz.prog w = .ok (.func fn first cap) w := fun _ _ _ _ => rfl
  have hF : Fr (fun _ => False) w ((w.alloc (.cells #[.pointer (some ⟨b, 0, none⟩)] 106)).alloc (.cells #[.int .i64 n] 2)) := ((Fr.refl _ _).alloc _).alloc _
  have hcl := two_new w (.pointer (some ⟨b, 0, none⟩)) (.int .i64 n) 106 2
  have HP := Lib.hid (put_comma b p g a z x w.heap.size (w.heap.size + 1) bs n _ (h.fr hF id id id) h8 hz hcl.1 hcl.2)
  have hc1 := hcl.1
  have HF := Lib.hid hF
  clear h hcl hF
  go_enter Tryz.func124, Tryz.ntmps124
  go_wp2_with (go_at_call 240; refine HP.out.mono ?_; rintro e w' ⟨rfl, hs, hf⟩)
  go_ret
  exact ⟨rfl, hs, Fr.trans (HF.out.mono fun _ _ e => e.elim) hf⟩

set_option maxRecDepth 100000 in
set_option maxHeartbeats 1000000 in
theorem comma_full (b p g a z x : Nat) (bs : List UInt8) (n : Int) (w : World) (h : Sat w b p g a z x bs) (hz : ¬ x + 8 ≤ z) :
    Calls Tryz.prog 124 #[.pointer (some ⟨b, 0, none⟩), .int .i64 n] w
      fun e w' => e = .returned (.int .i64 (-8)) ∧ Sat w' b p g a z x bs ∧ Fr (fun _ => False) w w' := by
  have hmf : ∀ (fn : Fn) (first cap : Array Value) (w : World), (Instr.makeFunc fn first cap).run Tryz.prog w = .ok (.func fn first cap) w := fun _ _ _ _ => rfl
  have hF : Fr (fun _ => False) w ((w.alloc (.cells #[.pointer (some ⟨b, 0, none⟩)] 106)).alloc (.cells #[.int .i64 n] 2)) := ((Fr.refl _ _).alloc _).alloc _
  have hcl := two_new w (.pointer (some ⟨b, 0, none⟩)) (.int .i64 n) 106 2
  have HP := Lib.hid (fun f => put_full b p g a z x bs f _ (h.fr hF id id id) hz)
  have hc1 := hcl.1
  have HF := Lib.hid hF
  clear h hcl hF
  go_enter Tryz.func124, Tryz.ntmps124
  go_wp2_with (go_at_call 240; refine (HP.out _).mono ?_; rintro e w' ⟨rfl, hs, hf⟩)
  go_ret
  exact ⟨rfl, hs, HF.out.trans hf⟩

set_option maxRecDepth 100000 in
set_option maxHeartbeats 1000000 in
theorem align_ok (b p g a z x : Nat) (bs : List UInt8) (w : World) (h : Sat w b p g a z x bs) (h8 : x % 8 = 0) :
    Calls Tryz.prog 215 #[.pointer (some ⟨b, 0, none⟩)] w fun e w' => e = .returned (.int .i64 0) ∧ w' = w := by
  have HC := Lib.hid (here_any b p g a z x bs w h)
  have h8' : ((x : Int) % 8 != 0) = false := by
    have : (x : Int) % 8 = 0 := by omega
    simp [this]
  clear h
  go_enter Tryz.func215, Tryz.ntmps215
  go_wp2
  go_loop [2] (fun v => v = .int .i64 0) (fun _ => 0)
  case atStart => rfl
  case round =>
    subst hrel
    go_wp2_with (go_at_call 61; refine HC.out.mono ?_; rintro e w' ⟨rfl, rfl⟩)
    go_ret
    exact ⟨rfl, rfl⟩
end Go.Proofs.YthkmbnkkohomeaaGreatDoor.Mem
