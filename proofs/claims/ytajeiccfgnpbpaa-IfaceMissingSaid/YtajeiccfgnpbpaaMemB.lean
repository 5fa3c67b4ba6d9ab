/- Contracts of package mem: what writes. -/
import Derived.Test.YtajeiccfgnpbpaaMemA
import Derived.StillTailTactics
import Derived.BigRegion
import Derived.Laws.BytesArg
import Derived.Lib.BufferWrite
import Derived.Deep.OwnRows
import Derived.Deep.WholeRow
namespace Go.Proofs.Ytajeiccfgnpbpaa.Mem
open Go.RowKit

set_option maxRecDepth 100000 in
set_option maxHeartbeats 1000000 in
theorem setCell_any (p g : Nat) (bs : List UInt8) (a n : Int) (w : World) (h : Mat 108 w p g bs) :
    Calls Try.prog 15 #[.pointer (some ⟨p, 0, none⟩), .int .i64 a, .int .i64 n] w fun e w' => e = .returned (.int .i64 (code bs.length a)) ∧ Mat 108 w' p g (setc bs a n) ∧ Only g w w' := by
  have hcall := fun w h => cellAt_any p g bs a w h
  have H := Lib.hid h
  obtain ⟨c, hc⟩ : ∃ c, code bs.length a = c := ⟨_, rfl⟩
  rw [hc] at hcall ⊢
  have HC := Lib.hid hcall
  clear hcall
  by_cases hz : c = 0
  · subst hz
    have hp : setc bs a n = setv bs a.toNat n := by unfold setc; rw [if_pos hc]
    obtain ⟨ha0, ha1, _⟩ := code_ok hc
    obtain ⟨x, rfl⟩ : ∃ x : Nat, a = x := ⟨a.toNat, by omega⟩
    rw [hp]
    simp only [Int.toNat_natCast]
    have hbl := h.2.2.2
    have HL := Lib.hid (wr_length bs x (m64 n).toNat)
    obtain ⟨nb, hnn⟩ : ∃ nb, bs.length = nb := ⟨_, rfl⟩
    rw [hnn] at hbl ha1 HL
    clear h hc hp
    have HNN := Lib.hid hnn
    clear hnn
    go_enter Try.func15, Try.ntmps15
    go_wp2_with (go_at_call 57; refine (HC.out _ H.out).mono ?_; rintro e w' ⟨rfl, rfl⟩)
    go_loopw [15] (fun iv wr' => ∃ k : Nat, k ≤ 8 ∧ iv = .int .i64 k ∧ Mat 108 wr' p g (wr bs x (m64 n).toNat k) ∧ Only g w' wr') (fun iv _ => 8 - (intOf iv).toNat)
    case atStart => exact ⟨0, by omega, rfl, H.out, Fr.refl _ _⟩
    case round =>
      obtain ⟨k, hk, rfl, hM, hF⟩ := hrel
      by_cases hlt : k < 8
      · have h0 := hM.hd
        rw [HL.out] at h0
        have hcell := hM.at (x + k) (by rw [HL.out]; omega)
        have hfree := hM.free (x + k)
        have HM := Lib.hid hM
        have HF := Lib.hid hF
        clear hM hF
        go_wp2
        go_region
        go_wp2
        go_roundw
        case rel =>
          refine ⟨k + 1, by omega, by go_num, ?_, ?_⟩
          · have hs := HM.out.set (x + k) (UInt8.ofNat ((m64 n).toNat / 256 ^ k % 256))
            rw [byte_of]
            exact hs
          · exact (HF.out.setOne _ _).drew
        case measure => simp only [intOf]; omega
      · obtain rfl : k = 8 := by omega
        have HM := Lib.hid hM
        have HF := Lib.hid hF
        clear hM hF
        go_wp2
        go_ret
        exact ⟨rfl, HM.out, HF.out⟩
  · have hp : setc bs a n = bs := by unfold setc; rw [if_neg (by rw [hc]; exact hz)]
    rw [hp]
    have hz' : (c != 0) = true := by simp [hz]
    clear h hc hp hz
    go_enter Try.func15, Try.ntmps15
    go_wp2_with (go_at_call 57; refine (HC.out _ H.out).mono ?_; rintro e w' ⟨rfl, rfl⟩)
    go_ret
    exact ⟨rfl, H.out, Fr.refl _ _⟩
theorem strOf_bytes (l : List UInt8) : strOfNums (l.map fun b => (b.toNat : Int)) = ⟨l.toArray⟩ := by
  unfold strOfNums
  rw [List.map_map]
  simp [Function.comp_def]
theorem getD_bytes (l : List UInt8) (i : Nat) : (l.map fun b => (b.toNat : Int)).getD i 0 = ((l.getD i 0).toNat : Int) := by
  simp only [List.getD_eq_getElem?_getD, List.getElem?_map]
  cases l[i]? <;> simp

set_option maxRecDepth 100000 in
set_option maxHeartbeats 1000000 in
theorem text_any (p g : Nat) (bs : List UInt8) (a k : Int) (w : World) (h : Mat 108 w p g bs) (hk1 : -9223372036854775808 ≤ k) (hk2 : k ≤ 9223372036854775807) :
    Calls Try.prog 52 #[.pointer (some ⟨p, 0, none⟩), .int .i64 a, .int .i64 k] w fun e w' => e = .returned (.tuple #[.string ⟨(txt bs a k).1.toArray⟩, .int .i64 (txt bs a k).2]) ∧ w' = w := by
  have hh := fun w h => has_any p g bs a k w h hk1 hk2
  have H := Lib.hid h
  by_cases h1 : has bs.length a k = true
  · have hp : txt bs a k = (text bs a.toNat k.toNat, 0) := by unfold txt; rw [if_pos h1]
    rw [hp]
    rw [h1] at hh
    have HH := Lib.hid hh
    clear hh hp
    simp [has] at h1
    obtain ⟨x, rfl⟩ : ∃ x : Nat, a = x := ⟨a.toNat, by omega⟩
    obtain ⟨n, rfl⟩ : ∃ n : Nat, k = n := ⟨k.toNat, by omega⟩
    simp only [Int.toNat_natCast]
    have h0 := h.hd
    have hn := h.2.2.2
    by_cases hz : n = 0
    · subst hz
      have ht : text bs x 0 = [] := by simp [text]
      rw [ht]
      clear h
      go_enter Try.func52, Try.ntmps52
      go_wp2_with (go_at_call 99; refine (HH.out _ H.out).mono ?_; rintro e w' ⟨rfl, rfl⟩)
      go_ret2
      exact ⟨rfl, rfl⟩
    · have hl : (text bs x n).length = n := text_length _ _ _ (by omega)
      have hz' : ((n : Int) == 0) = false := by simp [hz]
      have hc := run_convert_bytes_arg (P := Try.prog) w 53 5 Try.underlying53 Try.underlying5 g x n (bs.length - x) ((text bs x n).map fun b => (b.toNat : Int)) (by simp [hl]) (fun i hi => by
        rw [h.at (x + i) (by omega), getD_bytes, text_get bs x n i hi]) 9 Try.underlying9
      rw [strOf_bytes] at hc
      obtain ⟨st, hst⟩ : ∃ st : ByteArray, ⟨(text bs x n).toArray⟩ = st := ⟨_, rfl⟩
      rw [hst] at hc ⊢
      obtain ⟨nb, hnn⟩ : ∃ nb, bs.length = nb := ⟨_, rfl⟩
      rw [hnn] at hc h0 hn h1
      have hne : ¬ nb = x := by omega
      clear h hst hl hnn hz
      go_enter Try.func52, Try.ntmps52
      go_wp2_with (go_at_call 99; refine (HH.out _ H.out).mono ?_; rintro e w' ⟨rfl, rfl⟩)
      go_ret2
      exact ⟨rfl, rfl⟩
  · have hp : txt bs a k = ([], -9) := by unfold txt; rw [if_neg h1]
    rw [hp]
    have h1' : has bs.length a k = false := by simpa using h1
    rw [h1'] at hh
    have HH := Lib.hid hh
    clear hh h1 h1' h hp
    go_enter Try.func52, Try.ntmps52
    go_wp2_with (go_at_call 99; refine (HH.out _ H.out).mono ?_; rintro e w' ⟨rfl, rfl⟩)
    go_ret2
    exact ⟨rfl, rfl⟩

theorem Mat.row {t : TypeId} {w : World} {p g : Nat} {bs : List UInt8} (h : Mat t w p g bs) (l : List UInt8) (hl : l.length = bs.length) : Mat t (w.setRow g (l.map bv).toArray) p g l :=
  ⟨h.1, by rw [setRow_other _ _ _ _ h.1, hl]; exact h.2.1, setRow_heap _ _ _ _ _ _ h.2.2.1, by rw [hl]; exact h.2.2.2⟩
theorem Fr.setRow {S : Nat → Prop} {a b : World} (h : Fr S a b) {g : Nat} (hg : S g) (cs : Array Value) : Fr S a (b.setRow g cs) :=
  ⟨h.os, h.tape, h.output, by simpa using h.size, fun k hk hs => (setRow_other _ _ _ _ (fun e => hs (by rw [e]; exact hg))).trans (h.block k hk hs)⟩
theorem put_cells (bs : List UInt8) (x : Nat) (s : ByteArray) : ((bs.map bv).toArray.toList.take x ++ Lib.byteCells s.data.toList ++ (bs.map bv).toArray.toList.drop (x + s.size)).toArray = ((put bs x s.data.toList).map bv).toArray := by
  have : s.data.toList.length = s.size := Array.length_toList
  simp [put, Lib.byteCells, bv, List.map_take, List.map_drop, this]

set_option maxRecDepth 100000 in
set_option maxHeartbeats 1000000 in
theorem setText_any (p g : Nat) (bs : List UInt8) (a : Int) (s : ByteArray) (w : World) (h : Mat 108 w p g bs) (hsz : s.size ≤ 1048576) :
    Calls Try.prog 44 #[.pointer (some ⟨p, 0, none⟩), .int .i64 a, .string s] w fun e w' => e = .returned (.int .i64 (codet bs a s.data.toList)) ∧ Mat 108 w' p g (sett bs a s.data.toList) ∧ Only g w w' := by
  have hlen : s.data.toList.length = s.size := Array.length_toList
  have hh := fun w h => has_any p g bs a s.size w h (by omega) (by omega)
  have H := Lib.hid h
  by_cases h1 : has bs.length a s.size = true
  · have hp : codet bs a s.data.toList = 0 ∧ sett bs a s.data.toList = put bs a.toNat s.data.toList := by unfold codet sett; rw [hlen, if_pos h1, if_pos h1]; exact ⟨rfl, rfl⟩
    rw [hp.1, hp.2]
    rw [h1] at hh
    have HH := Lib.hid hh
    clear hh hp
    simp [has] at h1
    obtain ⟨x, rfl⟩ : ∃ x : Nat, a = x := ⟨a.toNat, by omega⟩
    simp only [Int.toNat_natCast]
    have h0 := h.hd
    have hn := h.2.2.2
    by_cases hz : s.size = 0
    · have hs : s = ByteArray.mk #[] := by
        have : s.data.toList = [] := List.length_eq_zero_iff.1 (by rw [hlen]; exact hz)
        cases s; simp_all
      subst hs
      have ht : put bs x [] = bs := by simp [put]
      rw [show (ByteArray.mk #[]).data.toList = [] from rfl, ht]
      clear h
      go_enter Try.func44, Try.ntmps44
      go_wp2_with (go_at_call 99; refine (HH.out _ H.out).mono ?_; rintro e w' ⟨rfl, rfl⟩)
      go_ret
      exact ⟨rfl, H.out, Fr.refl _ _⟩
    · have hz' : (!s.toList.isEmpty) = true := by
        rw [ByteArray.toList_eq, Bool.not_eq_true', List.isEmpty_eq_false_iff]
        intro e
        exact hz (by rw [← hlen, e]; rfl)
      have hM := h.row (put bs x s.data.toList) (put_length _ _ _ (by omega))
      have hcp := Lib.run_copy_row_string (P := Try.prog) w 53 9 3 5 g x (bs.length - x) (bs.length - x) s _ _ Try.underlying53 (by kernel_rfl) h.2.2.1 (by omega) (by simp; omega)
      rw [put_cells] at hcp
      have hne : ¬ bs.length = x := by omega
      have HM := Lib.hid hM
      obtain ⟨L, hL⟩ : ∃ L, ((put bs x s.data.toList).map bv).toArray = L := ⟨_, rfl⟩
      rw [hL] at hcp HM
      obtain ⟨nb, hnn⟩ : ∃ nb, bs.length = nb := ⟨_, rfl⟩
      rw [hnn] at hcp h0 hn h1 hne
      clear h hnn hz hlen hL hM
      go_enter Try.func44, Try.ntmps44
      go_wp2_with (go_at_call 99; refine (HH.out _ H.out).mono ?_; rintro e w' ⟨rfl, rfl⟩)
      go_ret
      exact ⟨rfl, HM.out, Fr.setRow (S := fun j => j = g) (Fr.refl _ _) rfl _⟩
  · have hp : codet bs a s.data.toList = -9 ∧ sett bs a s.data.toList = bs := by unfold codet sett; rw [hlen, if_neg h1, if_neg h1]; exact ⟨rfl, rfl⟩
    rw [hp.1, hp.2]
    have h1' : has bs.length a s.size = false := by simpa using h1
    rw [h1'] at hh
    have HH := Lib.hid hh
    clear hh h1 h1' h hp hlen
    go_enter Try.func44, Try.ntmps44
    go_wp2_with (go_at_call 99; refine (HH.out _ H.out).mono ?_; rintro e w' ⟨rfl, rfl⟩)
    go_ret
    exact ⟨rfl, H.out, Fr.refl _ _⟩

set_option maxRecDepth 100000 in
set_option maxHeartbeats 1000000 in
theorem new_ok (n : Nat) (w : World) (hn : n ≤ 1048576) (h8 : n % 8 = 0) :
    Calls Try.prog 10 #[.int .i64 n] w fun e w' => e = .returned (.tuple #[.pointer (some ⟨w.heap.size + 1, 0, none⟩), .int .i64 0]) ∧ Mat 108 w' (w.heap.size + 1) w.heap.size (List.replicate n 0) ∧ Fr (fun _ => False) w w' := by
  have hmk := run_make_row' (P := Try.prog) 53 5 (.int .u8 0) 1 Try.underlying53 (by kernel_rfl) rfl .i64 .i64 n (by omega) (by omega)
  have h8' : ((n : Int) % 8 != 0) = false := by
    have : (n : Int) % 8 = 0 := by omega
    simp [this]
  have hrow : madeCells #[.int .u8 0] n = ((List.replicate n 0).map bv).toArray := by
    apply Array.ext'
    rw [toList_madeCells_one]
    simp [List.map_replicate, bv]
  rw [hrow] at hmk
  obtain ⟨L, hL⟩ : ∃ L, ((List.replicate n 0).map bv).toArray = L := ⟨_, rfl⟩
  rw [hL] at hmk
  have hw1 := heap_alloc_last w (.cells L 5)
  clear h8 hrow
  go_enter Try.func10, Try.ntmps10
  go_wp2
  go_ret2
  have hsz : (w.alloc (.cells L 5)).heap.size = w.heap.size + 1 := by simp
  refine ⟨rfl, ⟨by omega, ?_, ?_, by rw [List.length_replicate]; exact hn⟩, ((Fr.refl _ _).alloc _).alloc _⟩
  · have := heap_alloc_last (w.alloc (.cells L 5)) (.cells #[.slice (some ⟨w.heap.size, 0, none⟩) n n] 108)
    rw [hsz] at this
    rw [List.length_replicate]
    exact this
  · rw [Below.heap_alloc _ _ _ (by omega), hw1, hL]

end Go.Proofs.Ytajeiccfgnpbpaa.Mem
