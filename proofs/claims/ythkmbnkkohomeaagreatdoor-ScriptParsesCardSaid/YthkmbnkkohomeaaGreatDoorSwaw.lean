/- Several texts in one: NumC, VbA, VbB. -/
import Derived.Test.YthkmbnkkohomeaaGreatDoorSwav
import Derived.Deep.DeepCutAuto
import Derived.Deep.LoopGhost
import Derived.StillTailTactics
import Derived.BigQuiet
import Derived.BigRegion
set_option linter.unusedSimpArgs false
set_option linter.unusedVariables false
/- Contracts of package number: numbers as texts (Unsigned, Show). -/
namespace Go.Proofs.YthkmbnkkohomeaaGreatDoor.Num
open Go.RowKit

set_option maxHeartbeats 400000 in
theorem digit_any (n : Int) (w : World) (h0 : 0 ≤ n) (h1 : n < 36) :
    Calls Tryz.prog 321 #[.int .u64 n] w fun e w' => e = .returned (.int .u8 (dch n)) ∧ w' = w := by
  by_cases h : n < 10
  all_goals
    go_enter Tryz.func321, Tryz.ntmps321
    go_wp2
    go_ret
    refine ⟨ret_int ?_, rfl⟩
    simp only [dch]
    split <;> omega

/-- A block of 64 bytes whose last ones are these. -/
def Tail (w : World) (g a : Nat) (acc : List UInt8) : Prop :=
  ∃ row : Array Value, w.heap[g]? = some (.cells row 237 (0, 0)) ∧ row.size = 64 ∧ ∀ i, i < acc.length → row[a + i]? = some (.int .u8 ((acc.getD i 0).toNat : Int))

theorem tail_start (w : World) (row : Array Value) (h : row.size = 64) : Tail (w.alloc (.cells row 237)) w.heap.size 64 [] :=
  ⟨row, heap_alloc_new w _, h, fun i hi => absurd hi (Nat.not_lt_zero i)⟩

theorem len64 : Tryz.prog.arrayLen 237 = 64 := by kernel_rfl
theorem size64 (w : World) : (sizeOf (Tryz.prog.elem 237)).run Tryz.prog w = .ok 1 w := by kernel_rfl
theorem und64 : Tryz.prog.underlying 237 = some (.array (Tryz.prog.arrayLen 237) (Tryz.prog.elem 237)) := by kernel_rfl

/-- The last bytes of an array of 64. -/
theorem slice64 (g a : Nat) (h : a < 64) (w : World) : (Instr.sliceAt 237 (.pointer (some ⟨g, 0, none⟩)) (some (.int .i64 a)) none none).run Tryz.prog w =
    .ok (.slice (some ⟨g, a, none⟩) (64 - a) (64 - a)) w := by
  rw [run_sliceAt_array_l w _ _ und64 .i64 a (by omega) (by rw [len64]; omega), size64, len64]
  simp only [Result.andThen, slicedAt, Addr.add, Int.toNat_natCast, Nat.mul_one, Nat.zero_add]
  rw [if_neg (by omega)]
  cases a <;> rfl

theorem tail_store {w : World} {g a : Nat} {acc : List UInt8} (h : Tail w g (a + 1) acc) (ha : a < 64) (x : Int) (hx : 0 ≤ x ∧ x < 256) :
    Tail (w.setCell ⟨g, a, none⟩ (.int .u8 x)) g a (UInt8.ofNat x.toNat :: acc) := by
  obtain ⟨row, hrow, hsz, hacc⟩ := h
  refine ⟨row.setIfInBounds a (.int .u8 x), heap_setCell_same w g a row _ _ hrow, by simpa using hsz, fun i hi => ?_⟩
  rw [Array.getElem?_setIfInBounds]
  cases i with
  | zero =>
    rw [if_pos (by simp), if_pos (by omega)]
    simp
    omega
  | succ i =>
    rw [if_neg (by omega)]
    have := hacc i (by simpa using hi)
    rw [show a + (i + 1) = a + 1 + i by omega, this]
    simp

theorem tail_string {w : World} {g a : Nat} {acc : List UInt8} (h : Tail w g a acc) (ha : a + acc.length = 64) :
    (convert 55 9 (.slice (some ⟨g, a, none⟩) (64 - a) (64 - a))).run Tryz.prog w = .ok (.string ⟨acc.toArray⟩) w := by
  obtain ⟨row, hrow, hsz, hacc⟩ := h
  rw [run_convert_bytes_arg (P := Tryz.prog) w 55 5 (by kernel_rfl) (by kernel_rfl) g a (64 - a) (64 - a) (acc.map fun c => (c.toNat : Int)) (by simp; omega) (fun i hi => by
    rw [cell_of_row w _ _ _ _ _ hrow, hacc i (by omega)]
    have hi' : i < acc.length := by omega
    simp [List.getD, hi']) 9 (by kernel_rfl)]
  congr 2
  simp [strOfNums, Function.comp_def]

set_option maxRecDepth 100000 in
set_option maxHeartbeats 400000 in
theorem unsigned_any (n b : Nat) (w : World) (hb : 2 ≤ b) (hb2 : b ≤ 36) (hn : n < 2 ^ 64) :
    Calls Tryz.prog 225 #[.int .u64 n, .int .i64 b] w fun e w' => e = .returned (.string ⟨(udig b n).toArray⟩) ∧ Below w.heap.size w w' := by
  have hr : right b = true := by simp [right]; omega
  have HR := Lib.hid (fun w => right_any b w)
  rw [hr] at HR
  clear hr
  have HN := Lib.hid hn
  clear hn
  go_enter Tryz.func225, Tryz.ntmps225
  go_wp2_with (go_at_call 320; refine (HR.out _).mono ?_; rintro e w' ⟨rfl, rfl⟩)
  go_loopw [0, 6] (fun nv at' wr => ∃ (m a : Nat) (acc : List UInt8), nv = .int .u64 m ∧ at' = .int .i64 ((a : Int) + 1) ∧ m < 2 ^ (a + 1) ∧ a + 1 + acc.length = 64 ∧ udig b n = udig b m ++ acc ∧
      Tail wr w'.heap.size (a + 1) acc ∧ Below w'.heap.size w' wr) (fun _ at' _ => (intOf at').toNat)
  case atStart => exact ⟨n, 63, [], rfl, rfl, HN.out, rfl, by simp, tail_start _ _ rfl, (Below.refl _ _).alloc (Nat.le_refl _) _⟩
  case round =>
    obtain ⟨m, a, acc, rfl, rfl, hm, ha, hu, ht, hbel⟩ := hrel
    have ha' : a < 64 := by omega
    have hsl := slice64 w'.heap.size a ha'
    have hm0 : 0 ≤ (m : Int) % b := Int.emod_nonneg _ (by omega)
    have hm1 : (m : Int) % b < 36 := by have := Int.emod_lt_of_pos (m : Int) (show (0 : Int) < b by omega); omega
    have hd := dch_bd hm0 hm1
    have HT := Lib.hid (tail_store ht ha' (dch ((m : Int) % b)) ⟨by omega, by omega⟩)
    have HV := Lib.hid (tail_string HT.out (by simp; omega))
    have hcv := HV.out
    obtain ⟨row, hrow, hsz, hacc⟩ := ht
    have hc : wr.cell? ⟨w'.heap.size, a, none⟩ = some (row[a]'(by omega)) := by rw [cell_of_row wr _ _ _ _ _ hrow]; simp [hsz, ha']
    have hf : wr.frozen? ⟨w'.heap.size, a, none⟩ = false := frozen_of_row wr _ _ _ _ hrow
    generalize (row[a]'(by omega)) = old at hc
    have HM := Lib.hid hm
    have HA := Lib.hid ha
    have HU := Lib.hid hu
    clear hm ha hu hsz hrow hacc HV
    have HB := Lib.hid (hbel.setCell (p := ⟨w'.heap.size, a, none⟩) (Nat.le_refl _) (.int .u8 (dch ((m : Int) % b))))
    have HW := Lib.hid (wrap_quo (b := b) HM.out ha')
    by_cases hz : m / b = 0
    · have hz' : (IntKind.u64.wrap ((m : Int) / b) == 0) = true := by rw [HW.out, hz]; rfl
      have HL := Lib.hid (udig_last hb hz)
      clear hz
      go_wp2_with (go_at_call 321; refine (digit_any _ _ hm0 hm1).mono ?_; rintro e w1 ⟨rfl, rfl⟩)
      go_ret
      refine ⟨?_, HB.out⟩
      rw [HU.out, HL.out]
      rfl
    · have hz' : (IntKind.u64.wrap ((m : Int) / b) == 0) = false := by rw [HW.out, beq_eq_false_iff_ne]; omega
      have HL := Lib.hid (udig_more hb hz)
      have HP := Lib.hid (pow_half hb HM.out)
      have HZ := Lib.hid hz
      clear hz
      go_wp2_with (go_at_call 321; refine (digit_any _ _ hm0 hm1).mono ?_; rintro e w1 ⟨rfl, rfl⟩)
      go_roundw
      case rel =>
        obtain ⟨a', ha1⟩ : ∃ a', a = a' + 1 := by
          cases a with
          | zero => exact absurd (Nat.lt_one_iff.1 HP.out) HZ.out
          | succ a' => exact ⟨a', rfl⟩
        have hP := HP.out
        have hT := HT.out
        have hA := HA.out
        subst ha1
        exact ⟨m / b, a', _, congrArg (Value.int .u64) HW.out, by go_num, hP, by simp; omega, by rw [HU.out, HL.out, List.append_assoc]; rfl, hT, HB.out⟩
      case measure => simp [intOf]
set_option maxHeartbeats 400000 in
theorem unsigned_bad (n b : Int) (w : World) (hr : right b = false) :
    Calls Tryz.prog 225 #[.int .u64 n, .int .i64 b] w fun e w' => e = .returned (.string ByteArray.empty) ∧ w' = w := by
  have HR := Lib.hid (fun w => right_any b w)
  rw [hr] at HR
  go_enter Tryz.func225, Tryz.ntmps225
  go_wp2_with (go_at_call 320; refine (HR.out _).mono ?_; rintro e w' ⟨rfl, rfl⟩)
  go_ret
  exact ⟨rfl, rfl⟩

set_option maxHeartbeats 400000 in
theorem show_pos (n b : Nat) (w : World) (hb : 2 ≤ b) (hb2 : b ≤ 36) (hn : n ≤ 9223372036854775807) :
    Calls Tryz.prog 223 #[.int .i64 n, .int .i64 b] w fun e w' => e = .returned (.string ⟨(udig b n).toArray⟩) ∧ Below w.heap.size w w' := by
  have h64 : n < 2 ^ 64 := by omega
  have HN := Lib.hid h64
  have hn0 : 0 ≤ (n : Int) := by omega
  clear h64
  go_enter Tryz.func223, Tryz.ntmps223
  go_wp2_with (go_at_call 225; refine (unsigned_any _ _ _ hb hb2 HN.out).mono ?_; rintro e w' ⟨rfl, hb1⟩)
  go_ret
  exact ⟨rfl, hb1⟩

end Go.Proofs.YthkmbnkkohomeaaGreatDoor.Num

/- Contracts of package vm: Base, Put. -/
namespace Go.Proofs.YthkmbnkkohomeaaGreatDoor.Mem
open Go.RowKit

set_option maxRecDepth 100000 in
set_option maxHeartbeats 1000000 in
theorem base_ok (v : VB) (m : MR) (bs : List UInt8) (x dd rd : Nat) (w : World) (h : VmS w v m bs x dd rd) (hb : m.base = 16) (hc : cell bs 16 = (10, 0)) :
    Calls Tryz.prog 168 #[.pointer (some ⟨v.mb, 0, none⟩)] w fun e w' => e = .returned (.int .i64 10) ∧ Fr (fun _ => False) w w' := by
  have hM := fun n => cell_any v.p v.g bs 16 (w.drewN n) h.sat.mat
  rw [hc] at hM
  have q0 : w.cell? ⟨v.mb, 0, none⟩ = some (.pointer (some ⟨v.sb, 0, none⟩)) := by rw [← h.sp]; exact h.row.cells.1
  have q15 : w.cell? ⟨v.mb, 15, none⟩ = some (.int .i64 16) := by rw [← hb]; exact h.row.cells.2.2.2.2.2.2.2.2.2.2.2.2.2.2.2.1
  have s0 := h.sat.cells.1
  have HM := Lib.hid hM
  clear h hM hc hb
  go_enter Tryz.func168, Tryz.ntmps168
  go_wp2_with fail
  go_quiet ((go_at_call 100; exact Calls.quiet_of_same (HM.out _)))
  go_wp2_with fail
  go_ret
  exact ⟨rfl, (Fr.refl _ _).drewN _⟩

set_option maxRecDepth 100000 in
set_option maxHeartbeats 1000000 in
theorem putout_ok (mb : Nat) (m : MR) (s : ByteArray) (w : World) (h : Mch w mb m) (hs : m.out.size + s.size < 65536) :
    Calls Tryz.prog 170 #[.pointer (some ⟨mb, 0, none⟩), .string s] w fun e w' => e = .returned (.tuple #[]) ∧ Mch w' mb { m with out := m.out ++ s } ∧ Fr (fun j => j = mb) w w' := by
  have q11 := h.cells.2.2.2.2.2.2.2.2.2.2.2.1
  have f11 := h.free 11
  have HS := Lib.hid (fun u => h.set11 u)
  obtain ⟨o, ho⟩ : ∃ o, m.out = o := ⟨_, rfl⟩
  rw [ho] at q11 hs ⊢
  have h1 : decide ((65536 : Int) ≤ (o.size : Int)) = false := decide_eq_false (by omega)
  have h2 : min (s.size : Int) (65536 - (o.size : Int)) = s.size := by omega
  have h3 : (o.size : Int) ≤ 65536 ∧ (s.size : Int) ≤ 65536 := by omega
  clear h ho
  go_enter Tryz.func170, Tryz.ntmps170
  go_wp2_with fail
  go_region
  all_goals
    go_wp2_with fail
    exact bodyPost_end (results_none rfl _ _ _) rfl ⟨rfl, HS.out _, ((Fr.refl (fun j => j = mb) w).setOne 11 _).drew⟩
end Go.Proofs.YthkmbnkkohomeaaGreatDoor.Mem

/- Contracts of package vm: pop and take of one number; tell, tellNumber; the word '.'. -/
namespace Go.Proofs.YthkmbnkkohomeaaGreatDoor.Mem
open Go.RowKit

set_option maxRecDepth 100000 in
set_option maxHeartbeats 1000000 in
theorem pop1_ok (s p g fr n d : Nat) (bs : List UInt8) (ov un : Int) (w : World) (h : Stk w s p fr n (d + 1) ov un) (hm : Mat 221 w p g bs) (h8 : fr % 8 = 0) (hn : fr + n * 8 ≤ bs.length) (hd : d + 1 ≤ n) :
    Calls Tryz.prog 372 #[.pointer (some ⟨s, 0, none⟩), .int .i64 1] w fun e w' => e = .returned (.slice (some ⟨w.heap.size, 0, none⟩) 1 1) ∧ w'.cell? ⟨w.heap.size, 0, none⟩ = some (.int .i64 (cellv bs (fr + d * 8))) ∧ Stk w' s p fr n d ov un ∧ Fr (fun j => j = s) w w' := by
  have hmk := run_make_row' (P := Tryz.prog) 36 2 (.int .i64 0) 8 Tryz.underlying36 (by kernel_rfl) rfl .i64 .i64 1 (by decide) (by decide)
  have hmk' : ∀ w, (Instr.makeSlice 36 (.int .i64 1) (.int .i64 1)).run Tryz.prog w = .ok (.slice (some ⟨w.heap.size, 0, none⟩) 1 1) (w.alloc (.cells #[.int .i64 0] 2)) := fun w => by
    have e : madeCells #[.int .i64 0] 1 = #[Value.int .i64 0] := by
      apply Array.ext'
      rw [toList_madeCells_one]
      rfl
    have := hmk w
    rw [e] at this
    exact this
  clear hmk
  have hA := heap_alloc_last w (.cells #[.int .i64 0] 2)
  have hF := (Fr.refl (fun _ => False) w).alloc (.cells #[.int .i64 0] 2)
  have hsl := lt_of_block h
  obtain ⟨q, hq⟩ : ∃ q, w.heap.size = q := ⟨_, rfl⟩
  obtain ⟨w1, hw1⟩ : ∃ w1, w.alloc (.cells #[.int .i64 0] 2) = w1 := ⟨_, rfl⟩
  rw [hw1] at hA hF
  rw [hq] at hA hsl ⊢
  have HP := Lib.hid (pop_ok s p g fr n d bs ov un w1 (h.fr hF id) (hm.fr hF id id) h8 hn hd)
  have HA := Lib.hid hA
  have HF := Lib.hid hF
  have HW := Lib.hid hw1
  have HQ := Lib.hid hq
  clear h hm h8 hn hd hA hF hw1 hq
  go_enter Tryz.func372, Tryz.ntmps372
  go_wp2_with fail
  rw [HW.out, HQ.out]
  obtain ⟨N, hN⟩ : ∃ N : Nat, N = 1 := ⟨_, rfl⟩
  have hc1 := cell_of_one HA.out
  have hz1 := frozen_of_row _ q 0 _ _ HA.out
  go_loopw [11] (fun iv wr => (iv = .int .i64 0 ∧ wr = w1) ∨ (iv = .int .i64 1 ∧ wr.cell? ⟨q, 0, none⟩ = some (.int .i64 (cellv bs (fr + d * 8))) ∧ Stk wr s p fr n d ov un ∧ Fr (fun j => j = s) w wr)) (fun iv _ => 1 - (intOf iv).toNat)
  case atStart => exact .inl ⟨rfl, rfl⟩
  case round =>
    rcases hrel with ⟨hiv, hwr⟩ | ⟨hiv, hcq, hst, hF⟩
    · subst hiv hwr
      go_wp2_with (go_at_call 341; refine HP.out.mono ?_; rintro e w2 ⟨rfl, hs2, hf2⟩; have hA2 := hf2.obj HA.out (by omega); have hc2 := cell_of_one hA2; have hz2 := frozen_of_row _ q 0 _ _ hA2; have HS2 := Lib.hid hs2; have HF2 := Lib.hid hf2; have HA2 := Lib.hid hA2; clear hs2 hf2 hA2 hc1 hz1)
      go_roundw
      case rel =>
        refine .inr ⟨rfl, ?_, ?_, ?_⟩
        · rw [cell_of_row _ q 0 _ _ _ (heap_setCell_same _ q 0 _ _ _ HA2.out)]
          rfl
        · exact HS2.out.fr ((Fr.refl (fun j => j = q) _).setOne 0 _) (by omega)
        · exact Fr.setCell ((HF.out.mono fun _ _ e => e.elim).trans HF2.out) (.inl (by have := HQ.out; show w.heap.size ≤ q; omega)) _
      case measure => simp [intOf]
    · subst hiv
      go_wp2_with fail
      go_ret
      exact ⟨rfl, hcq, hst, hF⟩
end Go.Proofs.YthkmbnkkohomeaaGreatDoor.Mem
