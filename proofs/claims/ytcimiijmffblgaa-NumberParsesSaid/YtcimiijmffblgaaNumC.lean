/- Contracts of package number: numbers as texts (Unsigned, Show). -/
import Derived.Test.YtcimiijmffblgaaNumA
import Derived.Deep.DeepCutAuto
import Derived.Deep.LoopGhost
namespace Go.Proofs.Ytcimiijmffblgaa.Num
open Go.RowKit

set_option maxHeartbeats 400000 in
theorem digit_any (n : Int) (w : World) (h0 : 0 ≤ n) (h1 : n < 36) :
    Calls Try.prog 140 #[.int .u64 n] w fun e w' => e = .returned (.int .u8 (dch n)) ∧ w' = w := by
  by_cases h : n < 10
  all_goals
    go_enter Try.func140, Try.ntmps140
    go_wp2
    go_ret
    refine ⟨ret_int ?_, rfl⟩
    simp only [dch]
    split <;> omega

/-- A block of 64 bytes whose last ones are these. -/
def Tail (w : World) (g a : Nat) (acc : List UInt8) : Prop :=
  ∃ row : Array Value, w.heap[g]? = some (.cells row 222 (0, 0)) ∧ row.size = 64 ∧ ∀ i, i < acc.length → row[a + i]? = some (.int .u8 ((acc.getD i 0).toNat : Int))

theorem tail_start (w : World) (row : Array Value) (h : row.size = 64) : Tail (w.alloc (.cells row 222)) w.heap.size 64 [] :=
  ⟨row, heap_alloc_new w _, h, fun i hi => absurd hi (Nat.not_lt_zero i)⟩

theorem len64 : Try.prog.arrayLen 222 = 64 := by kernel_rfl
theorem size64 (w : World) : (sizeOf (Try.prog.elem 222)).run Try.prog w = .ok 1 w := by kernel_rfl
theorem und64 : Try.prog.underlying 222 = some (.array (Try.prog.arrayLen 222) (Try.prog.elem 222)) := by kernel_rfl

/-- The last bytes of an array of 64. -/
theorem slice64 (g a : Nat) (h : a < 64) (w : World) : (Instr.sliceAt 222 (.pointer (some ⟨g, 0, none⟩)) (some (.int .i64 a)) none none).run Try.prog w =
    .ok (.slice (some ⟨g, a, none⟩) (64 - a) (64 - a)) w := by
  rw [run_sliceAt_array_l w _ _ und64 .i64 a (by omega) (by rw [len64]; omega), size64, len64]
  simp only [Result.andThen, slicedAt, Addr.add, Int.toNat_natCast, Nat.mul_one, Nat.zero_add]
  rw [if_neg (by omega)]
  cases a <;> rfl

theorem tail_store {w : World} {g a : Nat} {acc : List UInt8} (h : Tail w g (a + 1) acc) (ha : a < 64) (x : Int) (hx : 0 ≤ x ∧ x < 256) :
    Tail (w.setCell ⟨g, a, none⟩ (.int .u8 x)) g a (UInt8.ofNat x.toNat :: acc) := by
  obtain ⟨row, hrow, hsz, hacc⟩ := h
  refine ⟨row.setIfInBounds a (.int .u8 x), heap_setCell_same w g a row _ _ hrow, by simpa using hsz, fun i hi => ?_⟩
  rw [Array.getElem?_setIfInBounds]
  cases i with
  | zero =>
    rw [if_pos (by simp), if_pos (by omega)]
    simp
    omega
  | succ i =>
    rw [if_neg (by omega)]
    have := hacc i (by simpa using hi)
    rw [show a + (i + 1) = a + 1 + i by omega, this]
    simp

theorem tail_string {w : World} {g a : Nat} {acc : List UInt8} (h : Tail w g a acc) (ha : a + acc.length = 64) :
    (convert 56 9 (.slice (some ⟨g, a, none⟩) (64 - a) (64 - a))).run Try.prog w = .ok (.string ⟨acc.toArray⟩) w := by
  obtain ⟨row, hrow, hsz, hacc⟩ := h
  rw [run_convert_bytes_arg (P := Try.prog) w 56 5 (by kernel_rfl) (by kernel_rfl) g a (64 - a) (64 - a) (acc.map fun c => (c.toNat : Int)) (by simp; omega) (fun i hi => by
    rw [cell_of_row w _ _ _ _ _ hrow, hacc i (by omega)]
    have hi' : i < acc.length := by omega
    simp [List.getD, hi']) 9 (by kernel_rfl)]
  congr 2
  simp [strOfNums, Function.comp_def]

set_option maxRecDepth 100000 in
set_option maxHeartbeats 400000 in
theorem unsigned_any (n b : Nat) (w : World) (hb : 2 ≤ b) (hb2 : b ≤ 36) (hn : n < 2 ^ 64) :
    Calls Try.prog 117 #[.int .u64 n, .int .i64 b] w fun e w' => e = .returned (.string ⟨(udig b n).toArray⟩) ∧ Below w.heap.size w w' := by
  have hr : right b = true := by simp [right]; omega
  have HR := Lib.hid (fun w => right_any b w)
  rw [hr] at HR
  clear hr
  have HN := Lib.hid hn
  clear hn
  go_enter Try.func117, Try.ntmps117
  go_wp2_with (go_at_call 116; refine (HR.out _).mono ?_; rintro e w' ⟨rfl, rfl⟩)
  go_loopw [0, 6] (fun nv at' wr => ∃ (m a : Nat) (acc : List UInt8), nv = .int .u64 m ∧ at' = .int .i64 ((a : Int) + 1) ∧ m < 2 ^ (a + 1) ∧ a + 1 + acc.length = 64 ∧ udig b n = udig b m ++ acc ∧
      Tail wr w'.heap.size (a + 1) acc ∧ Below w'.heap.size w' wr) (fun _ at' _ => (intOf at').toNat)
  case atStart => exact ⟨n, 63, [], rfl, rfl, HN.out, rfl, by simp, tail_start _ _ rfl, (Below.refl _ _).alloc (Nat.le_refl _) _⟩
  case round =>
    obtain ⟨m, a, acc, rfl, rfl, hm, ha, hu, ht, hbel⟩ := hrel
    have ha' : a < 64 := by omega
    have hsl := slice64 w'.heap.size a ha'
    have hm0 : 0 ≤ (m : Int) % b := Int.emod_nonneg _ (by omega)
    have hm1 : (m : Int) % b < 36 := by have := Int.emod_lt_of_pos (m : Int) (show (0 : Int) < b by omega); omega
    have hd := dch_bd hm0 hm1
    have HT := Lib.hid (tail_store ht ha' (dch ((m : Int) % b)) ⟨by omega, by omega⟩)
    have HV := Lib.hid (tail_string HT.out (by simp; omega))
    have hcv := HV.out
    obtain ⟨row, hrow, hsz, hacc⟩ := ht
    have hc : wr.cell? ⟨w'.heap.size, a, none⟩ = some (row[a]'(by omega)) := by rw [cell_of_row wr _ _ _ _ _ hrow]; simp [hsz, ha']
    have hf : wr.frozen? ⟨w'.heap.size, a, none⟩ = false := frozen_of_row wr _ _ _ _ hrow
    generalize (row[a]'(by omega)) = old at hc
    have HM := Lib.hid hm
    have HA := Lib.hid ha
    have HU := Lib.hid hu
    clear hm ha hu hsz hrow hacc HV
    have HB := Lib.hid (hbel.setCell (p := ⟨w'.heap.size, a, none⟩) (Nat.le_refl _) (.int .u8 (dch ((m : Int) % b))))
    have HW := Lib.hid (wrap_quo (b := b) HM.out ha')
    by_cases hz : m / b = 0
    · have hz' : (IntKind.u64.wrap ((m : Int) / b) == 0) = true := by rw [HW.out, hz]; rfl
      have HL := Lib.hid (udig_last hb hz)
      clear hz
      go_wp2_with (go_at_call 140; refine (digit_any _ _ hm0 hm1).mono ?_; rintro e w1 ⟨rfl, rfl⟩)
      go_ret
      refine ⟨?_, HB.out⟩
      rw [HU.out, HL.out]
      rfl
    · have hz' : (IntKind.u64.wrap ((m : Int) / b) == 0) = false := by rw [HW.out, beq_eq_false_iff_ne]; omega
      have HL := Lib.hid (udig_more hb hz)
      have HP := Lib.hid (pow_half hb HM.out)
      have HZ := Lib.hid hz
      clear hz
      go_wp2_with (go_at_call 140; refine (digit_any _ _ hm0 hm1).mono ?_; rintro e w1 ⟨rfl, rfl⟩)
      go_roundw
      case rel =>
        obtain ⟨a', ha1⟩ : ∃ a', a = a' + 1 := by
          cases a with
          | zero => exact absurd (Nat.lt_one_iff.1 HP.out) HZ.out
          | succ a' => exact ⟨a', rfl⟩
        have hP := HP.out
        have hT := HT.out
        have hA := HA.out
        subst ha1
        exact ⟨m / b, a', _, congrArg (Value.int .u64) HW.out, by go_num, hP, by simp; omega, by rw [HU.out, HL.out, List.append_assoc]; rfl, hT, HB.out⟩
      case measure => simp [intOf]
set_option maxHeartbeats 400000 in
theorem unsigned_bad (n b : Int) (w : World) (hr : right b = false) :
    Calls Try.prog 117 #[.int .u64 n, .int .i64 b] w fun e w' => e = .returned (.string ByteArray.empty) ∧ w' = w := by
  have HR := Lib.hid (fun w => right_any b w)
  rw [hr] at HR
  go_enter Try.func117, Try.ntmps117
  go_wp2_with (go_at_call 116; refine (HR.out _).mono ?_; rintro e w' ⟨rfl, rfl⟩)
  go_ret
  exact ⟨rfl, rfl⟩

set_option maxHeartbeats 400000 in
theorem show_pos (n b : Nat) (w : World) (hb : 2 ≤ b) (hb2 : b ≤ 36) (hn : n ≤ 9223372036854775807) :
    Calls Try.prog 61 #[.int .i64 n, .int .i64 b] w fun e w' => e = .returned (.string ⟨(udig b n).toArray⟩) ∧ Below w.heap.size w w' := by
  have h64 : n < 2 ^ 64 := by omega
  have HN := Lib.hid h64
  have hn0 : 0 ≤ (n : Int) := by omega
  clear h64
  go_enter Try.func61, Try.ntmps61
  go_wp2_with (go_at_call 117; refine (unsigned_any _ _ _ hb hb2 HN.out).mono ?_; rintro e w' ⟨rfl, hb1⟩)
  go_ret
  exact ⟨rfl, hb1⟩

end Go.Proofs.Ytcimiijmffblgaa.Num
