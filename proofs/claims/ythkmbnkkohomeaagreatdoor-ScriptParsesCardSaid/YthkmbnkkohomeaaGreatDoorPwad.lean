/- Several texts in one: RfG, EqA. -/
import Derived.Test.YthkmbnkkohomeaaGreatDoorPwac
import Derived.ChangeKeysEq
import Derived.DeepKeys
set_option linter.unusedSimpArgs false
set_option linter.unusedVariables false
/- shedlaw22.of. -/
namespace Go.Proofs.YthkmbnkkohomeaaGreatDoor.Mem
open Go.RowKit Go.Maps

def OfPost (s : Scr) (w : World) (e : Ending) (w' : World) : Prop := e = .returned (.agg s.row22) ∧ Fr (fun _ => False) w w'

set_option maxRecDepth 100000 in
set_option maxHeartbeats 4000000 in
theorem of_ok (s : Scr) (w : World) : Calls Tryz.prog 8 #[.agg s.row] w fun e w' => OfPost s w e w' := by
  obtain ⟨di, da, re, he, sl, tx, inn, fu⟩ := s
  have hA := heap_alloc_last w (.cells #[.int .i64 di, .int .i64 da, .int .i64 re, .int .i64 he, .int .i64 sl, .string tx, .string inn, .int .i64 fu] 26)
  have fA := (Fr.refl (fun _ => False) w).alloc (.cells #[.int .i64 di, .int .i64 da, .int .i64 re, .int .i64 he, .int .i64 sl, .string tx, .string inn, .int .i64 fu] 26)
  have zA : (w.alloc (.cells #[.int .i64 di, .int .i64 da, .int .i64 re, .int .i64 he, .int .i64 sl, .string tx, .string inn, .int .i64 fu] 26)).heap.size = w.heap.size + 1 := by simp
  obtain ⟨w1, hw1⟩ : ∃ W, w.alloc (.cells #[.int .i64 di, .int .i64 da, .int .i64 re, .int .i64 he, .int .i64 sl, .string tx, .string inn, .int .i64 fu] 26) = W := ⟨_, rfl⟩
  rw [hw1] at hA fA zA
  have hB := heap_alloc_last w1 (.cells #[.int .i64 0, .int .i64 0, .int .i64 0, .int .i64 0, .int .i64 0, .int .i64 0, .string ⟨#[]⟩, .string ⟨#[]⟩] 31)
  have fB := (Fr.refl (fun _ => False) w1).alloc (.cells #[.int .i64 0, .int .i64 0, .int .i64 0, .int .i64 0, .int .i64 0, .int .i64 0, .string ⟨#[]⟩, .string ⟨#[]⟩] 31)
  have zB : (w1.alloc (.cells #[.int .i64 0, .int .i64 0, .int .i64 0, .int .i64 0, .int .i64 0, .int .i64 0, .string ⟨#[]⟩, .string ⟨#[]⟩] 31)).heap.size = w1.heap.size + 1 := by simp
  obtain ⟨w2, hw2⟩ : ∃ W, w1.alloc (.cells #[.int .i64 0, .int .i64 0, .int .i64 0, .int .i64 0, .int .i64 0, .int .i64 0, .string ⟨#[]⟩, .string ⟨#[]⟩] 31) = W := ⟨_, rfl⟩
  rw [hw2] at hB fB zB
  obtain ⟨cb, hcb⟩ : ∃ b, w.heap.size = b := ⟨_, rfl⟩
  rw [hcb] at hA zA
  rw [zA] at hB zB
  obtain ⟨rb, hrb⟩ : ∃ b, cb + 1 = b := ⟨_, rfl⟩
  rw [hrb] at hB zB zA
  have hA2 := fB.obj hA id
  have c0 : w2.cell? ⟨cb, 0, none⟩ = some (.int .i64 di) := cell_of_row w2 cb 0 _ _ _ hA2
  have c1 : w2.cell? ⟨cb, 1, none⟩ = some (.int .i64 da) := cell_of_row w2 cb 1 _ _ _ hA2
  have c2 : w2.cell? ⟨cb, 2, none⟩ = some (.int .i64 re) := cell_of_row w2 cb 2 _ _ _ hA2
  have c3 : w2.cell? ⟨cb, 3, none⟩ = some (.int .i64 he) := cell_of_row w2 cb 3 _ _ _ hA2
  have c4 : w2.cell? ⟨cb, 4, none⟩ = some (.int .i64 sl) := cell_of_row w2 cb 4 _ _ _ hA2
  have hC := heap_alloc_last w2 (.cells #[.int .i64 di, .int .i64 da, .int .i64 re, .int .i64 he, .int .i64 sl] 24)
  have fC := (Fr.refl (fun _ => False) w2).alloc (.cells #[.int .i64 di, .int .i64 da, .int .i64 re, .int .i64 he, .int .i64 sl] 24)
  obtain ⟨w3, hw3⟩ : ∃ W, w2.alloc (.cells #[.int .i64 di, .int .i64 da, .int .i64 re, .int .i64 he, .int .i64 sl] 24) = W := ⟨_, rfl⟩
  rw [hw3] at hC fC
  rw [zB] at hC
  obtain ⟨fb, hfb⟩ : ∃ b, rb + 1 = b := ⟨_, rfl⟩
  rw [hfb] at hC zB
  have hA3 := fC.obj hA2 id
  have hB3 := fC.obj hB id
  have d0 : w3.cell? ⟨fb, 0, none⟩ = some (.int .i64 di) := cell_of_row w3 fb 0 _ _ _ hC
  have d1 : w3.cell? ⟨fb, 1, none⟩ = some (.int .i64 da) := cell_of_row w3 fb 1 _ _ _ hC
  have d2 : w3.cell? ⟨fb, 2, none⟩ = some (.int .i64 re) := cell_of_row w3 fb 2 _ _ _ hC
  have d3 : w3.cell? ⟨fb, 3, none⟩ = some (.int .i64 he) := cell_of_row w3 fb 3 _ _ _ hC
  have d4 : w3.cell? ⟨fb, 4, none⟩ = some (.int .i64 sl) := cell_of_row w3 fb 4 _ _ _ hC
  have a5 : w3.cell? ⟨cb, 5, none⟩ = some (.string tx) := cell_of_row w3 cb 5 _ _ _ hA3
  have a6 : w3.cell? ⟨cb, 6, none⟩ = some (.string inn) := cell_of_row w3 cb 6 _ _ _ hA3
  have a7 : w3.cell? ⟨cb, 7, none⟩ = some (.int .i64 fu) := cell_of_row w3 cb 7 _ _ _ hA3
  have r0 : w3.cell? ⟨rb, 0, none⟩ = some (.int .i64 0) := cell_of_row w3 rb 0 _ _ _ hB3
  have r1 : w3.cell? ⟨rb, 1, none⟩ = some (.int .i64 0) := cell_of_row w3 rb 1 _ _ _ hB3
  have r2 : w3.cell? ⟨rb, 2, none⟩ = some (.int .i64 0) := cell_of_row w3 rb 2 _ _ _ hB3
  have r3 : w3.cell? ⟨rb, 3, none⟩ = some (.int .i64 0) := cell_of_row w3 rb 3 _ _ _ hB3
  have r4 : w3.cell? ⟨rb, 4, none⟩ = some (.int .i64 0) := cell_of_row w3 rb 4 _ _ _ hB3
  have r5 : w3.cell? ⟨rb, 5, none⟩ = some (.int .i64 0) := cell_of_row w3 rb 5 _ _ _ hB3
  have r6 : w3.cell? ⟨rb, 6, none⟩ = some (.string ⟨#[]⟩) := cell_of_row w3 rb 6 _ _ _ hB3
  have r7 : w3.cell? ⟨rb, 7, none⟩ = some (.string ⟨#[]⟩) := cell_of_row w3 rb 7 _ _ _ hB3
  have y0 := frozen_of_row w3 rb 0 _ _ hB3
  have y1 := frozen_of_row w3 rb 1 _ _ hB3
  have y2 := frozen_of_row w3 rb 2 _ _ hB3
  have y3 := frozen_of_row w3 rb 3 _ _ hB3
  have y4 := frozen_of_row w3 rb 4 _ _ hB3
  have y5 := frozen_of_row w3 rb 5 _ _ hB3
  have y6 := frozen_of_row w3 rb 6 _ _ hB3
  have y7 := frozen_of_row w3 rb 7 _ _ hB3
  have HE := Lib.hid (eight_set hB3 (.int .i64 di) (.int .i64 da) (.int .i64 re) (.int .i64 he) (.int .i64 sl) (.int .i64 fu) (.string inn) (.string tx))
  have HFE := Lib.hid (((fA.trans fB).trans fC).after (Fr.set8s (p := rb) (Fr.refl _ w3) (x0 := .int .i64 di) (x1 := .int .i64 da) (x2 := .int .i64 re) (x3 := .int .i64 he) (x4 := .int .i64 sl) (x5 := .int .i64 fu) (x6 := .string inn) (x7 := .string tx)) (fun k hk e => absurd (show k = rb from e) (by omega)))
  clear hA hB hC fA fB fC hA2 hA3 hB3
  unfold Scr.row
  go_enter Tryz.func8, Tryz.ntmps8
  go_wp2_with fail
  refine bodyPost_ret (results_cell0 rfl _ _ rb 31 _ (0, 0) _ rfl HE.out Tryz.underlying31 rfl (by kernel_rfl)) rfl ?_
  exact ⟨rfl, HFE.out⟩
end Go.Proofs.YthkmbnkkohomeaaGreatDoor.Mem

/- Two scripts of the document that are alike are equal. -/
namespace Go.Proofs.YthkmbnkkohomeaaGreatDoor.Mem
open Go.RowKit

theorem uN : Tryz.prog.underlying 29 = some (.array 6 2) := Tryz.underlying29
theorem eq_int (w : World) (d : Nat) (n : Int) : (Op.equalIn (d + 1) 2 (.int .i64 n) (.int .i64 n)).run Tryz.prog w = .ok true w := by
  simp [Op.equalIn, run_underlying Tryz.underlying2]
theorem ba_beq (s : ByteArray) : (s == s) = true := by
  show (s.data == s.data) = true
  simp
theorem eq_str (w : World) (d : Nat) (s : ByteArray) : (Op.equalIn (d + 1) 9 (.string s) (.string s)).run Tryz.prog w = .ok true w := by
  simp [Op.equalIn, run_underlying Tryz.underlying9, ba_beq s]
theorem part_at (w : World) (cs : Array Value) (j c : Nat) (v : Value) (hc : c = 1) (h : cs[j]? = some v) : (part 2 cs (j * c)).run Tryz.prog w = .ok v w := by
  subst hc
  simp [part, Tryz.isAgg2, h]
theorem items_cons (w : World) (d j c : Nat) (cs : Array Value) (n : Int) (is : List Nat) (hc : c = 1) (h : cs[j]? = some (.int .i64 n)) :
    (Op.eqItems (d + 1) 2 c cs cs (j :: is)).run Tryz.prog w = (Op.eqItems (d + 1) 2 c cs cs is).run Tryz.prog w := by
  simp only [Op.eqItems, Sem.run_bind]
  rw [part_at w cs j c _ hc h]
  simp only [Result.andThen_ok]
  rw [part_at w cs j c _ hc h]
  simp only [Result.andThen_ok]
  rw [eq_int]
  simp
theorem eq_arr (w : World) (d : Nat) (a0 a1 a2 a3 a4 a5 : Int) : (Op.equalIn (d + 2) 29 (.agg #[.int .i64 a0, .int .i64 a1, .int .i64 a2, .int .i64 a3, .int .i64 a4, .int .i64 a5]) (.agg #[.int .i64 a0, .int .i64 a1, .int .i64 a2, .int .i64 a3, .int .i64 a4, .int .i64 a5])).run Tryz.prog w = .ok true w := by
  have hc : Tryz.prog.cellsOf 2 = 1 := by kernel_rfl
  obtain ⟨i, hi⟩ : ∃ i, Tryz.prog.info? 2 = some i := Option.isSome_iff_exists.1 (by kernel_rfl)
  rw [run_equalIn_array w (d + 1) _ _ uN hi]
  show (Op.eqItems (d + 1) 2 _ _ _ [0, 1, 2, 3, 4, 5]).run _ w = _
  rw [items_cons w d 0 _ _ a0 _ hc rfl, items_cons w d 1 _ _ a1 _ hc rfl, items_cons w d 2 _ _ a2 _ hc rfl, items_cons w d 3 _ _ a3 _ hc rfl, items_cons w d 4 _ _ a4 _ hc rfl, items_cons w d 5 _ _ a5 _ hc rfl]
  simp [Op.eqItems]
theorem part_arr (w : World) (a0 a1 a2 a3 a4 a5 : Int) (s t : ByteArray) : (part 29 #[.int .i64 a0, .int .i64 a1, .int .i64 a2, .int .i64 a3, .int .i64 a4, .int .i64 a5, .string s, .string t] 0).run Tryz.prog w = .ok (.agg #[.int .i64 a0, .int .i64 a1, .int .i64 a2, .int .i64 a3, .int .i64 a4, .int .i64 a5]) w := by
  simp [part, Tryz.isAgg29, Tryz.sizeOf29]
theorem part_str (w : World) (cs : Array Value) (j : Nat) (v : Value) (h : cs[j]? = some v) : (part 9 cs j).run Tryz.prog w = .ok v w := by
  simp [part, Tryz.isAgg9, h]
theorem eql22_in (a0 a1 a2 a3 a4 a5 : Int) (s t : ByteArray) (w : World) (d : Nat) : (Op.equalIn (d + 3) 31 (.agg #[.int .i64 a0, .int .i64 a1, .int .i64 a2, .int .i64 a3, .int .i64 a4, .int .i64 a5, .string s, .string t]) (.agg #[.int .i64 a0, .int .i64 a1, .int .i64 a2, .int .i64 a3, .int .i64 a4, .int .i64 a5, .string s, .string t])).run Tryz.prog w = .ok true w := by
  have hsi : Tryz.prog.stoodInHeld 31 = false := by kernel_rfl
  have p0 := part_arr w a0 a1 a2 a3 a4 a5 s t
  have p1 := part_str w #[.int .i64 a0, .int .i64 a1, .int .i64 a2, .int .i64 a3, .int .i64 a4, .int .i64 a5, .string s, .string t] 6 _ rfl
  have p2 := part_str w #[.int .i64 a0, .int .i64 a1, .int .i64 a2, .int .i64 a3, .int .i64 a4, .int .i64 a5, .string s, .string t] 7 _ rfl
  have q0 := eq_arr w d a0 a1 a2 a3 a4 a5
  have q1 := eq_str w (d + 1) s
  have q2 := eq_str w (d + 1) t
  rw [Op.equalIn]
  simp only [Sem.run_bind, run_underlying Tryz.underlying31, Result.andThen_ok]
  simp [hsi, p0, p1, p2, q0, q1, q2]
theorem eql22 (a0 a1 a2 a3 a4 a5 : Int) (s t : ByteArray) (w : World) : (binOp .eql 31 (.agg #[.int .i64 a0, .int .i64 a1, .int .i64 a2, .int .i64 a3, .int .i64 a4, .int .i64 a5, .string s, .string t]) (.agg #[.int .i64 a0, .int .i64 a1, .int .i64 a2, .int .i64 a3, .int .i64 a4, .int .i64 a5, .string s, .string t])).run Tryz.prog w = .ok (.bool true) w := by
  have h := eql22_in a0 a1 a2 a3 a4 a5 s t w 9997
  generalize (#[.int .i64 a0, .int .i64 a1, .int .i64 a2, .int .i64 a3, .int .i64 a4, .int .i64 a5, .string s, .string t] : Array Value) = x at h ⊢
  simp only [binOp]
  simp [Op.equal, Op.maxDepth, h]
end Go.Proofs.YthkmbnkkohomeaaGreatDoor.Mem
