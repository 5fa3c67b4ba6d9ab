/- The statements of package iface: their example. -/
import Derived.Test.YtajeiccfgnpbpaaIfcC
import Derived.Test.YtajeiccfgnpbpaaCxm
import Derived.Test.YtajeiccfgnpbpaaClsG
import Derived.Deep.DrawnRows
namespace Go.Proofs.Ytajeiccfgnpbpaa.Mem
open Go.RowKit
attribute [local go_sem ↓] Go.wp_at_zero Go.wp_at_succ

/-- A world with one class, whose block and list stay. -/
structure Keep1 (w : World) (wb gA cA p b : Nat) (v4 : Value) (c : Int) : Prop where
  blk : w.heap[wb]? = some (.cells #[.pointer (some ⟨p, 0, none⟩), .pointer (some ⟨b, 0, none⟩), .int .i64 8, .slice (some ⟨gA, 0, none⟩) 1 cA, v4] 56 (0, 0))
  one : w.cell? ⟨gA, 0, none⟩ = some (.int .i64 c)
theorem Keep1.fr {S : Nat → Prop} {w w' : World} {wb gA cA p b : Nat} {v4 : Value} {c : Int} (h : Keep1 w wb gA cA p b v4 c) (f : Fr S w w') (h1 : ¬ S wb) (h2 : ¬ S gA) : Keep1 w' wb gA cA p b v4 c := ⟨f.obj h.blk h1, f.cell h.one h2⟩
theorem Keep1.cells {w : World} {wb gA cA p b : Nat} {v4 : Value} {c : Int} (h : Keep1 w wb gA cA p b v4 c) :
    w.cell? ⟨wb, 0, none⟩ = some (.pointer (some ⟨p, 0, none⟩)) ∧ w.cell? ⟨wb, 1, none⟩ = some (.pointer (some ⟨b, 0, none⟩)) ∧ w.cell? ⟨wb, 2, none⟩ = some (.int .i64 8) ∧ w.cell? ⟨wb, 3, none⟩ = some (.slice (some ⟨gA, 0, none⟩) 1 cA) ∧ w.cell? ⟨gA, 0, none⟩ = some (.int .i64 c) := by
  obtain ⟨h0, h1, h2, h3, _⟩ := five_cells h.blk
  exact ⟨h0, h1, h2, h3, h.one⟩

theorem iy_is : isIn cx1 8 128 = true := by decide +kernel
theorem iy_may : may cx1 16 1 = true := by decide +kernel
def iy2 : List UInt8 := putb cx1 16 ⟨1, 8, 128⟩
def iy3 : List UInt8 := (inewv 1024 168 iy2 [1, 2]).2.2
theorem iy_new : inewv 1024 168 iy2 [1, 2] = ((168, 0), 192, iy3) := by
  have h0 : (inewv 1024 168 iy2 [1, 2]).1 = (168, 0) := by decide +kernel
  have h1 : (inewv 1024 168 iy2 [1, 2]).2.1 = 192 := by decide +kernel
  unfold iy3
  obtain ⟨v, hv⟩ : ∃ v, inewv 1024 168 iy2 [1, 2] = v := ⟨_, rfl⟩
  rw [hv] at h0 h1 ⊢
  exact Prod.ext h0 (Prod.ext h1 rfl)
theorem iy_len : iy3.length = 1024 := by decide +kernel
theorem iy_n : cellv iy3 168 = 2 := by decide +kernel
theorem iy_cl : isCl iy3 128 = true := by decide +kernel
theorem iy_miss : missv iy3 128 (selsl iy3 168 2) = (2, -2050) := by decide +kernel

theorem ints_two (w : World) (S : Nat → Prop) (x y : Int) (t : TypeId) (hx : -9223372036854775808 ≤ x ∧ x ≤ 9223372036854775807) (hy : -9223372036854775808 ≤ y ∧ y ≤ 9223372036854775807) (hs : ¬ S w.heap.size) :
    Ints (w.alloc (.cells #[.int .i64 x, .int .i64 y] t)) S (.slice (some ⟨w.heap.size, 0, none⟩) 2 2) [x, y] := by
  refine ⟨_, _, rfl, fun n hn => ?_, .inr ⟨w.heap.size, 0, rfl, by simp, hs, fun j hj => ?_⟩⟩
  · simp only [List.mem_cons, List.not_mem_nil, or_false] at hn
    rcases hn with rfl | rfl
    · exact hx
    · exact hy
  · rw [cell_of_row _ _ _ _ _ _ (heap_alloc_last w _)]
    match j, hj with
    | 0, _ => rfl
    | 1, _ => rfl

set_option maxRecDepth 100000 in
set_option maxHeartbeats 4000000 in
theorem lives12_any (w : World) : Calls Try.prog 29 #[] w fun e w' => e = .returned (.bool true) ∧ Fr (fun _ => False) w w' := by
  go_enter Try.func29, Try.ntmps29
  go_wp2_with fail
  refine (wnew_ok 1024 w (by omega) (by omega) (by omega)).mono ?_
  rintro e w1 ⟨p, g, b, rfl, hp0, hg0, hb0, hs, hf⟩
  have S1 := Lib.hid (hs.fr ((Fr.refl (fun _ => False) w1).alloc (.cells #[.pointer (some ⟨p, 0, none⟩), .pointer (some ⟨b, 0, none⟩), .int .i64 8, .slice none 0 0, .slice none 0 0] 56)) id id id)
  have O1 := Lib.hid (heap_alloc_last w1 (.cells #[.pointer (some ⟨p, 0, none⟩), .pointer (some ⟨b, 0, none⟩), .int .i64 8, .slice none 0 0, .slice none 0 0] 56))
  have F1 := Lib.hid (hf.alloc (.cells #[.pointer (some ⟨p, 0, none⟩), .pointer (some ⟨b, 0, none⟩), .int .i64 8, .slice none 0 0, .slice none 0 0] 56))
  have LT := Lib.hid hs.lt
  have LW := Lib.hid hf.size
  clear hs hf
  go_wp2_with fail
  refine (wmake_first w1.heap.size p g b 1024 16 168 cx0 cx1 8 128 4 0 _ O1.out S1.out (by omega) (by have := LT.out; omega) (by omega) cx_new iy_is (by omega)).mono ?_
  rintro e w2 ⟨rfl, ⟨v4, gA, cA, _, hob, hgA, hcl⟩, hs, hf⟩
  have hgA' : w1.heap.size + 1 ≤ gA := by simpa using hgA
  have K2 := Lib.hid (Keep1.mk hob hcl)
  have S2 := Lib.hid hs
  have F2 := Lib.hid (F1.out.after hf (S := fun _ => False) (fun k hk e => by have := LW.out; omega))
  have LT2 := Lib.hid (show b < w1.heap.size ∧ p < w1.heap.size ∧ g < w1.heap.size from LT.out)
  have LB := Lib.hid (show w.heap.size ≤ g ∧ w.heap.size ≤ b from ⟨hg0, hb0⟩)
  obtain ⟨wb, hwb⟩ : ∃ wb, w1.heap.size = wb := ⟨_, rfl⟩
  rw [hwb] at K2 LT2 hgA' LW ⊢
  have HNW := Lib.hid (show ¬ wb = g ∧ ¬ wb = b by have := LT2.out; omega)
  have HNA := Lib.hid (show ¬ gA = g ∧ ¬ gA = b by have := LT2.out; omega)
  clear hob hgA hcl hs hf hwb hp0 hg0 hb0
  obtain ⟨q0, q1, q2, q3, q4⟩ := K2.out.cells
  have HST := Lib.hid (fun W h => set_one p g cx1 8 1 8 ⟨128, 0, 8, 16, 0⟩ W h cx_vis rfl rfl (by omega) iy_may)
  go_wp2_with fail
  go_region_held3 (fun W => W.cell? ⟨wb, 0, none⟩ = some (.pointer (some ⟨p, 0, none⟩)) ∧ W.cell? ⟨wb, 2, none⟩ = some (.int .i64 8) ∧ W.cell? ⟨wb, 3, none⟩ = some (.slice (some ⟨gA, 0, none⟩) 1 cA) ∧ W.cell? ⟨gA, 0, none⟩ = some (.int .i64 128) ∧ Fr (fun j => j = g) w2 W)
    ((go_split_ands; refine (fun hF => ⟨Fr.cell hF q0 HNW.out.1, Fr.cell hF q2 HNW.out.1, Fr.cell hF q3 HNW.out.1, Fr.cell hF q4 HNA.out.1, hF⟩ : Fr (fun j => j = g) w2 _ → _) ?_; repeat' first | exact Fr.refl _ _ | assumption | apply Fr.drew | apply Fr.alloc))
    (first | (go_at_call 35; go_split_ands; refine (HST.out _ (Mat.drew S2.out.mat)).mono ?_; rintro e w3 ⟨rfl, hm, hf⟩; have hf3 := Fr.undrew hf) | fail)
  have S3 := Lib.hid (show Sat w3 b p g 8 1024 168 iy2 from S2.out.wrote hf3 hm (putb_length _ _ _))
  have K3 := Lib.hid (K2.out.fr hf3 HNW.out.1 HNA.out.1)
  have F3 := Lib.hid (F2.out.after hf3 (S := fun _ => False) (fun k hk e => by have := LB.out; omega))
  clear hm hf hf3 q0 q1 q2 q3 q4
  obtain ⟨q0, q1, q2, q3, q4⟩ := K3.out.cells
  have hin := fun W v h hl => inew_any b p g 8 1024 168 iy2 v [1, 2] W h (by omega) hl (by simp)
  rw [iy_new] at hin
  have HIN := Lib.hid hin
  clear hin
  go_wp2_with fail
  refine (HIN.out _ _ (S3.out.fr ((Fr.refl (fun _ => False) w3).alloc _) id id id) (ints_two _ _ _ _ _ (by omega) (by omega) (by have := S3.out.lt; omega))).mono ?_
  rintro e w4 ⟨rfl, hs, hf⟩
  have hf4 : Both b g w3 w4 := Fr.trans ((Fr.refl (fun j => j = b ∨ j = g) w3).alloc _) hf
  have M4 := Lib.hid hs.mat
  have K4 := Lib.hid (K3.out.fr hf4 (by have := HNW.out; omega) (by have := HNA.out; omega))
  have F4 := Lib.hid (F3.out.after hf4 (S := fun _ => False) (fun k hk e => by have := LB.out; omega))
  clear hs hf hf4 q0 q1 q2 q3 q4
  obtain ⟨q0, q1, q2, q3, q4⟩ := K4.out.cells
  have hms := fun W h => missing_ok p g 168 2 128 iy3 W h (by omega) (by rw [iy_len]; omega) iy_n (by omega) (by omega) iy_cl
  rw [iy_miss] at hms
  have HMS := Lib.hid hms
  clear hms
  go_wp2_with fail
  go_region_held3 (fun W => W.cell? ⟨wb, 0, none⟩ = some (.pointer (some ⟨p, 0, none⟩)) ∧ W.cell? ⟨wb, 3, none⟩ = some (.slice (some ⟨gA, 0, none⟩) 1 cA) ∧ W.cell? ⟨gA, 0, none⟩ = some (.int .i64 128) ∧ Fr (fun _ => False) w4 W)
    ((go_split_ands; refine (fun hF => ⟨Fr.cell hF q0 id, Fr.cell hF q3 id, Fr.cell hF q4 id, hF⟩ : Fr (fun _ => False) w4 _ → _) ?_; repeat' first | exact Fr.refl _ _ | assumption | apply Fr.drew | apply Fr.alloc))
    (first | (go_at_call 33; go_split_ands; refine (HMS.out _ (Mat.drew M4.out)).mono ?_; rintro e w5 ⟨rfl, hf⟩; have hf5 := Fr.undrew hf) | fail)
  have F5 := Lib.hid (F4.out.trans hf5)
  clear hf hf5
  go_wp2_with fail
  go_ret
  exact ⟨rfl, F5.out⟩
end Go.Proofs.Ytajeiccfgnpbpaa.Mem
