/- The statement ObjectNone: its example. -/
import Derived.Test.YtajeiccfgnpbpaaClsG
import Derived.Test.YtajeiccfgnpbpaaHeapB
namespace Go.Proofs.Ytajeiccfgnpbpaa.Mem
open Go.RowKit

set_option maxRecDepth 100000 in
set_option maxHeartbeats 2000000 in
/-- An object of 16 bytes in a heap of one unused block. -/
theorem oheap_512 (hb p g : Nat) (bs : List UInt8) (c : Int) (w : World) (h : Mat 108 w p g bs) (hh : Heap w hb p 512 1024) (hc : cell bs 512 = (512, 0)) (hg : hb ≠ g)
    (hcb : -9223372036854775808 ≤ c ∧ c ≤ 9223372036854775807) (hs : sizev bs c = (16, 0)) (ho : (olay (setc (setc bs 512 25) 536 488) 520 c 16).1 = 0) :
    Calls Try.prog 40 #[.pointer (some ⟨hb, 0, none⟩), .pointer (some ⟨p, 0, none⟩), .int .i64 c] w
      fun e w' => e = .returned (.tuple #[.int .i64 520, .int .i64 0]) ∧ Mat 108 w' p g (olay (setc (setc bs 512 25) 536 488) 520 c 16).2 ∧ Only g w w' := by
  have hz := sizeOf_any p g bs c w h hcb
  rw [hs] at hz
  have HZ := Lib.hid hz
  have HA := Lib.hid (fun w h hh => halloc_512 hb p g bs w h hh hc hg)
  have hl := fun w h => olay_any p g (setc (setc bs 512 25) 536 488) 520 c 16 w h (by omega)
  rw [ho] at hl
  have HL := Lib.hid hl
  have H := Lib.hid h
  have HH := Lib.hid hh
  clear h hh hc hz hs hl ho
  go_enter Try.func40, Try.ntmps40
  go_wp2_with fail
  refine HZ.out.mono ?_
  rintro e w1 ⟨rfl, hf⟩
  have F1 := Lib.hid hf
  clear hf
  go_wp2_with fail
  refine (HA.out _ (H.out.fr F1.out id id) (F1.out.obj HH.out id)).mono ?_
  rintro e w2 ⟨rfl, hm, hf⟩
  have M2 := Lib.hid hm
  have F2 := Lib.hid ((Fr.some F1.out fun _ e => e.elim).trans hf)
  clear hm hf
  go_wp2_with fail
  refine (HL.out _ M2.out).mono ?_
  rintro e w3 ⟨rfl, hm, hf⟩
  have M3 := Lib.hid hm
  have F3 := Lib.hid (F2.out.trans hf)
  clear hm hf
  go_wp2_with fail
  go_ret2
  exact ⟨rfl, M3.out, F3.out⟩

/-- The example's bytes, stage by stage. -/
def ex0 : List UInt8 := setv (List.replicate 1024 0) 8 0
def ex1 : List UInt8 := (cnewv 1024 16 ex0 8 0 4).2.2
theorem ex_new : cnewv 1024 16 ex0 8 0 4 = ((128, 0), 168, ex1) := by
  have h0 : (cnewv 1024 16 ex0 8 0 4).1 = (128, 0) := by decide +kernel
  have h1 : (cnewv 1024 16 ex0 8 0 4).2.1 = 168 := by decide +kernel
  unfold ex1
  obtain ⟨v, hv⟩ : ∃ v, cnewv 1024 16 ex0 8 0 4 = v := ⟨_, rfl⟩
  rw [hv] at h0 h1 ⊢
  exact Prod.ext h0 (Prod.ext h1 rfl)
theorem ex_is : isIn ex1 8 128 = true := by decide +kernel
def ex2 : List UInt8 := setc ex1 512 512
theorem ex2_cl : isCl ex2 128 = true := by decide +kernel
theorem ex2_size : (clv ex2 128).size = 8 := by decide +kernel
def ex3 : List UInt8 := setc ex2 (128 + 16) ((8 + 8 + 8 - 1) / 8 * 8)
theorem ex3_512 : cell ex3 512 = (512, 0) := by decide +kernel
theorem ex3_size : sizev ex3 128 = (16, 0) := by decide +kernel
theorem ex3_lay : (olay (setc (setc ex3 512 25) 536 488) 520 128 16).1 = 0 := by decide +kernel
def ex4 : List UInt8 := (olay (setc (setc ex3 512 25) 536 488) 520 128 16).2
theorem ex4_528 : cell ex4 528 = (0, 0) := by decide +kernel
theorem ex4_cls : ocls ex4 8 520 = (128, 0) := by decide +kernel
theorem ex1_length : ex1.length = 1024 := by decide +kernel

/-- The example's heap stays apart from what else is read. -/
structure Keeps (w : World) (wb gA cA p b : Nat) (v4 : Value) (c : Int) : Prop where
  blk : w.heap[wb]? = some (.cells #[.pointer (some ⟨p, 0, none⟩), .pointer (some ⟨b, 0, none⟩), .int .i64 8, .slice (some ⟨gA, 0, none⟩) 1 cA, v4] 56 (0, 0))
  one : w.cell? ⟨gA, 0, none⟩ = some (.int .i64 c)
theorem Keeps.fr {S : Nat → Prop} {w w' : World} {wb gA cA p b : Nat} {v4 : Value} {c : Int} (h : Keeps w wb gA cA p b v4 c) (f : Fr S w w') (h1 : ¬ S wb) (h2 : ¬ S gA) : Keeps w' wb gA cA p b v4 c := ⟨f.obj h.blk h1, f.cell h.one h2⟩
theorem Keeps.cells {w : World} {wb gA cA p b : Nat} {v4 : Value} {c : Int} (h : Keeps w wb gA cA p b v4 c) :
    w.cell? ⟨wb, 0, none⟩ = some (.pointer (some ⟨p, 0, none⟩)) ∧ w.cell? ⟨wb, 1, none⟩ = some (.pointer (some ⟨b, 0, none⟩)) ∧ w.cell? ⟨wb, 2, none⟩ = some (.int .i64 8) ∧ w.cell? ⟨wb, 3, none⟩ = some (.slice (some ⟨gA, 0, none⟩) 1 cA) ∧ w.cell? ⟨gA, 0, none⟩ = some (.int .i64 c) := by
  obtain ⟨h0, h1, h2, h3, _⟩ := five_cells h.blk
  exact ⟨h0, h1, h2, h3, h.one⟩

set_option maxRecDepth 100000 in
set_option maxHeartbeats 4000000 in
theorem lives13_any (w : World) : Calls Try.prog 37 #[] w fun e w' => e = .returned (.bool true) ∧ Fr (fun _ => False) w w' := by
  go_enter Try.func37, Try.ntmps37
  go_wp2_with fail
  refine (wnew_ok 1024 w (by omega) (by omega) (by omega)).mono ?_
  rintro e w1 ⟨p, g, b, rfl, hp0, hg0, hb0, hs, hf⟩
  have S1 := Lib.hid (hs.fr ((Fr.refl (fun _ => False) w1).alloc (.cells #[.pointer (some ⟨p, 0, none⟩), .pointer (some ⟨b, 0, none⟩), .int .i64 8, .slice none 0 0, .slice none 0 0] 56)) id id id)
  have O1 := Lib.hid (heap_alloc_last w1 (.cells #[.pointer (some ⟨p, 0, none⟩), .pointer (some ⟨b, 0, none⟩), .int .i64 8, .slice none 0 0, .slice none 0 0] 56))
  have F1 := Lib.hid (hf.alloc (.cells #[.pointer (some ⟨p, 0, none⟩), .pointer (some ⟨b, 0, none⟩), .int .i64 8, .slice none 0 0, .slice none 0 0] 56))
  have LT := Lib.hid hs.lt
  have LW := Lib.hid hf.size
  clear hs hf
  go_wp2_with fail
  refine (wmake_first w1.heap.size p g b 1024 16 168 ex0 ex1 8 128 4 0 _ O1.out S1.out (by omega) (by have := LT.out; omega) (by omega) ex_new ex_is (by omega)).mono ?_
  rintro e w2 ⟨rfl, ⟨v4, gA, cA, _, hob, hgA, hcl⟩, hs, hf⟩
  have hgA' : w1.heap.size + 1 ≤ gA := by simpa using hgA
  have K2 := Lib.hid (Keeps.mk hob hcl)
  have S2 := Lib.hid hs
  have F2 := Lib.hid (F1.out.after hf (S := fun _ => False) (fun k hk e => by have := LW.out; omega))
  have LT2 := Lib.hid (show b < w1.heap.size ∧ p < w1.heap.size ∧ g < w1.heap.size from LT.out)
  obtain ⟨wb, hwb⟩ : ∃ wb, w1.heap.size = wb := ⟨_, rfl⟩
  rw [hwb] at K2 LT2 hgA' LW ⊢
  have L2 := Lib.hid (lt_of_block K2.out.blk)
  clear hob hgA hcl hs hf hwb
  go_wp2_with fail
  refine (new_ok 1024 _ (by omega) (by omega)).mono ?_
  rintro e w3 ⟨rfl, hm, hf⟩
  have K3 := Lib.hid (K2.out.fr hf id id)
  have S3 := Lib.hid (S2.out.fr hf id id id)
  have F3 := Lib.hid (F2.out.trans hf)
  have L3 := Lib.hid hf.size
  obtain ⟨q0, q1, q2, q3, q4⟩ := K3.out.cells
  clear hm hf
  go_wp2_with fail
  refine (hnew_512 p g ex1 _ S3.out.mat ex1_length).mono ?_
  rintro e w4 ⟨rfl, hh, hm, hf⟩
  have K4 := Lib.hid (K3.out.fr hf (by have := LT2.out; omega) (by have := LT2.out; omega))
  have H4 := Lib.hid hh
  have M4 := Lib.hid (show Mat 108 w4 p g ex2 from hm)
  have F4 := Lib.hid (F3.out.after hf (S := fun _ => False) (fun k hk e => by omega))
  have HG := Lib.hid (show w3.heap.size ≠ g by have := S3.out.lt; omega)
  obtain ⟨hb, hhb⟩ : ∃ hb, w3.heap.size = hb := ⟨_, rfl⟩
  rw [hhb] at H4 HG ⊢
  obtain ⟨q0, q1, q2, q3, q4⟩ := K4.out.cells
  clear hh hm hf hhb
  have HNW := Lib.hid (show ¬ wb = g by have := LT2.out; omega)
  have HNA := Lib.hid (show ¬ gA = g by have := LT2.out; omega)
  have hgr := fun W h => cgrow_ok p g ex2 128 8 W h ex2_cl (by omega) (by rw [ex2_size]; omega)
  rw [ex2_size] at hgr
  have HGR := Lib.hid (show ∀ W, Mat 108 W p g ex2 → Calls Try.prog 39 #[.pointer (some ⟨p, 0, none⟩), .int .i64 128, .int .i64 8] W fun e w' => e = .returned (.tuple #[.int .i64 8, .int .i64 0]) ∧ Mat 108 w' p g ex3 ∧ Only g W w' from hgr)
  have HOH := Lib.hid (fun W h hh => oheap_512 hb p g ex3 128 W h hh ex3_512 HG.out (by omega) ex3_size ex3_lay)
  clear hgr
  go_wp2_with fail
  go_region_held3 (fun W => W.cell? ⟨wb, 0, none⟩ = some (.pointer (some ⟨p, 0, none⟩)) ∧ W.cell? ⟨wb, 3, none⟩ = some (.slice (some ⟨gA, 0, none⟩) 1 cA) ∧ W.cell? ⟨gA, 0, none⟩ = some (.int .i64 128) ∧ Fr (fun j => j = g) w4 W)
    ((go_split_ands; refine (fun hF => ⟨Fr.cell hF q0 HNW.out, Fr.cell hF q3 HNW.out, Fr.cell hF q4 HNA.out, hF⟩ : Fr (fun j => j = g) w4 _ → _) ?_; repeat' first | exact Fr.refl _ _ | assumption | apply Fr.drew | apply Fr.alloc))
    (first | (go_at_call 39; go_split_ands; refine (HGR.out _ (Mat.drew M4.out)).mono ?_; rintro e w5 ⟨rfl, hm, hf⟩; have hf5 := Fr.undrew hf) | fail)
  have M5 := Lib.hid hm
  have K5 := Lib.hid (K4.out.fr hf5 HNW.out HNA.out)
  have H5 := Lib.hid (hf5.obj H4.out HG.out)
  have F5 := Lib.hid (F4.out.after hf5 (S := fun _ => False) (fun k hk e => by omega))
  clear hm hf hf5 q0 q1 q2 q3 q4
  obtain ⟨q0, q1, q2, q3, q4⟩ := K5.out.cells
  go_wp2_with fail
  go_region_held3 (fun W => W.cell? ⟨wb, 0, none⟩ = some (.pointer (some ⟨p, 0, none⟩)) ∧ W.cell? ⟨wb, 3, none⟩ = some (.slice (some ⟨gA, 0, none⟩) 1 cA) ∧ W.cell? ⟨gA, 0, none⟩ = some (.int .i64 128) ∧ Fr (fun j => j = g) w5 W)
    ((go_split_ands; refine (fun hF => ⟨Fr.cell hF q0 HNW.out, Fr.cell hF q3 HNW.out, Fr.cell hF q4 HNA.out, hF⟩ : Fr (fun j => j = g) w5 _ → _) ?_; repeat' first | exact Fr.refl _ _ | assumption | apply Fr.drew | apply Fr.alloc))
    (first | (go_at_call 40; go_split_ands; refine (HOH.out _ (Mat.drew M5.out) H5.out).mono ?_; rintro e w6 ⟨rfl, hm, hf⟩; have hf6 := Fr.undrew hf) | fail)
  have M6 := Lib.hid (show Mat 108 w6 p g ex4 from hm)
  have K6 := Lib.hid (K5.out.fr hf6 HNW.out HNA.out)
  have F6 := Lib.hid (F5.out.after hf6 (S := fun _ => False) (fun k hk e => by omega))
  clear hm hf hf6 q0 q1 q2 q3 q4
  obtain ⟨q0, q1, q2, q3, q4⟩ := K6.out.cells
  have hce := fun W h => cell_any p g ex4 528 W h
  rw [ex4_528] at hce
  have hoc := fun W h => ocls_any p g ex4 8 520 W h
  rw [ex4_cls] at hoc
  have HCE := Lib.hid hce
  have HOC := Lib.hid hoc
  clear hce hoc
  go_wp2_with fail
  refine (HCE.out _ M6.out).mono ?_
  rintro e w7 ⟨rfl, h0⟩
  obtain rfl := h0.symm
  go_wp2_with fail
  refine (HOC.out _ M6.out).mono ?_
  rintro e w7 ⟨rfl, hf⟩
  have F7 := Lib.hid (F6.out.trans hf)
  have K7 := Lib.hid (K6.out.fr hf id id)
  clear hf q0 q1 q2 q3 q4
  obtain ⟨q0, q1, q2, q3, q4⟩ := K7.out.cells
  go_wp2_with fail
  go_ret
  exact ⟨rfl, F7.out⟩
end Go.Proofs.Ytajeiccfgnpbpaa.Mem
