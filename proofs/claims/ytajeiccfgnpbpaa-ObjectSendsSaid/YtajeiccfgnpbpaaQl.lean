/- Several texts in one: ClsJ, Cxm, IfcL, IfkP. -/
import Derived.Test.YtajeiccfgnpbpaaQh
import Derived.Test.YtajeiccfgnpbpaaIfcC
import Derived.Test.YtajeiccfgnpbpaaClsG
import Derived.Deep.DrawnRows
set_option linter.unusedSimpArgs false
set_option linter.unusedVariables false
/- Contracts of package class at one class: Set. -/
namespace Go.Proofs.Ytajeiccfgnpbpaa.Mem
open Go.RowKit

set_option maxRecDepth 100000 in
set_option maxHeartbeats 4000000 in
theorem set_one (p g : Nat) (bs : List UInt8) (root sel xt : Int) (c : Cl) (w : World) (h : Mat 108 w p g bs) (hs : visited bs root = [c]) (hca : (Lit.int .i64 c.a).wf = true) (hcp : (Lit.int .i64 c.par).wf = true)
    (hsel : 1 ≤ sel) (hmay : may bs c.tab sel = true) :
    Calls Try.prog 35 #[.pointer (some ⟨p, 0, none⟩), .int .i64 root, .int .i64 c.a, .int .i64 sel, .int .i64 xt] w
      fun e w' => e = .returned (.int .i64 0) ∧ Mat 108 w' p g (putb bs c.tab ⟨sel, xt, c.a⟩) ∧ Only g w w' := by
  have hh := heirs_one p g bs root sel c w h hs hca hcp
  have hm := fun W h => may_any p g bs c.tab sel W h
  rw [hmay] at hm
  have hp := fun W h => put_any p g bs c.tab ⟨sel, xt, c.a⟩ W h
  simp only [entv] at hp
  obtain ⟨y0, y1, y2, y3, y4⟩ := c
  simp only [clcells, List.flatMap_cons, List.flatMap_nil, List.append_nil] at hh
  dsimp only at hm hp ⊢
  have HH := Lib.hid hh
  have HM := Lib.hid hm
  have HP := Lib.hid hp
  have H := Lib.hid h
  have HG := Lib.hid h.lt.2
  clear hh hm hp h hs hca hcp hmay
  go_enter Try.func35, Try.ntmps35
  go_wp2_with fail
  refine HH.out.mono ?_
  rintro e w1 ⟨v, rfl, ho, hf⟩
  obtain ⟨o, cc, rfl, hn1, hn2, h3, h4⟩ := owns_form ho
  obtain ⟨gA, rfl, hgA, hgl⟩ : ∃ gA, o = some ⟨gA, 0, none⟩ ∧ w.heap.size ≤ gA ∧ gA < w1.heap.size := by
    cases o with
    | none => have := h3 rfl; omega
    | some bb =>
      obtain ⟨e1, e2, e3, e4⟩ := h4 bb rfl
      obtain ⟨b0, o0, p0⟩ := bb
      dsimp only at *
      subst e1; subst e2
      exact ⟨b0, rfl, e3, e4⟩
  have HO := Lib.hid ho
  have F1 := Lib.hid hf
  have hcells : ∀ W S, Fr S w1 W → ¬ S gA → W.cell? ⟨gA, 0, none⟩ = some (.int .i64 y0) ∧ W.cell? ⟨gA, 1, none⟩ = some (.int .i64 y1) ∧ W.cell? ⟨gA, 2, none⟩ = some (.int .i64 y2) ∧ W.cell? ⟨gA, 3, none⟩ = some (.int .i64 y3) ∧ W.cell? ⟨gA, 4, none⟩ = some (.int .i64 y4) := by
    intro W S hF hS
    have c0 := ho.cells rfl 0 _ rfl
    have c1 := ho.cells rfl 1 _ rfl
    have c2 := ho.cells rfl 2 _ rfl
    have c3 := ho.cells rfl 3 _ rfl
    have c4 := ho.cells rfl 4 _ rfl
    rw [addr_add''] at c0 c1 c2 c3 c4
    exact ⟨hF.cell c0 hS, hF.cell c1 hS, hF.cell c2 hS, hF.cell c3 hS, hF.cell c4 hS⟩
  have HC := Lib.hid hcells
  clear h3 h4 ho hf hcells
  go_wp2_with fail
  go_loopw [28] (fun iv wr => (iv = .int .i64 0 ∧ wr = w1) ∨ (iv = .int .i64 1 ∧ Fr (fun _ => False) w1 wr)) (fun iv _ => (1 - intOf iv).toNat)
  case atStart => exact .inl ⟨rfl, rfl⟩
  case round =>
    rcases hrel with ⟨rfl, rfl⟩ | ⟨rfl, hF⟩
    · obtain ⟨c0, c1, c2, c3, c4⟩ := HC.out _ _ (Fr.refl (fun _ => False) _) id
      go_wp2_with fail
      refine (HM.out _ (H.out.fr (F1.out.alloc _) id id)).mono ?_
      rintro e w2 ⟨rfl, hf⟩
      have F2 := Lib.hid (((Fr.refl (fun _ => False) wr).alloc _).trans hf)
      clear hf
      go_wp2_with fail
      exact ⟨.inr ⟨rfl, F2.out⟩, by simp [intOf]⟩
    · have F2 := Lib.hid hF
      have hgr : gA < wr.heap.size := by have := hF.size; omega
      clear hF
      go_wp2_with fail
      obtain ⟨wL, hwL⟩ : ∃ wL : World, wL = wr := ⟨_, rfl⟩
      go_loopw [41] (fun iv wr' => (iv = .int .i64 0 ∧ wr' = wr) ∨ (iv = .int .i64 1 ∧ Mat 108 wr' p g (putb bs y3 ⟨sel, xt, y0⟩) ∧ Only g wr wr')) (fun iv _ => (1 - intOf iv).toNat)
      case atStart => exact .inl ⟨rfl, rfl⟩
      case round =>
        rcases hrel with ⟨rfl, rfl⟩ | ⟨rfl, hM, hF⟩
        · obtain ⟨c0, c1, c2, c3, c4⟩ := HC.out _ _ F2.out id
          go_wp2_with fail
          refine (HP.out _ (H.out.fr ((F1.out.trans F2.out).alloc _) id id)).mono ?_
          rintro e w3 ⟨rfl, hm, hf⟩
          have M3 := Lib.hid hm
          have F3 := Lib.hid (((Fr.refl (fun j => j = g) _).alloc _).trans hf)
          clear hm hf
          go_wp2_with fail
          exact ⟨.inr ⟨rfl, M3.out, F3.out⟩, by simp [intOf]⟩
        · have M3 := Lib.hid hM
          have F3 := Lib.hid ((Fr.some (F1.out.trans F2.out) fun _ e => e.elim).trans hF)
          clear hM hF
          go_wp2_with fail
          go_ret
          exact ⟨rfl, M3.out, F3.out⟩
end Go.Proofs.Ytajeiccfgnpbpaa.Mem

/- The first class of the examples: its bytes. -/
namespace Go.Proofs.Ytajeiccfgnpbpaa.Mem
open Go.RowKit

/-- The example's bytes, stage by stage. -/
def cx0 : List UInt8 := setv (List.replicate 1024 0) 8 0
def cx1 : List UInt8 := (cnewv 1024 16 cx0 8 0 4).2.2
theorem cx_new : cnewv 1024 16 cx0 8 0 4 = ((128, 0), 168, cx1) := by
  have h0 : (cnewv 1024 16 cx0 8 0 4).1 = (128, 0) := by decide +kernel
  have h1 : (cnewv 1024 16 cx0 8 0 4).2.1 = 168 := by decide +kernel
  unfold cx1
  obtain ⟨v, hv⟩ : ∃ v, cnewv 1024 16 cx0 8 0 4 = v := ⟨_, rfl⟩
  rw [hv] at h0 h1 ⊢
  exact Prod.ext h0 (Prod.ext h1 rfl)
theorem cx_vis : visited cx1 8 = [⟨128, 0, 8, 16, 0⟩] := by kernel_rfl
end Go.Proofs.Ytajeiccfgnpbpaa.Mem

/- The statements of package iface: their example. -/
namespace Go.Proofs.Ytajeiccfgnpbpaa.Mem
open Go.RowKit
attribute [local go_sem ↓] Go.wp_at_zero Go.wp_at_succ

/-- A world with one class, whose block and list stay. -/
structure Keep1 (w : World) (wb gA cA p b : Nat) (v4 : Value) (c : Int) : Prop where
  blk : w.heap[wb]? = some (.cells #[.pointer (some ⟨p, 0, none⟩), .pointer (some ⟨b, 0, none⟩), .int .i64 8, .slice (some ⟨gA, 0, none⟩) 1 cA, v4] 56 (0, 0))
  one : w.cell? ⟨gA, 0, none⟩ = some (.int .i64 c)
theorem Keep1.fr {S : Nat → Prop} {w w' : World} {wb gA cA p b : Nat} {v4 : Value} {c : Int} (h : Keep1 w wb gA cA p b v4 c) (f : Fr S w w') (h1 : ¬ S wb) (h2 : ¬ S gA) : Keep1 w' wb gA cA p b v4 c := ⟨f.obj h.blk h1, f.cell h.one h2⟩
theorem Keep1.cells {w : World} {wb gA cA p b : Nat} {v4 : Value} {c : Int} (h : Keep1 w wb gA cA p b v4 c) :
    w.cell? ⟨wb, 0, none⟩ = some (.pointer (some ⟨p, 0, none⟩)) ∧ w.cell? ⟨wb, 1, none⟩ = some (.pointer (some ⟨b, 0, none⟩)) ∧ w.cell? ⟨wb, 2, none⟩ = some (.int .i64 8) ∧ w.cell? ⟨wb, 3, none⟩ = some (.slice (some ⟨gA, 0, none⟩) 1 cA) ∧ w.cell? ⟨gA, 0, none⟩ = some (.int .i64 c) := by
  obtain ⟨h0, h1, h2, h3, _⟩ := five_cells h.blk
  exact ⟨h0, h1, h2, h3, h.one⟩

theorem iy_is : isIn cx1 8 128 = true := by decide +kernel
theorem iy_may : may cx1 16 1 = true := by decide +kernel
def iy2 : List UInt8 := putb cx1 16 ⟨1, 8, 128⟩
def iy3 : List UInt8 := (inewv 1024 168 iy2 [1, 2]).2.2
theorem iy_new : inewv 1024 168 iy2 [1, 2] = ((168, 0), 192, iy3) := by
  have h0 : (inewv 1024 168 iy2 [1, 2]).1 = (168, 0) := by decide +kernel
  have h1 : (inewv 1024 168 iy2 [1, 2]).2.1 = 192 := by decide +kernel
  unfold iy3
  obtain ⟨v, hv⟩ : ∃ v, inewv 1024 168 iy2 [1, 2] = v := ⟨_, rfl⟩
  rw [hv] at h0 h1 ⊢
  exact Prod.ext h0 (Prod.ext h1 rfl)
theorem iy_len : iy3.length = 1024 := by decide +kernel
theorem iy_n : cellv iy3 168 = 2 := by decide +kernel
theorem iy_cl : isCl iy3 128 = true := by decide +kernel
theorem iy_miss : missv iy3 128 (selsl iy3 168 2) = (2, -2050) := by decide +kernel

theorem ints_two (w : World) (S : Nat → Prop) (x y : Int) (t : TypeId) (hx : -9223372036854775808 ≤ x ∧ x ≤ 9223372036854775807) (hy : -9223372036854775808 ≤ y ∧ y ≤ 9223372036854775807) (hs : ¬ S w.heap.size) :
    Ints (w.alloc (.cells #[.int .i64 x, .int .i64 y] t)) S (.slice (some ⟨w.heap.size, 0, none⟩) 2 2) [x, y] := by
  refine ⟨_, _, rfl, fun n hn => ?_, .inr ⟨w.heap.size, 0, rfl, by simp, hs, fun j hj => ?_⟩⟩
  · simp only [List.mem_cons, List.not_mem_nil, or_false] at hn
    rcases hn with rfl | rfl
    · exact hx
    · exact hy
  · rw [cell_of_row _ _ _ _ _ _ (heap_alloc_last w _)]
    match j, hj with
    | 0, _ => rfl
    | 1, _ => rfl

set_option maxRecDepth 100000 in
set_option maxHeartbeats 4000000 in
theorem lives12_any (w : World) : Calls Try.prog 29 #[] w fun e w' => e = .returned (.bool true) ∧ Fr (fun _ => False) w w' := by
  go_enter Try.func29, Try.ntmps29
  go_wp2_with fail
  refine (wnew_ok 1024 w (by omega) (by omega) (by omega)).mono ?_
  rintro e w1 ⟨p, g, b, rfl, hp0, hg0, hb0, hs, hf⟩
  have S1 := Lib.hid (hs.fr ((Fr.refl (fun _ => False) w1).alloc (.cells #[.pointer (some ⟨p, 0, none⟩), .pointer (some ⟨b, 0, none⟩), .int .i64 8, .slice none 0 0, .slice none 0 0] 56)) id id id)
  have O1 := Lib.hid (heap_alloc_last w1 (.cells #[.pointer (some ⟨p, 0, none⟩), .pointer (some ⟨b, 0, none⟩), .int .i64 8, .slice none 0 0, .slice none 0 0] 56))
  have F1 := Lib.hid (hf.alloc (.cells #[.pointer (some ⟨p, 0, none⟩), .pointer (some ⟨b, 0, none⟩), .int .i64 8, .slice none 0 0, .slice none 0 0] 56))
  have LT := Lib.hid hs.lt
  have LW := Lib.hid hf.size
  clear hs hf
  go_wp2_with fail
  refine (wmake_first w1.heap.size p g b 1024 16 168 cx0 cx1 8 128 4 0 _ O1.out S1.out (by omega) (by have := LT.out; omega) (by omega) cx_new iy_is (by omega)).mono ?_
  rintro e w2 ⟨rfl, ⟨v4, gA, cA, _, hob, hgA, hcl⟩, hs, hf⟩
  have hgA' : w1.heap.size + 1 ≤ gA := by simpa using hgA
  have K2 := Lib.hid (Keep1.mk hob hcl)
  have S2 := Lib.hid hs
  have F2 := Lib.hid (F1.out.after hf (S := fun _ => False) (fun k hk e => by have := LW.out; omega))
  have LT2 := Lib.hid (show b < w1.heap.size ∧ p < w1.heap.size ∧ g < w1.heap.size from LT.out)
  have LB := Lib.hid (show w.heap.size ≤ g ∧ w.heap.size ≤ b from ⟨hg0, hb0⟩)
  obtain ⟨wb, hwb⟩ : ∃ wb, w1.heap.size = wb := ⟨_, rfl⟩
  rw [hwb] at K2 LT2 hgA' LW ⊢
  have HNW := Lib.hid (show ¬ wb = g ∧ ¬ wb = b by have := LT2.out; omega)
  have HNA := Lib.hid (show ¬ gA = g ∧ ¬ gA = b by have := LT2.out; omega)
  clear hob hgA hcl hs hf hwb hp0 hg0 hb0
  obtain ⟨q0, q1, q2, q3, q4⟩ := K2.out.cells
  have HST := Lib.hid (fun W h => set_one p g cx1 8 1 8 ⟨128, 0, 8, 16, 0⟩ W h cx_vis rfl rfl (by omega) iy_may)
  go_wp2_with fail
  go_region_held3 (fun W => W.cell? ⟨wb, 0, none⟩ = some (.pointer (some ⟨p, 0, none⟩)) ∧ W.cell? ⟨wb, 2, none⟩ = some (.int .i64 8) ∧ W.cell? ⟨wb, 3, none⟩ = some (.slice (some ⟨gA, 0, none⟩) 1 cA) ∧ W.cell? ⟨gA, 0, none⟩ = some (.int .i64 128) ∧ Fr (fun j => j = g) w2 W)
    ((go_split_ands; refine (fun hF => ⟨Fr.cell hF q0 HNW.out.1, Fr.cell hF q2 HNW.out.1, Fr.cell hF q3 HNW.out.1, Fr.cell hF q4 HNA.out.1, hF⟩ : Fr (fun j => j = g) w2 _ → _) ?_; repeat' first | exact Fr.refl _ _ | assumption | apply Fr.drew | apply Fr.alloc))
    (first | (go_at_call 35; go_split_ands; refine (HST.out _ (Mat.drew S2.out.mat)).mono ?_; rintro e w3 ⟨rfl, hm, hf⟩; have hf3 := Fr.undrew hf) | fail)
  have S3 := Lib.hid (show Sat w3 b p g 8 1024 168 iy2 from S2.out.wrote hf3 hm (putb_length _ _ _))
  have K3 := Lib.hid (K2.out.fr hf3 HNW.out.1 HNA.out.1)
  have F3 := Lib.hid (F2.out.after hf3 (S := fun _ => False) (fun k hk e => by have := LB.out; omega))
  clear hm hf hf3 q0 q1 q2 q3 q4
  obtain ⟨q0, q1, q2, q3, q4⟩ := K3.out.cells
  have hin := fun W v h hl => inew_any b p g 8 1024 168 iy2 v [1, 2] W h (by omega) hl (by simp)
  rw [iy_new] at hin
  have HIN := Lib.hid hin
  clear hin
  go_wp2_with fail
  refine (HIN.out _ _ (S3.out.fr ((Fr.refl (fun _ => False) w3).alloc _) id id id) (ints_two _ _ _ _ _ (by omega) (by omega) (by have := S3.out.lt; omega))).mono ?_
  rintro e w4 ⟨rfl, hs, hf⟩
  have hf4 : Both b g w3 w4 := Fr.trans ((Fr.refl (fun j => j = b ∨ j = g) w3).alloc _) hf
  have M4 := Lib.hid hs.mat
  have K4 := Lib.hid (K3.out.fr hf4 (by have := HNW.out; omega) (by have := HNA.out; omega))
  have F4 := Lib.hid (F3.out.after hf4 (S := fun _ => False) (fun k hk e => by have := LB.out; omega))
  clear hs hf hf4 q0 q1 q2 q3 q4
  obtain ⟨q0, q1, q2, q3, q4⟩ := K4.out.cells
  have hms := fun W h => missing_ok p g 168 2 128 iy3 W h (by omega) (by rw [iy_len]; omega) iy_n (by omega) (by omega) iy_cl
  rw [iy_miss] at hms
  have HMS := Lib.hid hms
  clear hms
  go_wp2_with fail
  go_region_held3 (fun W => W.cell? ⟨wb, 0, none⟩ = some (.pointer (some ⟨p, 0, none⟩)) ∧ W.cell? ⟨wb, 3, none⟩ = some (.slice (some ⟨gA, 0, none⟩) 1 cA) ∧ W.cell? ⟨gA, 0, none⟩ = some (.int .i64 128) ∧ Fr (fun _ => False) w4 W)
    ((go_split_ands; refine (fun hF => ⟨Fr.cell hF q0 id, Fr.cell hF q3 id, Fr.cell hF q4 id, hF⟩ : Fr (fun _ => False) w4 _ → _) ?_; repeat' first | exact Fr.refl _ _ | assumption | apply Fr.drew | apply Fr.alloc))
    (first | (go_at_call 33; go_split_ands; refine (HMS.out _ (Mat.drew M4.out)).mono ?_; rintro e w5 ⟨rfl, hf⟩; have hf5 := Fr.undrew hf) | fail)
  have F5 := Lib.hid (F4.out.trans hf5)
  clear hf hf5
  go_wp2_with fail
  go_ret
  exact ⟨rfl, F5.out⟩
end Go.Proofs.Ytajeiccfgnpbpaa.Mem

/- The statement IfaceKeeps: plain facts on cells that are laid one behind the other. No program's walk. -/
namespace Go.Proofs.Ytajeiccfgnpbpaa.Mem
open Go.RowKit

def InI64 (n : Int) : Prop := -9223372036854775808 ≤ n ∧ n ≤ 9223372036854775807

theorem layl_spec (z : Nat) : ∀ (l : List Int) (x : Nat) (bs : List UInt8), z ≤ bs.length → x ≤ z → (∀ n ∈ l, InI64 n) →
    (layl z l x bs).2.1.length = bs.length ∧ (∀ b, b + 8 ≤ x → cellv (layl z l x bs).2.1 b = cellv bs b) ∧ ((layl z l x bs).2.2 = true ↔ x + 8 * l.length ≤ z) ∧
      (x + 8 * l.length ≤ z → (layl z l x bs).1 = x + 8 * l.length ∧ ∀ i (h : i < l.length), cellv (layl z l x bs).2.1 (x + 8 * i) = l[i])
  | [], x, bs, hz, hx, hb => by simp [layl, hx]
  | n :: l, x, bs, hz, hx, hb => by
    rw [layl]
    by_cases h8 : x + 8 ≤ z
    · rw [if_pos h8]
      obtain ⟨h1, h2, h3, h4⟩ := layl_spec z l (x + 8) (setv bs x n) (by rw [setv_length]; exact hz) h8 (fun m hm => hb m (List.mem_cons_of_mem _ hm))
      refine ⟨by rw [h1, setv_length], fun b hbx => ?_, ?_, fun hfit => ?_⟩
      · rw [h2 b (by omega), cellv_other _ _ _ _ (.inl hbx)]
      · rw [h3, List.length_cons]
        omega
      · rw [List.length_cons] at hfit
        obtain ⟨k1, k2⟩ := h4 (by omega)
        refine ⟨by rw [k1, List.length_cons]; omega, fun i hi => ?_⟩
        cases i with
        | zero =>
          have hn := hb n (List.mem_cons_self ..)
          have h0 := h2 x (by omega)
          rw [cellv_same _ _ _ (by omega) hn] at h0
          simpa using h0
        | succ i =>
          rw [show x + 8 * (i + 1) = x + 8 + 8 * i by omega, k2 i (by simpa using hi)]
          rfl
    · rw [if_neg h8]
      refine ⟨rfl, fun _ _ => rfl, ?_, fun hfit => ?_⟩
      · simp only [List.length_cons]
        constructor
        · intro h; cases h
        · intro h; omega
      · rw [List.length_cons] at hfit
        omega

theorem inewv_fit (z x : Nat) (bs : List UInt8) (l : List Int) (hz : z ≤ bs.length) (hb : ∀ n ∈ l, InI64 n) (hl : l.length ≤ 1048576) (hfit : x + 8 * (l.length + 1) ≤ z) :
    ∃ bs', inewv z x bs l = (((x : Int), 0), x + 8 * (l.length + 1), bs') ∧ bs'.length = bs.length ∧ (∀ b, b + 8 ≤ x → cellv bs' b = cellv bs b) ∧ cellv bs' x = (l.length : Nat) ∧ ∀ i (h : i < l.length), cellv bs' (x + 8 * (i + 1)) = l[i] := by
  have hb' : ∀ n ∈ ((l.length : Int) :: l), InI64 n := fun n hn => by
    rcases List.mem_cons.1 hn with rfl | hn
    · unfold InI64; omega
    · exact hb n hn
  obtain ⟨h1, h2, h3, h4⟩ := layl_spec z ((l.length : Int) :: l) x bs hz (by omega) hb'
  rw [List.length_cons] at h3
  obtain ⟨k1, k2⟩ := h4 (by rw [List.length_cons]; omega)
  rw [List.length_cons] at k1
  have hok := h3.2 (by omega)
  unfold inewv ilayv
  rw [if_pos hok]
  dsimp only
  rw [if_pos rfl]
  obtain ⟨⟨y, cs, ok⟩, hr⟩ : ∃ r, layl z ((l.length : Int) :: l) x bs = r := ⟨_, rfl⟩
  rw [hr] at h1 h2 k1 k2 ⊢
  dsimp only at h1 h2 k1 k2 ⊢
  refine ⟨cs, by rw [k1], h1, h2, ?_, fun i hi => ?_⟩
  · have := k2 0 (by simp)
    simpa using this
  · have := k2 (i + 1) (by simp; exact hi)
    simpa using this

theorem inewv_full (z x : Nat) (bs : List UInt8) (l : List Int) (hz : z ≤ bs.length) (hx : x ≤ z) (hb : ∀ n ∈ l, InI64 n) (hl : l.length ≤ 1048576) (hfit : ¬ x + 8 * (l.length + 1) ≤ z) :
    ∃ bs', inewv z x bs l = ((0, -8), x, bs') ∧ bs'.length = bs.length ∧ (∀ b, b + 8 ≤ x → cellv bs' b = cellv bs b) := by
  have hb' : ∀ n ∈ ((l.length : Int) :: l), InI64 n := fun n hn => by
    rcases List.mem_cons.1 hn with rfl | hn
    · unfold InI64; omega
    · exact hb n hn
  obtain ⟨h1, h2, h3, h4⟩ := layl_spec z ((l.length : Int) :: l) x bs hz hx hb'
  rw [List.length_cons] at h3
  have hok : ¬ (layl z ((l.length : Int) :: l) x bs).2.2 = true := fun h => hfit (by have := h3.1 h; omega)
  unfold inewv ilayv
  rw [if_neg hok]
  dsimp only
  rw [if_neg (by omega)]
  exact ⟨_, rfl, h1, h2⟩

/-- What has been laid: places, slices, selectors. -/
def Laid (bs : List UInt8) (x : Nat) (K : List (Nat × Value × List Int)) : Prop :=
  ∀ r ∈ K, r.1 % 8 = 0 ∧ r.1 + 8 * (r.2.2.length + 1) ≤ x ∧ cellv bs r.1 = (r.2.2.length : Nat) ∧ ∀ i (h : i < r.2.2.length), cellv bs (r.1 + 8 * (i + 1)) = r.2.2[i]

theorem Laid.keep {bs cs : List UInt8} {x y : Nat} {K : List (Nat × Value × List Int)} (h : Laid bs x K) (hxy : x ≤ y) (hc : ∀ b, b + 8 ≤ x → cellv cs b = cellv bs b) : Laid cs y K := fun r hr => by
  obtain ⟨h1, h2, h3, h4⟩ := h r hr
  exact ⟨h1, by omega, by rw [hc _ (by omega), h3], fun i hi => by rw [hc _ (by omega), h4 i hi]⟩
theorem Laid.snoc {bs : List UInt8} {x q : Nat} {v : Value} {l : List Int} {K : List (Nat × Value × List Int)} (h : Laid bs x K) (h8 : q % 8 = 0) (hq : q + 8 * (l.length + 1) ≤ x) (hn : cellv bs q = (l.length : Nat)) (hl : ∀ i (h : i < l.length), cellv bs (q + 8 * (i + 1)) = l[i]) :
    Laid bs x (K ++ [(q, v, l)]) := fun r hr => by
  rcases List.mem_append.1 hr with hr | hr
  · exact h r hr
  · obtain rfl : r = (q, v, l) := by simpa using hr
    exact ⟨h8, hq, hn, hl⟩

theorem Laid.get {bs : List UInt8} {x z : Nat} {K : List (Nat × Value × List Int)} (h : Laid bs x K) (hx : x ≤ z) (hz : bs.length = z) (hz4 : z ≤ 4096) {q : Nat} {v : Value} {l : List Int} (hm : (q, v, l) ∈ K) :
    q % 8 = 0 ∧ q + 8 * (l.length + 1) ≤ bs.length ∧ cellv bs q = (l.length : Nat) ∧ l.length ≤ 1024 ∧ (∀ i (h : i < l.length), cellv bs (q + 8 * (i + 1)) = l[i]) := by
  obtain ⟨h1, h2, h3, h4⟩ := h _ hm
  dsimp only at h1 h2 h3 h4
  exact ⟨h1, by omega, h3, by omega, h4⟩

theorem row_ints {W : World} {S : Nat → Prop} {b q : Nat} {t : TypeId} {bs : List UInt8} {l : List Int} (h : W.rowIs b t l.length (fun j => .int .i64 (cellv bs (q + 8 * (j + 1))))) (hb : ∀ n ∈ l, InI64 n) (hs : ¬ S b) (hl : ∀ i (h : i < l.length), cellv bs (q + 8 * (i + 1)) = l[i]) :
    Ints W S (.slice (some ⟨b, 0, none⟩) l.length l.length) l :=
  Ints.of_row (h.congr fun i hi => by rw [hl i hi]; simp [List.getD_eq_getElem?_getD, List.getElem?_eq_getElem hi]) hb hs

theorem owns_some {W : World} {B : Nat} {e : TypeId} {o : Option Addr} {m c : Nat} {xs : List Value} (h : W.ownsRow B e 1 (.slice o m c) m xs) (h0 : 0 < m) : ∃ g, o = some ⟨g, 0, none⟩ := by
  obtain ⟨o', c', hv, _, _, hn, hb⟩ := owns_form h
  cases hv
  cases o with
  | none => have := hn rfl; omega
  | some bb =>
    obtain ⟨e1, e2, _, _⟩ := hb bb rfl
    obtain ⟨b0, f0, p0⟩ := bb
    dsimp only at e1 e2
    subst e1; subst e2
    exact ⟨b0, rfl⟩

theorem cell_three (bs : List UInt8) : (cell bs 3).2 ≠ 0 := fun h => by
  have := cell_code h
  omega
theorem cell_end {bs : List UInt8} {z : Nat} (hz : bs.length = z) : (cell bs (z : Int)).2 ≠ 0 := fun h => by
  have := cell_code h
  omega

/-- How many cells so many slices want. -/
def tot (L : Nat → List Int) : Nat → Nat
  | 0 => 0
  | k + 1 => tot L k + (1 + (L k).length)
theorem tot_le (L : Nat → List Int) {j n : Nat} (h : j ≤ n) : tot L j ≤ tot L n := by
  induction n with
  | zero => obtain rfl : j = 0 := by omega
            exact Nat.le_refl _
  | succ n ih =>
    rcases Nat.lt_or_eq_of_le h with h | rfl
    · have := ih (by omega)
      rw [tot]
      omega
    · exact Nat.le_refl _
theorem tot_len (L : Nat → List Int) {j n : Nat} (h : j < n) : (L j).length < tot L n := by
  have := tot_le L (j := j + 1) (n := n) h
  rw [tot] at this
  omega
theorem tot_ge (L : Nat → List Int) (n : Nat) : n ≤ tot L n := by
  induction n with
  | zero => exact Nat.zero_le _
  | succ n ih => rw [tot]; omega

/-- A slice of slices of numbers. -/
def IsRows (W : World) (a : Option Addr) (n : Nat) (V : Nat → Value) (L : Nat → List Int) : Prop :=
  n = 0 ∨ ∃ bb off, a = some ⟨bb, off, none⟩ ∧ bb < W.heap.size ∧ ∀ j, j < n → W.cell? ⟨bb, off + j, none⟩ = some (V j) ∧ Ints W (fun k => W.heap.size ≤ k) (V j) (L j)

theorem Ints.mono {W : World} {S T : Nat → Prop} {v : Value} {l : List Int} (h : Ints W S v l) (hs : ∀ k, T k → S k) : Ints W T v l := by
  obtain ⟨o, c, hv, hb, hc⟩ := h
  exact ⟨o, c, hv, hb, hc.imp id fun ⟨bb, off, ho, hlt, hn, hcell⟩ => ⟨bb, off, ho, hlt, fun t => hn (hs bb t), hcell⟩⟩

/-- The two lists that the statement keeps. -/
structure Two (W : World) (B : Nat) (vA vK : Value) (K : List (Nat × Value × List Int)) : Prop where
  at_ : W.ownsRow B 2 1 vA K.length (K.map fun r => .int .i64 (r.1 : Int))
  kept : W.ownsRow B 36 1 vK K.length (K.map fun r => r.2.1)
  ne : ∀ k, vA.ownBlock = some k → vK.ownBlock ≠ some k
theorem Two.fr {S : Nat → Prop} {W W' : World} {B : Nat} {vA vK : Value} {K : List (Nat × Value × List Int)} (h : Two W B vA vK K) (f : Fr S W W') (hs : ∀ k, B ≤ k → ¬ S k) : Two W' B vA vK K :=
  ⟨f.owns h.at_ (fun k hk => hs k (h.at_.lt k hk).1), f.owns h.kept (fun k hk => hs k (h.kept.lt k hk).1), h.ne⟩
end Go.Proofs.Ytajeiccfgnpbpaa.Mem
