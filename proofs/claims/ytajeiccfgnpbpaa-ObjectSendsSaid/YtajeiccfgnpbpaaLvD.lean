/- The example of layer 13's statements, once more, with its own words on blocks (in a namespace of its own). -/
import Derived.Test.YtajeiccfgnpbpaaQi
import Derived.Test.YtajeiccfgnpbpaaClsG
set_option linter.unusedSimpArgs false
set_option linter.unusedVariables false

namespace Go.Proofs.Ytajeiccfgnpbpaa.Mem.L
open Go.RowKit

set_option maxRecDepth 100000 in
set_option maxHeartbeats 1000000 in
theorem hnew_512 (p g : Nat) (bs : List UInt8) (w : World) (h : Mat 108 w p g bs) (hl : bs.length = 1024) :
    Calls Try.prog 38 #[.pointer (some ⟨p, 0, none⟩), .int .i64 512, .int .i64 1024] w
      fun e w' => e = .returned (.tuple #[.pointer (some ⟨w.heap.size, 0, none⟩), .int .i64 0]) ∧ Heap w' w.heap.size p 512 1024 ∧ Mat 108 w' p g (setc bs 512 512) ∧ Only g w w' := by
  have HS := size_any p g bs w h
  rw [hl] at HS
  have HSS := Lib.hid HS
  have FA := Lib.hid ((Fr.refl (fun _ => False) w).alloc (.cells #[.pointer (some ⟨p, 0, none⟩), .int .i64 512, .int .i64 1024] 156))
  have OA := Lib.hid (heap_alloc_last w (.cells #[.pointer (some ⟨p, 0, none⟩), .int .i64 512, .int .i64 1024] 156))
  have hp := hput_any w.heap.size p g bs 512 1024 512 512 false _ (h.fr FA.out id id) OA.out (by omega)
  rw [if_neg (by decide)] at hp
  have HP := Lib.hid hp
  have HG := Lib.hid h.lt
  clear h hl HS hp
  go_enter Try.func38, Try.ntmps38
  go_wp2_with (go_at_call 51; refine HSS.out.mono ?_; rintro e w' ⟨rfl, h0⟩; obtain rfl := h0.symm)
  refine HP.out.mono ?_
  rintro e w1 ⟨rfl, hm, hf⟩
  have M1 := Lib.hid hm
  have O1 := Lib.hid (hf.obj OA.out (by have := HG.out; omega))
  have F1 := Lib.hid ((Fr.some FA.out fun _ e => e.elim).trans hf)
  clear hm hf
  go_wp2_with fail
  go_ret2
  exact ⟨rfl, O1.out, M1.out, F1.out⟩

theorem three_app {x0 x1 x2 : Value} {rest : Array Value} {t : TypeId} (w : World) (o : Obj) {n : Nat} (hs : w.heap.size = n) :
    ((w.alloc o).alloc (.cells (#[x0, x1, x2] ++ rest) t)).drew.cell? ⟨n + 1, 0, none⟩ = some x0 ∧ ((w.alloc o).alloc (.cells (#[x0, x1, x2] ++ rest) t)).drew.cell? ⟨n + 1, 1, none⟩ = some x1 ∧ ((w.alloc o).alloc (.cells (#[x0, x1, x2] ++ rest) t)).drew.cell? ⟨n + 1, 2, none⟩ = some x2 := by
  subst hs
  have hb := heap_alloc_last (w.alloc o) (.cells (#[x0, x1, x2] ++ rest) t)
  have hz : (w.alloc o).heap.size = w.heap.size + 1 := by simp
  rw [hz] at hb
  have hb' : ((w.alloc o).alloc (.cells (#[x0, x1, x2] ++ rest) t)).drew.heap[w.heap.size + 1]? = some (.cells (#[x0, x1, x2] ++ rest) t) := hb
  refine ⟨?_, ?_, ?_⟩ <;> rw [cell_of_row _ _ _ _ _ _ hb'] <;> simp [Array.getElem?_append]

set_option maxRecDepth 100000 in
set_option maxHeartbeats 2000000 in
theorem hwalk_512 (hb p g : Nat) (bs : List UInt8) (w : World) (h : Mat 108 w p g bs) (hh : Heap w hb p 512 1024) (hc : cell bs 512 = (512, 0)) :
    Calls Try.prog 111 #[.pointer (some ⟨hb, 0, none⟩)] w
      fun e w' => ∃ gA cA : Nat, e = .returned (.tuple #[.slice (some ⟨gA, 0, none⟩) 1 cA, .int .i64 0]) ∧ (w'.cell? ⟨gA, 0, none⟩ = some (.int .i64 512) ∧ w'.cell? ⟨gA, 1, none⟩ = some (.int .i64 512) ∧ w'.cell? ⟨gA, 2, none⟩ = some (.bool false)) ∧ Fr (fun _ => False) w w' := by
  obtain ⟨q0, q1, q2, _, _, _, _⟩ := three_cells hh
  have hcl := cell_any p g bs 512 w h
  rw [hc] at hcl
  have HC := Lib.hid hcl
  have b1 : bits .andNot .i64 512 1 = 512 := by decide +kernel
  have b2 : bits .and .i64 512 1 = 0 := by decide +kernel
  clear h hcl hc
  go_enter Try.func111, Try.ntmps111
  go_wp2_with fail
  go_loopw [4, 5] (fun lv av wr => (lv = .slice none 0 0 ∧ av = .int .i64 512 ∧ wr = w) ∨ (∃ gA cA : Nat, lv = .slice (some ⟨gA, 0, none⟩) 1 cA ∧ av = .int .i64 1024 ∧ (wr.cell? ⟨gA, 0, none⟩ = some (.int .i64 512) ∧ wr.cell? ⟨gA, 1, none⟩ = some (.int .i64 512) ∧ wr.cell? ⟨gA, 2, none⟩ = some (.bool false)) ∧ Fr (fun _ => False) w wr)) (fun _ av _ => (1024 - intOf av).toNat)
  case atStart => exact .inl ⟨rfl, rfl, rfl⟩
  case round =>
    rcases hrel with ⟨rfl, rfl, rfl⟩ | ⟨gA, cA, rfl, rfl, hcs, hF⟩
    · go_wp2_with (go_at_call 46; refine HC.out.mono ?_; rintro e w' ⟨rfl, h0⟩; obtain rfl := h0.symm)
      go_quiet (fail)
      go_wp2_with fail
      refine ⟨.inr ⟨_, _, rfl, rfl, ?_, ?_⟩, by simp [intOf]⟩
      · have hs : ((wr.alloc (.cells #[.int .i64 512, .int .i64 512, .bool false] 159)).drewN nq).heap.size = wr.heap.size + 1 := by
          show (wr.alloc (.cells #[.int .i64 512, .int .i64 512, .bool false] 159)).heap.size = _
          simp
        exact three_app _ _ hs
      · repeat' first | exact Fr.refl _ _ | apply Fr.drew | apply Fr.drewN | apply Fr.alloc
    · have k0 := Fr.cell hF q0 id
      have k1 := Fr.cell hF q1 id
      have k2 := Fr.cell hF q2 id
      go_wp2
      go_ret2
      exact ⟨gA, cA, rfl, hcs, hF⟩

set_option maxRecDepth 100000 in
set_option maxHeartbeats 1000000 in
theorem hsplit_512 (hb p g : Nat) (bs : List UInt8) (w : World) (h : Mat 108 w p g bs) (hh : Heap w hb p 512 1024) (hg : hb ≠ g) :
    Calls Try.prog 113 #[.pointer (some ⟨hb, 0, none⟩), .agg #[.int .i64 512, .int .i64 512, .bool false], .int .i64 24] w
      fun e w' => e = .returned (.tuple #[]) ∧ Mat 108 w' p g (setc (setc bs 512 25) 536 488) ∧ Only g w w' := by
  have HP1 := Lib.hid (fun w h hh => hput_any hb p g bs 512 1024 512 24 true w h hh (by omega))
  have HP2 := Lib.hid (fun w h hh => hput_any hb p g (setc bs 512 25) 512 1024 536 488 false w h hh (by omega))
  have FA := Lib.hid (((Fr.refl (fun _ => False) w).alloc (.cells #[.int .i64 512, .int .i64 512, .bool false] 159)).alloc (.cells #[.int .i64 536, .int .i64 488, .bool false] 159))
  have hob := heap_alloc_last (w.alloc (.cells #[.int .i64 512, .int .i64 512, .bool false] 159)) (.cells #[.int .i64 536, .int .i64 488, .bool false] 159)
  rw [show (w.alloc (.cells #[.int .i64 512, .int .i64 512, .bool false] 159)).heap.size = w.heap.size + 1 by simp] at hob
  have HOB := Lib.hid hob
  have H := Lib.hid h
  have HH := Lib.hid hh
  have HG := Lib.hid (And.intro h.lt hg)
  clear h hh hob
  go_enter Try.func113, Try.ntmps113
  go_wp2_with fail
  refine (HP1.out _ (H.out.fr FA.out id id) (FA.out.obj HH.out id)).mono ?_
  rintro e w1 ⟨rfl, hm, hf⟩
  have M1 := Lib.hid hm
  have O1 := Lib.hid (hf.obj (FA.out.obj HH.out id) HG.out.2)
  obtain ⟨q0, q1, q2, _, _, _, _⟩ := three_cells (hf.obj HOB.out (by have := HG.out.1.2; omega))
  have F1 := Lib.hid ((Fr.some FA.out fun _ e => e.elim).trans hf)
  clear hm hf
  go_wp2_with fail
  refine (HP2.out _ M1.out O1.out).mono ?_
  rintro e w2 ⟨rfl, hm, hf⟩
  have M2 := Lib.hid hm
  have F2 := Lib.hid (F1.out.trans hf)
  clear hm hf
  go_wp2_with fail
  (try simp only [Exit.inBlock, Exit.then])
  first
  | exact bodyPost_end (results_none rfl _ _ _) rfl ⟨rfl, M2.out, F2.out⟩
  | exact bodyPost_ret (results_none rfl _ _ _) rfl ⟨rfl, M2.out, F2.out⟩

set_option maxRecDepth 100000 in
set_option maxHeartbeats 1000000 in
theorem roundUp_any (n : Int) (h : 0 ≤ n ∧ n ≤ 1048576) (w : World) :
    Calls Try.prog 112 #[.int .i64 n] w fun e w' => e = .returned (.int .i64 ((n + 8 - 1) / 8 * 8)) ∧ w' = w := by
  go_enter Try.func112, Try.ntmps112
  go_wp2
  go_ret
  exact ⟨rfl, rfl⟩

set_option maxRecDepth 100000 in
set_option maxHeartbeats 2000000 in
theorem halloc_512 (hb p g : Nat) (bs : List UInt8) (w : World) (h : Mat 108 w p g bs) (hh : Heap w hb p 512 1024) (hc : cell bs 512 = (512, 0)) (hg : hb ≠ g) :
    Calls Try.prog 89 #[.pointer (some ⟨hb, 0, none⟩), .int .i64 16] w
      fun e w' => e = .returned (.tuple #[.int .i64 520, .int .i64 0]) ∧ Mat 108 w' p g (setc (setc bs 512 25) 536 488) ∧ Only g w w' := by
  have HW := Lib.hid (hwalk_512 hb p g bs w h hh hc)
  have HR := Lib.hid (fun w => roundUp_any 24 (by omega) w)
  have HS := Lib.hid (fun w h hh => hsplit_512 hb p g bs w h hh hg)
  have H := Lib.hid h
  have HH := Lib.hid hh
  have HG := Lib.hid h.lt
  clear h hh hc
  go_enter Try.func89, Try.ntmps89
  go_wp2_with fail
  refine HW.out.mono ?_
  rintro e w1 ⟨gA, cA, rfl, ⟨k0, k1, k2⟩, hf⟩
  have F1 := Lib.hid hf
  clear hf
  go_wp2_with fail
  refine (HR.out _).mono ?_
  rintro e w' ⟨rfl, h0⟩
  obtain rfl := h0.symm
  go_wp2_with fail
  rw [show max (16 : Int) 24 = 24 from rfl]
  have F2 := Lib.hid (F1.out.alloc (.cells #[.int .i64 512, .int .i64 512, .bool false] 159))
  have O2 := heap_alloc_last w1 (.cells #[.int .i64 512, .int .i64 512, .bool false] 159)
  have HO2 := Lib.hid O2
  clear O2
  refine wp_loop_rounds 1 ?_
  rw [rounds_succ]
  go_wp2_with fail
  refine (HS.out _ (H.out.fr F2.out id id) (F2.out.obj HH.out id)).mono ?_
  rintro e w2 ⟨rfl, hm, hf⟩
  have M2 := Lib.hid hm
  have F3 := Lib.hid ((Fr.some F2.out fun _ e => e.elim).trans hf)
  obtain ⟨q0, q1, q2, _, _, _, _⟩ := three_cells (hf.obj HO2.out (by have := HG.out.2; have := F1.out.size; omega))
  clear hm hf
  go_wp2_with fail
  go_ret2
  exact ⟨rfl, M2.out, F3.out⟩
end Go.Proofs.Ytajeiccfgnpbpaa.Mem.L

namespace Go.Proofs.Ytajeiccfgnpbpaa.Mem.L
open Go.RowKit

set_option maxRecDepth 100000 in
set_option maxHeartbeats 2000000 in
/-- An object of 16 bytes in a heap of one unused block. -/
theorem oheap_512 (hb p g : Nat) (bs : List UInt8) (c : Int) (w : World) (h : Mat 108 w p g bs) (hh : Heap w hb p 512 1024) (hc : cell bs 512 = (512, 0)) (hg : hb ≠ g)
    (hcb : -9223372036854775808 ≤ c ∧ c ≤ 9223372036854775807) (hs : sizev bs c = (16, 0)) (ho : (olay (setc (setc bs 512 25) 536 488) 520 c 16).1 = 0) :
    Calls Try.prog 40 #[.pointer (some ⟨hb, 0, none⟩), .pointer (some ⟨p, 0, none⟩), .int .i64 c] w
      fun e w' => e = .returned (.tuple #[.int .i64 520, .int .i64 0]) ∧ Mat 108 w' p g (olay (setc (setc bs 512 25) 536 488) 520 c 16).2 ∧ Only g w w' := by
  have hz := sizeOf_any p g bs c w h hcb
  rw [hs] at hz
  have HZ := Lib.hid hz
  have HA := Lib.hid (fun w h hh => halloc_512 hb p g bs w h hh hc hg)
  have hl := fun w h => olay_any p g (setc (setc bs 512 25) 536 488) 520 c 16 w h (by omega)
  rw [ho] at hl
  have HL := Lib.hid hl
  have H := Lib.hid h
  have HH := Lib.hid hh
  clear h hh hc hz hs hl ho
  go_enter Try.func40, Try.ntmps40
  go_wp2_with fail
  refine HZ.out.mono ?_
  rintro e w1 ⟨rfl, hf⟩
  have F1 := Lib.hid hf
  clear hf
  go_wp2_with fail
  refine (HA.out _ (H.out.fr F1.out id id) (F1.out.obj HH.out id)).mono ?_
  rintro e w2 ⟨rfl, hm, hf⟩
  have M2 := Lib.hid hm
  have F2 := Lib.hid ((Fr.some F1.out fun _ e => e.elim).trans hf)
  clear hm hf
  go_wp2_with fail
  refine (HL.out _ M2.out).mono ?_
  rintro e w3 ⟨rfl, hm, hf⟩
  have M3 := Lib.hid hm
  have F3 := Lib.hid (F2.out.trans hf)
  clear hm hf
  go_wp2_with fail
  go_ret2
  exact ⟨rfl, M3.out, F3.out⟩

/-- The example's bytes, stage by stage. -/
def ex0 : List UInt8 := setv (List.replicate 1024 0) 8 0
def ex1 : List UInt8 := (cnewv 1024 16 ex0 8 0 4).2.2
theorem ex_new : cnewv 1024 16 ex0 8 0 4 = ((128, 0), 168, ex1) := by
  have h0 : (cnewv 1024 16 ex0 8 0 4).1 = (128, 0) := by decide +kernel
  have h1 : (cnewv 1024 16 ex0 8 0 4).2.1 = 168 := by decide +kernel
  unfold ex1
  obtain ⟨v, hv⟩ : ∃ v, cnewv 1024 16 ex0 8 0 4 = v := ⟨_, rfl⟩
  rw [hv] at h0 h1 ⊢
  exact Prod.ext h0 (Prod.ext h1 rfl)
theorem ex_is : isIn ex1 8 128 = true := by decide +kernel
def ex2 : List UInt8 := setc ex1 512 512
theorem ex2_cl : isCl ex2 128 = true := by decide +kernel
theorem ex2_size : (clv ex2 128).size = 8 := by decide +kernel
def ex3 : List UInt8 := setc ex2 (128 + 16) ((8 + 8 + 8 - 1) / 8 * 8)
theorem ex3_512 : cell ex3 512 = (512, 0) := by decide +kernel
theorem ex3_size : sizev ex3 128 = (16, 0) := by decide +kernel
theorem ex3_lay : (olay (setc (setc ex3 512 25) 536 488) 520 128 16).1 = 0 := by decide +kernel
def ex4 : List UInt8 := (olay (setc (setc ex3 512 25) 536 488) 520 128 16).2
theorem ex4_528 : cell ex4 528 = (0, 0) := by decide +kernel
theorem ex4_cls : ocls ex4 8 520 = (128, 0) := by decide +kernel
theorem ex1_length : ex1.length = 1024 := by decide +kernel

/-- The example's heap stays apart from what else is read. -/
structure Keeps (w : World) (wb gA cA p b : Nat) (v4 : Value) (c : Int) : Prop where
  blk : w.heap[wb]? = some (.cells #[.pointer (some ⟨p, 0, none⟩), .pointer (some ⟨b, 0, none⟩), .int .i64 8, .slice (some ⟨gA, 0, none⟩) 1 cA, v4] 56 (0, 0))
  one : w.cell? ⟨gA, 0, none⟩ = some (.int .i64 c)
theorem Keeps.fr {S : Nat → Prop} {w w' : World} {wb gA cA p b : Nat} {v4 : Value} {c : Int} (h : Keeps w wb gA cA p b v4 c) (f : Fr S w w') (h1 : ¬ S wb) (h2 : ¬ S gA) : Keeps w' wb gA cA p b v4 c := ⟨f.obj h.blk h1, f.cell h.one h2⟩
theorem Keeps.cells {w : World} {wb gA cA p b : Nat} {v4 : Value} {c : Int} (h : Keeps w wb gA cA p b v4 c) :
    w.cell? ⟨wb, 0, none⟩ = some (.pointer (some ⟨p, 0, none⟩)) ∧ w.cell? ⟨wb, 1, none⟩ = some (.pointer (some ⟨b, 0, none⟩)) ∧ w.cell? ⟨wb, 2, none⟩ = some (.int .i64 8) ∧ w.cell? ⟨wb, 3, none⟩ = some (.slice (some ⟨gA, 0, none⟩) 1 cA) ∧ w.cell? ⟨gA, 0, none⟩ = some (.int .i64 c) := by
  obtain ⟨h0, h1, h2, h3, _⟩ := five_cells h.blk
  exact ⟨h0, h1, h2, h3, h.one⟩

set_option maxRecDepth 100000 in
set_option maxHeartbeats 4000000 in
theorem lives13_any (w : World) : Calls Try.prog 37 #[] w fun e w' => e = .returned (.bool true) ∧ Fr (fun _ => False) w w' := by
  go_enter Try.func37, Try.ntmps37
  go_wp2_with fail
  refine (wnew_ok 1024 w (by omega) (by omega) (by omega)).mono ?_
  rintro e w1 ⟨p, g, b, rfl, hp0, hg0, hb0, hs, hf⟩
  have S1 := Lib.hid (hs.fr ((Fr.refl (fun _ => False) w1).alloc (.cells #[.pointer (some ⟨p, 0, none⟩), .pointer (some ⟨b, 0, none⟩), .int .i64 8, .slice none 0 0, .slice none 0 0] 56)) id id id)
  have O1 := Lib.hid (heap_alloc_last w1 (.cells #[.pointer (some ⟨p, 0, none⟩), .pointer (some ⟨b, 0, none⟩), .int .i64 8, .slice none 0 0, .slice none 0 0] 56))
  have F1 := Lib.hid (hf.alloc (.cells #[.pointer (some ⟨p, 0, none⟩), .pointer (some ⟨b, 0, none⟩), .int .i64 8, .slice none 0 0, .slice none 0 0] 56))
  have LT := Lib.hid hs.lt
  have LW := Lib.hid hf.size
  clear hs hf
  go_wp2_with fail
  refine (wmake_first w1.heap.size p g b 1024 16 168 ex0 ex1 8 128 4 0 _ O1.out S1.out (by omega) (by have := LT.out; omega) (by omega) ex_new ex_is (by omega)).mono ?_
  rintro e w2 ⟨rfl, ⟨v4, gA, cA, _, hob, hgA, hcl⟩, hs, hf⟩
  have hgA' : w1.heap.size + 1 ≤ gA := by simpa using hgA
  have K2 := Lib.hid (Keeps.mk hob hcl)
  have S2 := Lib.hid hs
  have F2 := Lib.hid (F1.out.after hf (S := fun _ => False) (fun k hk e => by have := LW.out; omega))
  have LT2 := Lib.hid (show b < w1.heap.size ∧ p < w1.heap.size ∧ g < w1.heap.size from LT.out)
  obtain ⟨wb, hwb⟩ : ∃ wb, w1.heap.size = wb := ⟨_, rfl⟩
  rw [hwb] at K2 LT2 hgA' LW ⊢
  have L2 := Lib.hid (lt_of_block K2.out.blk)
  clear hob hgA hcl hs hf hwb
  go_wp2_with fail
  refine (new_ok 1024 _ (by omega) (by omega)).mono ?_
  rintro e w3 ⟨rfl, hm, hf⟩
  have K3 := Lib.hid (K2.out.fr hf id id)
  have S3 := Lib.hid (S2.out.fr hf id id id)
  have F3 := Lib.hid (F2.out.trans hf)
  have L3 := Lib.hid hf.size
  obtain ⟨q0, q1, q2, q3, q4⟩ := K3.out.cells
  clear hm hf
  go_wp2_with fail
  refine (hnew_512 p g ex1 _ S3.out.mat ex1_length).mono ?_
  rintro e w4 ⟨rfl, hh, hm, hf⟩
  have K4 := Lib.hid (K3.out.fr hf (by have := LT2.out; omega) (by have := LT2.out; omega))
  have H4 := Lib.hid hh
  have M4 := Lib.hid (show Mat 108 w4 p g ex2 from hm)
  have F4 := Lib.hid (F3.out.after hf (S := fun _ => False) (fun k hk e => by omega))
  have HG := Lib.hid (show w3.heap.size ≠ g by have := S3.out.lt; omega)
  obtain ⟨hb, hhb⟩ : ∃ hb, w3.heap.size = hb := ⟨_, rfl⟩
  rw [hhb] at H4 HG ⊢
  obtain ⟨q0, q1, q2, q3, q4⟩ := K4.out.cells
  clear hh hm hf hhb
  have HNW := Lib.hid (show ¬ wb = g by have := LT2.out; omega)
  have HNA := Lib.hid (show ¬ gA = g by have := LT2.out; omega)
  have hgr := fun W h => cgrow_ok p g ex2 128 8 W h ex2_cl (by omega) (by rw [ex2_size]; omega)
  rw [ex2_size] at hgr
  have HGR := Lib.hid (show ∀ W, Mat 108 W p g ex2 → Calls Try.prog 39 #[.pointer (some ⟨p, 0, none⟩), .int .i64 128, .int .i64 8] W fun e w' => e = .returned (.tuple #[.int .i64 8, .int .i64 0]) ∧ Mat 108 w' p g ex3 ∧ Only g W w' from hgr)
  have HOH := Lib.hid (fun W h hh => oheap_512 hb p g ex3 128 W h hh ex3_512 HG.out (by omega) ex3_size ex3_lay)
  clear hgr
  go_wp2_with fail
  go_region_held3 (fun W => W.cell? ⟨wb, 0, none⟩ = some (.pointer (some ⟨p, 0, none⟩)) ∧ W.cell? ⟨wb, 3, none⟩ = some (.slice (some ⟨gA, 0, none⟩) 1 cA) ∧ W.cell? ⟨gA, 0, none⟩ = some (.int .i64 128) ∧ Fr (fun j => j = g) w4 W)
    ((go_split_ands; refine (fun hF => ⟨Fr.cell hF q0 HNW.out, Fr.cell hF q3 HNW.out, Fr.cell hF q4 HNA.out, hF⟩ : Fr (fun j => j = g) w4 _ → _) ?_; repeat' first | exact Fr.refl _ _ | assumption | apply Fr.drew | apply Fr.alloc))
    (first | (go_at_call 39; go_split_ands; refine (HGR.out _ (Mat.drew M4.out)).mono ?_; rintro e w5 ⟨rfl, hm, hf⟩; have hf5 := Fr.undrew hf) | fail)
  have M5 := Lib.hid hm
  have K5 := Lib.hid (K4.out.fr hf5 HNW.out HNA.out)
  have H5 := Lib.hid (hf5.obj H4.out HG.out)
  have F5 := Lib.hid (F4.out.after hf5 (S := fun _ => False) (fun k hk e => by omega))
  clear hm hf hf5 q0 q1 q2 q3 q4
  obtain ⟨q0, q1, q2, q3, q4⟩ := K5.out.cells
  go_wp2_with fail
  go_region_held3 (fun W => W.cell? ⟨wb, 0, none⟩ = some (.pointer (some ⟨p, 0, none⟩)) ∧ W.cell? ⟨wb, 3, none⟩ = some (.slice (some ⟨gA, 0, none⟩) 1 cA) ∧ W.cell? ⟨gA, 0, none⟩ = some (.int .i64 128) ∧ Fr (fun j => j = g) w5 W)
    ((go_split_ands; refine (fun hF => ⟨Fr.cell hF q0 HNW.out, Fr.cell hF q3 HNW.out, Fr.cell hF q4 HNA.out, hF⟩ : Fr (fun j => j = g) w5 _ → _) ?_; repeat' first | exact Fr.refl _ _ | assumption | apply Fr.drew | apply Fr.alloc))
    (first | (go_at_call 40; go_split_ands; refine (HOH.out _ (Mat.drew M5.out) H5.out).mono ?_; rintro e w6 ⟨rfl, hm, hf⟩; have hf6 := Fr.undrew hf) | fail)
  have M6 := Lib.hid (show Mat 108 w6 p g ex4 from hm)
  have K6 := Lib.hid (K5.out.fr hf6 HNW.out HNA.out)
  have F6 := Lib.hid (F5.out.after hf6 (S := fun _ => False) (fun k hk e => by omega))
  clear hm hf hf6 q0 q1 q2 q3 q4
  obtain ⟨q0, q1, q2, q3, q4⟩ := K6.out.cells
  have hce := fun W h => cell_any p g ex4 528 W h
  rw [ex4_528] at hce
  have hoc := fun W h => ocls_any p g ex4 8 520 W h
  rw [ex4_cls] at hoc
  have HCE := Lib.hid hce
  have HOC := Lib.hid hoc
  clear hce hoc
  go_wp2_with fail
  refine (HCE.out _ M6.out).mono ?_
  rintro e w7 ⟨rfl, h0⟩
  obtain rfl := h0.symm
  go_wp2_with fail
  refine (HOC.out _ M6.out).mono ?_
  rintro e w7 ⟨rfl, hf⟩
  have F7 := Lib.hid (F6.out.trans hf)
  have K7 := Lib.hid (K6.out.fr hf id id)
  clear hf q0 q1 q2 q3 q4
  obtain ⟨q0, q1, q2, q3, q4⟩ := K7.out.cells
  go_wp2_with fail
  go_ret
  exact ⟨rfl, F7.out⟩
end Go.Proofs.Ytajeiccfgnpbpaa.Mem.L
