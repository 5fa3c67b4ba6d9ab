/- Contracts of package heap at a heap of one unused block of 512 bytes: New, walk, split, Alloc. -/
import Derived.Test.YtajeiccfgnpbpaaHeapA
namespace Go.Proofs.Ytajeiccfgnpbpaa.Mem
open Go.RowKit

set_option maxRecDepth 100000 in
set_option maxHeartbeats 1000000 in
theorem hnew_512 (p g : Nat) (bs : List UInt8) (w : World) (h : Mat 108 w p g bs) (hl : bs.length = 1024) :
    Calls Try.prog 38 #[.pointer (some ⟨p, 0, none⟩), .int .i64 512, .int .i64 1024] w
      fun e w' => e = .returned (.tuple #[.pointer (some ⟨w.heap.size, 0, none⟩), .int .i64 0]) ∧ Heap w' w.heap.size p 512 1024 ∧ Mat 108 w' p g (setc bs 512 512) ∧ Only g w w' := by
  have HS := size_any p g bs w h
  rw [hl] at HS
  have HSS := Lib.hid HS
  have FA := Lib.hid ((Fr.refl (fun _ => False) w).alloc (.cells #[.pointer (some ⟨p, 0, none⟩), .int .i64 512, .int .i64 1024] 156))
  have OA := Lib.hid (heap_alloc_last w (.cells #[.pointer (some ⟨p, 0, none⟩), .int .i64 512, .int .i64 1024] 156))
  have hp := hput_any w.heap.size p g bs 512 1024 512 512 false _ (h.fr FA.out id id) OA.out (by omega)
  rw [if_neg (by decide)] at hp
  have HP := Lib.hid hp
  have HG := Lib.hid h.lt
  clear h hl HS hp
  go_enter Try.func38, Try.ntmps38
  go_wp2_with (go_at_call 51; refine HSS.out.mono ?_; rintro e w' ⟨rfl, h0⟩; obtain rfl := h0.symm)
  refine HP.out.mono ?_
  rintro e w1 ⟨rfl, hm, hf⟩
  have M1 := Lib.hid hm
  have O1 := Lib.hid (hf.obj OA.out (by have := HG.out; omega))
  have F1 := Lib.hid ((Fr.some FA.out fun _ e => e.elim).trans hf)
  clear hm hf
  go_wp2_with fail
  go_ret2
  exact ⟨rfl, O1.out, M1.out, F1.out⟩

theorem three_app {x0 x1 x2 : Value} {rest : Array Value} {t : TypeId} (w : World) (o : Obj) {n : Nat} (hs : w.heap.size = n) :
    ((w.alloc o).alloc (.cells (#[x0, x1, x2] ++ rest) t)).drew.cell? ⟨n + 1, 0, none⟩ = some x0 ∧ ((w.alloc o).alloc (.cells (#[x0, x1, x2] ++ rest) t)).drew.cell? ⟨n + 1, 1, none⟩ = some x1 ∧ ((w.alloc o).alloc (.cells (#[x0, x1, x2] ++ rest) t)).drew.cell? ⟨n + 1, 2, none⟩ = some x2 := by
  subst hs
  have hb := heap_alloc_last (w.alloc o) (.cells (#[x0, x1, x2] ++ rest) t)
  have hz : (w.alloc o).heap.size = w.heap.size + 1 := by simp
  rw [hz] at hb
  have hb' : ((w.alloc o).alloc (.cells (#[x0, x1, x2] ++ rest) t)).drew.heap[w.heap.size + 1]? = some (.cells (#[x0, x1, x2] ++ rest) t) := hb
  refine ⟨?_, ?_, ?_⟩ <;> rw [cell_of_row _ _ _ _ _ _ hb'] <;> simp [Array.getElem?_append]

set_option maxRecDepth 100000 in
set_option maxHeartbeats 2000000 in
theorem hwalk_512 (hb p g : Nat) (bs : List UInt8) (w : World) (h : Mat 108 w p g bs) (hh : Heap w hb p 512 1024) (hc : cell bs 512 = (512, 0)) :
    Calls Try.prog 111 #[.pointer (some ⟨hb, 0, none⟩)] w
      fun e w' => ∃ gA cA : Nat, e = .returned (.tuple #[.slice (some ⟨gA, 0, none⟩) 1 cA, .int .i64 0]) ∧ (w'.cell? ⟨gA, 0, none⟩ = some (.int .i64 512) ∧ w'.cell? ⟨gA, 1, none⟩ = some (.int .i64 512) ∧ w'.cell? ⟨gA, 2, none⟩ = some (.bool false)) ∧ Fr (fun _ => False) w w' := by
  obtain ⟨q0, q1, q2, _, _, _, _⟩ := three_cells hh
  have hcl := cell_any p g bs 512 w h
  rw [hc] at hcl
  have HC := Lib.hid hcl
  have b1 : bits .andNot .i64 512 1 = 512 := by decide +kernel
  have b2 : bits .and .i64 512 1 = 0 := by decide +kernel
  clear h hcl hc
  go_enter Try.func111, Try.ntmps111
  go_wp2_with fail
  go_loopw [4, 5] (fun lv av wr => (lv = .slice none 0 0 ∧ av = .int .i64 512 ∧ wr = w) ∨ (∃ gA cA : Nat, lv = .slice (some ⟨gA, 0, none⟩) 1 cA ∧ av = .int .i64 1024 ∧ (wr.cell? ⟨gA, 0, none⟩ = some (.int .i64 512) ∧ wr.cell? ⟨gA, 1, none⟩ = some (.int .i64 512) ∧ wr.cell? ⟨gA, 2, none⟩ = some (.bool false)) ∧ Fr (fun _ => False) w wr)) (fun _ av _ => (1024 - intOf av).toNat)
  case atStart => exact .inl ⟨rfl, rfl, rfl⟩
  case round =>
    rcases hrel with ⟨rfl, rfl, rfl⟩ | ⟨gA, cA, rfl, rfl, hcs, hF⟩
    · go_wp2_with (go_at_call 46; refine HC.out.mono ?_; rintro e w' ⟨rfl, h0⟩; obtain rfl := h0.symm)
      go_quiet (fail)
      go_wp2_with fail
      refine ⟨.inr ⟨_, _, rfl, rfl, ?_, ?_⟩, by simp [intOf]⟩
      · have hs : ((wr.alloc (.cells #[.int .i64 512, .int .i64 512, .bool false] 159)).drewN nq).heap.size = wr.heap.size + 1 := by
          show (wr.alloc (.cells #[.int .i64 512, .int .i64 512, .bool false] 159)).heap.size = _
          simp
        exact three_app _ _ hs
      · repeat' first | exact Fr.refl _ _ | apply Fr.drew | apply Fr.drewN | apply Fr.alloc
    · have k0 := Fr.cell hF q0 id
      have k1 := Fr.cell hF q1 id
      have k2 := Fr.cell hF q2 id
      go_wp2
      go_ret2
      exact ⟨gA, cA, rfl, hcs, hF⟩

set_option maxRecDepth 100000 in
set_option maxHeartbeats 1000000 in
theorem hsplit_512 (hb p g : Nat) (bs : List UInt8) (w : World) (h : Mat 108 w p g bs) (hh : Heap w hb p 512 1024) (hg : hb ≠ g) :
    Calls Try.prog 113 #[.pointer (some ⟨hb, 0, none⟩), .agg #[.int .i64 512, .int .i64 512, .bool false], .int .i64 24] w
      fun e w' => e = .returned (.tuple #[]) ∧ Mat 108 w' p g (setc (setc bs 512 25) 536 488) ∧ Only g w w' := by
  have HP1 := Lib.hid (fun w h hh => hput_any hb p g bs 512 1024 512 24 true w h hh (by omega))
  have HP2 := Lib.hid (fun w h hh => hput_any hb p g (setc bs 512 25) 512 1024 536 488 false w h hh (by omega))
  have FA := Lib.hid (((Fr.refl (fun _ => False) w).alloc (.cells #[.int .i64 512, .int .i64 512, .bool false] 159)).alloc (.cells #[.int .i64 536, .int .i64 488, .bool false] 159))
  have hob := heap_alloc_last (w.alloc (.cells #[.int .i64 512, .int .i64 512, .bool false] 159)) (.cells #[.int .i64 536, .int .i64 488, .bool false] 159)
  rw [show (w.alloc (.cells #[.int .i64 512, .int .i64 512, .bool false] 159)).heap.size = w.heap.size + 1 by simp] at hob
  have HOB := Lib.hid hob
  have H := Lib.hid h
  have HH := Lib.hid hh
  have HG := Lib.hid (And.intro h.lt hg)
  clear h hh hob
  go_enter Try.func113, Try.ntmps113
  go_wp2_with fail
  refine (HP1.out _ (H.out.fr FA.out id id) (FA.out.obj HH.out id)).mono ?_
  rintro e w1 ⟨rfl, hm, hf⟩
  have M1 := Lib.hid hm
  have O1 := Lib.hid (hf.obj (FA.out.obj HH.out id) HG.out.2)
  obtain ⟨q0, q1, q2, _, _, _, _⟩ := three_cells (hf.obj HOB.out (by have := HG.out.1.2; omega))
  have F1 := Lib.hid ((Fr.some FA.out fun _ e => e.elim).trans hf)
  clear hm hf
  go_wp2_with fail
  refine (HP2.out _ M1.out O1.out).mono ?_
  rintro e w2 ⟨rfl, hm, hf⟩
  have M2 := Lib.hid hm
  have F2 := Lib.hid (F1.out.trans hf)
  clear hm hf
  go_wp2_with fail
  (try simp only [Exit.inBlock, Exit.then])
  first
  | exact bodyPost_end (results_none rfl _ _ _) rfl ⟨rfl, M2.out, F2.out⟩
  | exact bodyPost_ret (results_none rfl _ _ _) rfl ⟨rfl, M2.out, F2.out⟩

set_option maxRecDepth 100000 in
set_option maxHeartbeats 1000000 in
theorem roundUp_any (n : Int) (h : 0 ≤ n ∧ n ≤ 1048576) (w : World) :
    Calls Try.prog 112 #[.int .i64 n] w fun e w' => e = .returned (.int .i64 ((n + 8 - 1) / 8 * 8)) ∧ w' = w := by
  go_enter Try.func112, Try.ntmps112
  go_wp2
  go_ret
  exact ⟨rfl, rfl⟩

set_option maxRecDepth 100000 in
set_option maxHeartbeats 2000000 in
theorem halloc_512 (hb p g : Nat) (bs : List UInt8) (w : World) (h : Mat 108 w p g bs) (hh : Heap w hb p 512 1024) (hc : cell bs 512 = (512, 0)) (hg : hb ≠ g) :
    Calls Try.prog 89 #[.pointer (some ⟨hb, 0, none⟩), .int .i64 16] w
      fun e w' => e = .returned (.tuple #[.int .i64 520, .int .i64 0]) ∧ Mat 108 w' p g (setc (setc bs 512 25) 536 488) ∧ Only g w w' := by
  have HW := Lib.hid (hwalk_512 hb p g bs w h hh hc)
  have HR := Lib.hid (fun w => roundUp_any 24 (by omega) w)
  have HS := Lib.hid (fun w h hh => hsplit_512 hb p g bs w h hh hg)
  have H := Lib.hid h
  have HH := Lib.hid hh
  have HG := Lib.hid h.lt
  clear h hh hc
  go_enter Try.func89, Try.ntmps89
  go_wp2_with fail
  refine HW.out.mono ?_
  rintro e w1 ⟨gA, cA, rfl, ⟨k0, k1, k2⟩, hf⟩
  have F1 := Lib.hid hf
  clear hf
  go_wp2_with fail
  refine (HR.out _).mono ?_
  rintro e w' ⟨rfl, h0⟩
  obtain rfl := h0.symm
  go_wp2_with fail
  rw [show max (16 : Int) 24 = 24 from rfl]
  have F2 := Lib.hid (F1.out.alloc (.cells #[.int .i64 512, .int .i64 512, .bool false] 159))
  have O2 := heap_alloc_last w1 (.cells #[.int .i64 512, .int .i64 512, .bool false] 159)
  have HO2 := Lib.hid O2
  clear O2
  refine wp_loop_rounds 1 ?_
  rw [rounds_succ]
  go_wp2_with fail
  refine (HS.out _ (H.out.fr F2.out id id) (F2.out.obj HH.out id)).mono ?_
  rintro e w2 ⟨rfl, hm, hf⟩
  have M2 := Lib.hid hm
  have F3 := Lib.hid ((Fr.some F2.out fun _ e => e.elim).trans hf)
  obtain ⟨q0, q1, q2, _, _, _, _⟩ := three_cells (hf.obj HO2.out (by have := HG.out.2; have := F1.out.size; omega))
  clear hm hf
  go_wp2_with fail
  go_ret2
  exact ⟨rfl, M2.out, F3.out⟩
end Go.Proofs.Ytajeiccfgnpbpaa.Mem
