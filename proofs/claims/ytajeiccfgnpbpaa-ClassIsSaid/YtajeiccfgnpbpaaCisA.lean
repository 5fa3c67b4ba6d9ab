/- The statement ClassIs: its example. -/
import Derived.Test.YtajeiccfgnpbpaaClsJ
namespace Go.Proofs.Ytajeiccfgnpbpaa.Mem
open Go.RowKit

/-- The example's bytes, stage by stage. -/
def cx0 : List UInt8 := setv (List.replicate 1024 0) 8 0
def cx1 : List UInt8 := (cnewv 1024 16 cx0 8 0 4).2.2
theorem cx_new : cnewv 1024 16 cx0 8 0 4 = ((128, 0), 168, cx1) := by
  have h0 : (cnewv 1024 16 cx0 8 0 4).1 = (128, 0) := by decide +kernel
  have h1 : (cnewv 1024 16 cx0 8 0 4).2.1 = 168 := by decide +kernel
  unfold cx1
  obtain ⟨v, hv⟩ : ∃ v, cnewv 1024 16 cx0 8 0 4 = v := ⟨_, rfl⟩
  rw [hv] at h0 h1 ⊢
  exact Prod.ext h0 (Prod.ext h1 rfl)
theorem cx_vis : visited cx1 8 = [⟨128, 0, 8, 16, 0⟩] := by kernel_rfl
theorem cx_may : may cx1 16 3 = true := by decide +kernel
def cx2 : List UInt8 := putb cx1 16 ⟨3, 77, 128⟩
def cx3 : List UInt8 := (cnewv 1024 168 cx2 8 128 0).2.2
theorem cx_new2 : cnewv 1024 168 cx2 8 128 0 = ((280, 0), 320, cx3) := by
  have h0 : (cnewv 1024 168 cx2 8 128 0).1 = (280, 0) := by decide +kernel
  have h1 : (cnewv 1024 168 cx2 8 128 0).2.1 = 320 := by decide +kernel
  unfold cx3
  obtain ⟨v, hv⟩ : ∃ v, cnewv 1024 168 cx2 8 128 0 = v := ⟨_, rfl⟩
  rw [hv] at h0 h1 ⊢
  exact Prod.ext h0 (Prod.ext h1 rfl)
theorem cx_look : ∃ n, lookv cx3 280 3 = (⟨3, 77, 128⟩, n, true) := by
  have h0 : (lookv cx3 280 3).1 = ⟨3, 77, 128⟩ := by kernel_rfl
  have h1 : (lookv cx3 280 3).2.2 = true := by decide +kernel
  obtain ⟨⟨e, n, k⟩, hv⟩ : ∃ v, lookv cx3 280 3 = v := ⟨_, rfl⟩
  rw [hv] at h0 h1 ⊢
  obtain rfl : e = ⟨3, 77, 128⟩ := h0
  obtain rfl : k = true := h1
  exact ⟨n, rfl⟩

set_option maxRecDepth 100000 in
set_option maxHeartbeats 4000000 in
theorem lives11_any (w : World) : Calls Try.prog 24 #[] w fun e w' => e = .returned (.bool true) ∧ Fr (fun _ => False) w w' := by
  obtain ⟨nl, hlook⟩ := cx_look
  go_enter Try.func24, Try.ntmps24
  go_wp2_with fail
  refine (new_ok 1024 w (by omega) (by omega)).mono ?_
  rintro e w1 ⟨rfl, hm, hf⟩
  have M1 := Lib.hid hm
  have F1 := Lib.hid hf
  have L1 := Lib.hid hm.lt
  clear hm hf
  obtain ⟨g, hg⟩ : ∃ g, w.heap.size = g := ⟨_, rfl⟩
  rw [hg] at M1 L1 ⊢
  have HGW := Lib.hid hg
  clear hg
  go_wp2_with fail
  refine (snew_ok (g + 1) g 8 1024 _ _ M1.out (by omega) (by simp)).mono ?_
  rintro e w2 ⟨rfl, hs, hf⟩
  have S2 := Lib.hid hs
  have F2 := Lib.hid (F1.out.trans hf)
  obtain ⟨b, hb⟩ : ∃ b, w1.heap.size = b := ⟨_, rfl⟩
  rw [hb] at S2 L1 ⊢
  clear hs hf hb
  have BW : ∀ k, k < w.heap.size → (k = b ∨ k = g) → False := fun k hk e => by have := HGW.out; have := L1.out; omega
  have HBW := Lib.hid BW
  clear BW
  go_wp2_with fail
  refine (croot_ok b (g + 1) g 8 1024 8 _ _ S2.out (by omega) (by omega)).mono ?_
  rintro e w3 ⟨rfl, hs, hf⟩
  have S3 := Lib.hid (show Sat w3 b (g + 1) g 8 1024 16 cx0 from hs)
  have F3 := Lib.hid (F2.out.after hf (S := fun _ => False) HBW.out)
  clear hs hf
  go_wp2_with fail
  have hc := cnew_any b (g + 1) g 8 1024 16 cx0 8 0 4 _ S3.out (by omega) (by omega)
  rw [cx_new] at hc
  refine hc.mono ?_
  rintro e w4 ⟨rfl, hs, hf⟩
  have S4 := Lib.hid hs
  have F4 := Lib.hid (F3.out.after hf (S := fun _ => False) HBW.out)
  clear hs hf hc
  go_wp2_with fail
  refine (set_one (g + 1) g cx1 8 3 77 ⟨128, 0, 8, 16, 0⟩ _ S4.out.mat cx_vis rfl rfl (by omega) cx_may).mono ?_
  rintro e w5 ⟨rfl, hm, hf⟩
  have S5 := Lib.hid (show Sat w5 b (g + 1) g 8 1024 168 cx2 from S4.out.wrote hf hm (putb_length _ _ _))
  have F5 := Lib.hid (F4.out.after hf (S := fun _ => False) (fun k hk e => HBW.out k hk (.inr e)))
  clear hm hf
  go_wp2_with fail
  have hc := cnew_any b (g + 1) g 8 1024 168 cx2 8 128 0 _ S5.out (by omega) (by omega)
  rw [cx_new2] at hc
  refine hc.mono ?_
  rintro e w6 ⟨rfl, hs, hf⟩
  have S6 := Lib.hid hs
  have F6 := Lib.hid (F5.out.after hf (S := fun _ => False) HBW.out)
  clear hs hf hc
  go_wp2_with fail
  have hl := clookup_any (g + 1) g cx3 280 3 _ S6.out.mat (by omega)
  rw [hlook] at hl
  simp only [entv] at hl
  refine hl.mono ?_
  rintro e w7 ⟨rfl, hf⟩
  have F7 := Lib.hid (F6.out.trans hf)
  clear hf hl hlook
  go_wp2_with fail
  go_ret
  exact ⟨rfl, F7.out.alloc _⟩
end Go.Proofs.Ytajeiccfgnpbpaa.Mem
