/- The statement TableActs: what is looked at behind each act, and its example. -/
import Derived.Test.YtajeiccfgnpbpaaTlaA
namespace Go.Proofs.Ytajeiccfgnpbpaa.Mem
open Go.RowKit

theorem all_length (bs : List UInt8) (t : Int) : (all bs t).length ≤ 1024 := by
  unfold all
  have h1 := allk_length bs t (slots bs t).toNat
  have h2 := slots_bd bs t
  omega

set_option maxRecDepth 100000 in
set_option maxHeartbeats 4000000 in
theorem looks_any (p g q r : Nat) (bs : List UInt8) (t sel : Int) (w : World) (h : Mat 108 w p g bs) (k : Mat 112 w q r bs) :
    Calls Try.prog 23 #[.pointer (some ⟨p, 0, none⟩), .pointer (some ⟨q, 0, none⟩), .int .i64 t, .int .i64 sel] w fun e w' => e = .returned (.bool true) ∧ Fr (fun _ => False) w w' := by
  have H := Lib.hid h
  have K := Lib.hid k
  have HG := Lib.hid (fun w h => get_any p g bs t sel w h)
  have HGr := Lib.hid (fun w h => rget_any q r bs t sel w h)
  rw [getl_eq] at HGr
  have HM := Lib.hid (fun w h => may_any p g bs t sel w h)
  have HMr := Lib.hid (fun w h => rmay_any q r bs t sel w h)
  have HS := Lib.hid (fun w h => slots_any p g bs t w h)
  have HSr := Lib.hid (fun w h => rslots_any q r bs t w h)
  have HA := Lib.hid (fun w h => all_any p g bs t w h)
  have HAr := Lib.hid (fun w h => rall_any q r bs t w h)
  have HL := Lib.hid (all_length bs t)
  clear h k
  obtain ⟨L, hL⟩ : ∃ L, all bs t = L := ⟨_, rfl⟩
  obtain ⟨⟨⟨e0, e1, e2⟩, n, ok⟩, hv⟩ : ∃ v, getv bs t sel = v := ⟨_, rfl⟩
  obtain ⟨mb, hmb⟩ : ∃ v, may bs t sel = v := ⟨_, rfl⟩
  obtain ⟨sl, hsl⟩ : ∃ v, slots bs t = v := ⟨_, rfl⟩
  rw [hL] at HA HAr HL
  rw [hv] at HG HGr
  rw [hmb] at HM HMr
  rw [hsl] at HS HSr
  simp only [entv] at HG HGr
  clear hL hv hmb hsl
  go_enter Try.func23, Try.ntmps23
  go_wp2_with fail
  refine (HG.out _ H.out).mono ?_
  rintro e w1 ⟨rfl, hf⟩
  have F1 := Lib.hid (hf.alloc (.cells #[.int .i64 e0, .int .i64 e1, .int .i64 e2] 38))
  have O1 := Lib.hid (heap_alloc_last w1 (.cells #[.int .i64 e0, .int .i64 e1, .int .i64 e2] 38))
  clear hf
  go_wp2_with fail
  refine (HGr.out _ (K.out.fr F1.out id id)).mono ?_
  rintro e w2 ⟨rfl, hf⟩
  have ho1 := hf.obj O1.out id
  obtain ⟨y0, y1, y2, _, _, _, hlt⟩ := three_cells ho1
  have F2 := Lib.hid ((F1.out.trans hf).alloc (.cells #[.int .i64 e0, .int .i64 e1, .int .i64 e2] 48))
  clear hf ho1
  go_wp2_with fail
  refine (HM.out _ (H.out.fr F2.out id id)).mono ?_
  rintro e w3 ⟨rfl, hf⟩
  have F3 := Lib.hid (F2.out.trans hf)
  clear hf
  go_wp2_with fail
  refine (HMr.out _ (K.out.fr F3.out id id)).mono ?_
  rintro e w4 ⟨rfl, hf⟩
  have F4 := Lib.hid (F3.out.trans hf)
  clear hf
  go_wp2_with fail
  refine (HS.out _ (H.out.fr F4.out id id)).mono ?_
  rintro e w5 ⟨rfl, h0⟩
  obtain rfl := h0.symm
  go_wp2_with fail
  refine (HSr.out _ (K.out.fr F4.out id id)).mono ?_
  rintro e w5 ⟨rfl, h0⟩
  obtain rfl := h0.symm
  go_wp2_with fail
  refine (HA.out _ (H.out.fr F4.out id id)).mono ?_
  rintro e w5 ⟨v1, rfl, ho, hf⟩
  have O5 := Lib.hid ho
  have F5 := Lib.hid (F4.out.trans hf)
  clear hf ho
  go_wp2_with fail
  refine (entries_any v1 L _ _ O5.out HL.out).mono ?_
  rintro e w6 ⟨v2, rfl, ho, hf⟩
  have O6 := Lib.hid ho
  have F6 := Lib.hid (F5.out.trans hf)
  clear hf ho
  go_wp2_with fail
  refine (HAr.out _ (K.out.fr F6.out id id)).mono ?_
  rintro e w7 ⟨v3, rfl, ho, hf⟩
  have O7 := Lib.hid ho
  have O67 := Lib.hid (hf.owns O6.out (fun _ _ => id))
  have F7 := Lib.hid (F6.out.trans hf)
  clear hf ho
  go_wp2_with fail
  refine (equal_any v2 v3 L _ _ _ O67.out O7.out HL.out).mono ?_
  rintro e w8 ⟨rfl, hf⟩
  have F8 := Lib.hid (F7.out.trans hf)
  clear hf
  go_wp2
  go_ret
  exact ⟨rfl, F8.out⟩
end Go.Proofs.Ytajeiccfgnpbpaa.Mem
