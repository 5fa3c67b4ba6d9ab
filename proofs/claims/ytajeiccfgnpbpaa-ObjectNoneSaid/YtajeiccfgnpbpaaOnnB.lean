/- The statement ObjectNone: its walk. -/
import Derived.Test.YtajeiccfgnpbpaaOnnP
import Derived.Deep.DeepCutAuto
namespace Go.Proofs.Ytajeiccfgnpbpaa.Mem
open Go.RowKit

/-- What holds behind the first write: one class, and no other one where the statement looks for one. -/
def Mid1 (w : World) (wb gA cA p g b : Nat) (v4 : Value) (a : Int) (wc : World) : Prop :=
  ∃ bs, Sat wc b p g 8 1024 144 bs ∧ Keeps wc wb gA cA p b v4 104 ∧ One bs ∧ ((cell bs 520).1 = magic → a = 520 ∧ (cell bs a).2 = 0) ∧ Fr (fun _ => False) w wc

theorem made {bs : List UInt8} {a : Int} (h : One bs) (hX : (cell bs 520).1 = magic → a = 520 ∧ (cell bs a).2 = 0) (ha : a ≤ 96 ∨ 144 ≤ a) :
    ∃ bs2, omake bs a 104 = ((cell bs a).2, bs2) ∧ Cls104 bs2 ∧ ((cell bs a).2 = 0 → cell bs2 a = (104, 0)) ∧ (sizev bs2 520).2 = -2048 := by
  by_cases hd : (cell bs a).2 = 0
  · refine ⟨setc bs a 104, ?_, h.toCls104.set a 104 ha, fun _ => cell_setc_same _ _ _ hd (by omega), none_520 ?_⟩
    · rw [make_ok h.toCls104 a hd, hd]
    · by_cases h5 : a = 520
      · subst h5
        rw [cell_setc_same _ _ _ hd (by omega)]
        decide
      · obtain ⟨_, _, h8⟩ := cell_code hd
        rw [cell_setc_other _ _ _ _ (by omega)]
        exact fun e => h5 (hX e).1
  · exact ⟨bs, make_bad h.toCls104 a hd, h.toCls104, fun e => absurd e hd, none_520 fun e => hd (hX e).2⟩

set_option maxRecDepth 100000 in
set_option maxHeartbeats 4000000 in
theorem objectNone_any (a n : Int) (w : World) :
    Calls Try.prog 8 #[.int .i64 a, .int .i64 n] w fun e w' => e = .returned (.bool true) ∧ Fr (fun _ => False) w w' := by
  go_enter Try.func8, Try.ntmps8
  go_wp2_with fail
  refine (lives13_any _).mono ?_
  rintro e w0 ⟨rfl, hf⟩
  have F0 := Lib.hid hf
  clear hf
  go_wp2_with fail
  refine (wnew_ok 1024 w0 (by omega) (by omega) (by omega)).mono ?_
  rintro e w1 ⟨p, g, b, rfl, hp0, hg0, hb0, hs, hf⟩
  have S1 := Lib.hid (hs.fr ((Fr.refl (fun _ => False) w1).alloc (.cells #[.pointer (some ⟨p, 0, none⟩), .pointer (some ⟨b, 0, none⟩), .int .i64 8, .slice none 0 0, .slice none 0 0] 56)) id id id)
  have O1 := Lib.hid (heap_alloc_last w1 (.cells #[.pointer (some ⟨p, 0, none⟩), .pointer (some ⟨b, 0, none⟩), .int .i64 8, .slice none 0 0, .slice none 0 0] 56))
  have F1 := Lib.hid ((F0.out.trans hf).alloc (.cells #[.pointer (some ⟨p, 0, none⟩), .pointer (some ⟨b, 0, none⟩), .int .i64 8, .slice none 0 0, .slice none 0 0] 56))
  have LT := Lib.hid hs.lt
  have LW := Lib.hid (And.intro F0.out.size hf.size)
  clear hs hf
  go_wp2_with fail
  refine (wmake_first w1.heap.size p g b 1024 16 144 ex0 on1 8 104 3 0 _ O1.out S1.out (by omega) (by have := LT.out; omega) (by omega) on_new (by rw [on_one.isIn]; decide) (by omega)).mono ?_
  rintro e w2 ⟨rfl, ⟨v4, gA, cA, _, hob, hgA, hcl⟩, hs, hf⟩
  have hgA' : w1.heap.size + 1 ≤ gA := by simpa using hgA
  have K2 := Lib.hid (Keeps.mk hob hcl)
  have S2 := Lib.hid hs
  have F2 := Lib.hid (F1.out.after hf (S := fun _ => False) (fun k hk e => by have := LW.out; omega))
  have LT2 := Lib.hid (show b < w1.heap.size ∧ p < w1.heap.size ∧ g < w1.heap.size from LT.out)
  have LB := Lib.hid (show w.heap.size ≤ g ∧ w.heap.size ≤ b by have := LW.out; omega)
  obtain ⟨wb, hwb⟩ : ∃ wb, w1.heap.size = wb := ⟨_, rfl⟩
  rw [hwb] at K2 LT2 hgA' LW ⊢
  have HNW := Lib.hid (show ¬ wb = g by have := LT2.out; omega)
  have HNA := Lib.hid (show ¬ gA = g by have := LT2.out; omega)
  obtain ⟨q0, q1, q2, q3, q4⟩ := K2.out.cells
  clear hob hgA hcl hs hf hwb hp0 hg0 hb0
  go_upto_region 8 with (fail)
  go_cut [52] (fun v wx => (∃ cb : Bool, v = .bool cb ∧ (cb = true → 512 ≤ a ∧ a ≤ 1016 ∧ a % 8 = 0)) ∧ wx = w2)
  case first =>
    rcases (by omega : a < 512 ∨ (512 ≤ a ∧ 1016 < a) ∨ (512 ≤ a ∧ a ≤ 1016 ∧ a % 8 ≠ 0) ∨ (512 ≤ a ∧ a ≤ 1016 ∧ a % 8 = 0)) with h1 | ⟨h1, h2⟩ | ⟨h1, h2, h3⟩ | ⟨h1, h2, h3⟩
    · go_wp2_with fail
      go_meet
      case rel => exact ⟨⟨false, rfl, fun e => by cases e⟩, rfl⟩
    · go_wp2_with fail
      go_meet
      case rel => exact ⟨⟨false, rfl, fun e => by cases e⟩, rfl⟩
    · have h3' : (a % 8 == 0) = false := by simp [h3]
      have H3 := Lib.hid h3
      clear h3
      go_wp2_with fail
      go_meet
      case rel => exact ⟨⟨false, rfl, fun e => by cases e⟩, rfl⟩
    · have h3' : (a % 8 == 0) = true := by simp [h3]
      have H3 := Lib.hid h3
      clear h3
      go_wp2_with fail
      go_meet
      case rel => exact ⟨⟨true, rfl, fun _ => ⟨h1, h2, H3.out⟩⟩, rfl⟩
  case rest =>
  obtain ⟨⟨cb, rfl, hcb⟩, rfl⟩ := hcut
  have HCB := Lib.hid hcb
  clear hcb
  go_upto_if 52 with (fail)
  go_cut [] (fun wc => Mid1 w wb gA cA p g b v4 a wc)
  case first =>
    cases cb with
    | true =>
      obtain ⟨h1, h2, h3⟩ := HCB.out rfl
      have H3 := Lib.hid h3
      clear h3
      have HX := Lib.hid (fun w h => setCell_any p g on1 a n w h)
      go_wp2_with fail
      refine (HX.out _ S2.out.mat).mono ?_
      rintro e w3 ⟨rfl, hm, hf⟩
      have M3 := Lib.hid hm
      have F3 := Lib.hid hf
      clear hm hf
      go_wp2_with fail
      go_meet
      case rel =>
        refine ⟨setc on1 a n, S2.out.wrote F3.out M3.out (setc_length _ _ _), K2.out.fr F3.out HNW.out HNA.out, on_one.set a n (by omega), fun e => ?_, F2.out.after F3.out (fun k hk e => by have := LB.out; omega)⟩
        by_cases h5 : a = 520
        · subst h5
          refine ⟨rfl, ?_⟩
          unfold cell
          rw [setc_length, on_one.len, if_pos (code_of (by omega) (by omega) (by omega))]
        · have h3 := H3.out
          rw [cell_setc_other _ _ _ _ (by omega)] at e
          exact absurd e on_520
    | false =>
      go_wp2_with fail
      go_meet
      case rel => exact ⟨on1, S2.out, K2.out, on_one, fun e => absurd e on_520, F2.out⟩
  case rest =>
    obtain ⟨bs, hS, hK, hO, hX, hF⟩ := hcut
    have S3 := Lib.hid hS
    have K3 := Lib.hid hK
    have F3 := Lib.hid hF
    obtain ⟨q0, q1, q2, q3, q4⟩ := hK.cells
    have hce := fun W h => cell_any p g bs a W h
    have hoc := fun W h => ocls_any p g bs 8 a W h
    have hos := fun W h => osend_any p g bs 8 a 1 W h
    have hmade := @made bs a hO hX
    rw [hO.cls] at hoc
    rw [hO.send] at hos
    obtain ⟨⟨v, d⟩, hv⟩ : ∃ r, cell bs a = r := ⟨_, rfl⟩
    rw [hv] at hce hoc hos hmade
    dsimp only at hce hoc hos hmade
    clear hS hK hF hX hv
    rcases (by omega : (d = 0 ∧ v = 104) ∨ (d = 0 ∧ v ≠ 104) ∨ d ≠ 0) with ⟨rfl, rfl⟩ | ⟨rfl, h2⟩ | h2
    · rw [if_pos ⟨rfl, rfl⟩] at hoc hos
      have HCE := Lib.hid hce
      have HOC := Lib.hid hoc
      have HOS := Lib.hid hos
      clear hce hoc hos
      go_wp2_with fail
      refine (HCE.out _ S3.out.mat).mono ?_
      rintro e w' ⟨rfl, h0⟩
      obtain rfl := h0.symm
      go_wp2_with fail
      refine (HOC.out _ S3.out.mat).mono ?_
      rintro e w4 ⟨rfl, hf⟩
      have S4 := Lib.hid (S3.out.fr hf id id id)
      have K4 := Lib.hid (K3.out.fr hf id id)
      have F4 := Lib.hid (F3.out.trans hf)
      clear hf q0 q1 q2 q3 q4
      obtain ⟨q0, q1, q2, q3, q4⟩ := K4.out.cells
      go_wp2_with fail
      refine (HOS.out _ S4.out.mat).mono ?_
      rintro e w5 ⟨rfl, hf⟩
      have S5 := Lib.hid (S4.out.fr hf id id id)
      have K5 := Lib.hid (K4.out.fr hf id id)
      have F5 := Lib.hid (F4.out.trans hf)
      clear hf q0 q1 q2 q3 q4
      obtain ⟨q0, q1, q2, q3, q4⟩ := K5.out.cells
      rcases (by omega : a ≤ 96 ∨ (96 < a ∧ 144 ≤ a) ∨ (96 < a ∧ a < 144)) with h6 | ⟨h6, h7⟩ | ⟨h6, h7⟩
      · skip
        obtain ⟨bs2, hm1, hm2, hm3, hm4⟩ := hmade (by omega)
        have hmk := fun W h => omake_any p g bs a 104 W h (by omega)
        rw [hm1] at hmk
        have hc2 := fun W h => cell_any p g bs2 a W h
        rw [hm3 (by trivial)] at hc2
        have HMK := Lib.hid hmk
        have HC2 := Lib.hid hc2
        have HLN := Lib.hid (hm2.len.trans hO.len.symm)
        have HDN := Lib.hid (fun W h => odict_none b p g 8 1024 144 bs2 520 W h (by omega) hm4)
        have HHN := Lib.hid (fun W h => oheap_nil p g bs2 104 W h (by omega) (by rw [hm2.sz]))
        clear hmk hc2 hm1 hm2 hm3 hm4 hmade
        have HO := Lib.hid hO
        clear hO
        go_wp2_with fail
        refine (HMK.out _ S5.out.mat).mono ?_
        rintro e w6 ⟨rfl, hm, hf⟩
        have S6 := Lib.hid (S5.out.wrote hf hm HLN.out)
        have K6 := Lib.hid (K5.out.fr hf HNW.out HNA.out)
        have F6 := Lib.hid (F5.out.after hf (S := fun _ => False) (fun k hk e => by have := LB.out; omega))
        clear hm hf q0 q1 q2 q3 q4
        obtain ⟨q0, q1, q2, q3, q4⟩ := K6.out.cells
        go_wp2_with fail
        refine (HC2.out _ S6.out.mat).mono ?_
        rintro e w' ⟨rfl, h0⟩
        obtain rfl := h0.symm
        go_wp2_with fail
        refine (odict_nil _ _).mono ?_
        rintro e w' ⟨rfl, h0⟩
        obtain rfl := h0.symm
        go_wp2_with fail
        refine (HDN.out _ S6.out).mono ?_
        rintro e w7 ⟨rfl, hf⟩
        have S7 := Lib.hid (S6.out.fr hf id id id)
        have K7 := Lib.hid (K6.out.fr hf id id)
        have F7 := Lib.hid (F6.out.trans hf)
        clear hf q0 q1 q2 q3 q4
        obtain ⟨q0, q1, q2, q3, q4⟩ := K7.out.cells
        go_wp2_with fail
        refine (HHN.out _ S7.out.mat).mono ?_
        rintro e w8 ⟨rfl, hf⟩
        have F8 := Lib.hid (F7.out.trans hf)
        clear hf
        go_wp2_with fail
        go_ret
        exact ⟨rfl, F8.out⟩
      · skip
        obtain ⟨bs2, hm1, hm2, hm3, hm4⟩ := hmade (by omega)
        have hmk := fun W h => omake_any p g bs a 104 W h (by omega)
        rw [hm1] at hmk
        have hc2 := fun W h => cell_any p g bs2 a W h
        rw [hm3 (by trivial)] at hc2
        have HMK := Lib.hid hmk
        have HC2 := Lib.hid hc2
        have HLN := Lib.hid (hm2.len.trans hO.len.symm)
        have HDN := Lib.hid (fun W h => odict_none b p g 8 1024 144 bs2 520 W h (by omega) hm4)
        have HHN := Lib.hid (fun W h => oheap_nil p g bs2 104 W h (by omega) (by rw [hm2.sz]))
        clear hmk hc2 hm1 hm2 hm3 hm4 hmade
        have HO := Lib.hid hO
        clear hO
        go_wp2_with fail
        refine (HMK.out _ S5.out.mat).mono ?_
        rintro e w6 ⟨rfl, hm, hf⟩
        have S6 := Lib.hid (S5.out.wrote hf hm HLN.out)
        have K6 := Lib.hid (K5.out.fr hf HNW.out HNA.out)
        have F6 := Lib.hid (F5.out.after hf (S := fun _ => False) (fun k hk e => by have := LB.out; omega))
        clear hm hf q0 q1 q2 q3 q4
        obtain ⟨q0, q1, q2, q3, q4⟩ := K6.out.cells
        go_wp2_with fail
        refine (HC2.out _ S6.out.mat).mono ?_
        rintro e w' ⟨rfl, h0⟩
        obtain rfl := h0.symm
        go_wp2_with fail
        refine (odict_nil _ _).mono ?_
        rintro e w' ⟨rfl, h0⟩
        obtain rfl := h0.symm
        go_wp2_with fail
        refine (HDN.out _ S6.out).mono ?_
        rintro e w7 ⟨rfl, hf⟩
        have S7 := Lib.hid (S6.out.fr hf id id id)
        have K7 := Lib.hid (K6.out.fr hf id id)
        have F7 := Lib.hid (F6.out.trans hf)
        clear hf q0 q1 q2 q3 q4
        obtain ⟨q0, q1, q2, q3, q4⟩ := K7.out.cells
        go_wp2_with fail
        refine (HHN.out _ S7.out.mat).mono ?_
        rintro e w8 ⟨rfl, hf⟩
        have F8 := Lib.hid (F7.out.trans hf)
        clear hf
        go_wp2_with fail
        go_ret
        exact ⟨rfl, F8.out⟩
      · have HO := Lib.hid hO
        clear hO hmade
        go_wp2_with fail
        go_ret
        exact ⟨rfl, F5.out⟩
    · rw [if_neg (fun e => h2 e.2)] at hoc hos
      have h2' : (v == 104) = false := by simp [h2]
      clear h2
      have HCE := Lib.hid hce
      have HOC := Lib.hid hoc
      have HOS := Lib.hid hos
      clear hce hoc hos
      go_wp2_with fail
      refine (HCE.out _ S3.out.mat).mono ?_
      rintro e w' ⟨rfl, h0⟩
      obtain rfl := h0.symm
      go_wp2_with fail
      refine (HOC.out _ S3.out.mat).mono ?_
      rintro e w4 ⟨rfl, hf⟩
      have S4 := Lib.hid (S3.out.fr hf id id id)
      have K4 := Lib.hid (K3.out.fr hf id id)
      have F4 := Lib.hid (F3.out.trans hf)
      clear hf q0 q1 q2 q3 q4
      obtain ⟨q0, q1, q2, q3, q4⟩ := K4.out.cells
      go_wp2_with fail
      refine (HOS.out _ S4.out.mat).mono ?_
      rintro e w5 ⟨rfl, hf⟩
      have S5 := Lib.hid (S4.out.fr hf id id id)
      have K5 := Lib.hid (K4.out.fr hf id id)
      have F5 := Lib.hid (F4.out.trans hf)
      clear hf q0 q1 q2 q3 q4
      obtain ⟨q0, q1, q2, q3, q4⟩ := K5.out.cells
      rcases (by omega : a ≤ 96 ∨ (96 < a ∧ 144 ≤ a) ∨ (96 < a ∧ a < 144)) with h6 | ⟨h6, h7⟩ | ⟨h6, h7⟩
      · skip
        obtain ⟨bs2, hm1, hm2, hm3, hm4⟩ := hmade (by omega)
        have hmk := fun W h => omake_any p g bs a 104 W h (by omega)
        rw [hm1] at hmk
        have hc2 := fun W h => cell_any p g bs2 a W h
        rw [hm3 (by trivial)] at hc2
        have HMK := Lib.hid hmk
        have HC2 := Lib.hid hc2
        have HLN := Lib.hid (hm2.len.trans hO.len.symm)
        have HDN := Lib.hid (fun W h => odict_none b p g 8 1024 144 bs2 520 W h (by omega) hm4)
        have HHN := Lib.hid (fun W h => oheap_nil p g bs2 104 W h (by omega) (by rw [hm2.sz]))
        clear hmk hc2 hm1 hm2 hm3 hm4 hmade
        have HO := Lib.hid hO
        clear hO
        go_wp2_with fail
        refine (HMK.out _ S5.out.mat).mono ?_
        rintro e w6 ⟨rfl, hm, hf⟩
        have S6 := Lib.hid (S5.out.wrote hf hm HLN.out)
        have K6 := Lib.hid (K5.out.fr hf HNW.out HNA.out)
        have F6 := Lib.hid (F5.out.after hf (S := fun _ => False) (fun k hk e => by have := LB.out; omega))
        clear hm hf q0 q1 q2 q3 q4
        obtain ⟨q0, q1, q2, q3, q4⟩ := K6.out.cells
        go_wp2_with fail
        refine (HC2.out _ S6.out.mat).mono ?_
        rintro e w' ⟨rfl, h0⟩
        obtain rfl := h0.symm
        go_wp2_with fail
        refine (odict_nil _ _).mono ?_
        rintro e w' ⟨rfl, h0⟩
        obtain rfl := h0.symm
        go_wp2_with fail
        refine (HDN.out _ S6.out).mono ?_
        rintro e w7 ⟨rfl, hf⟩
        have S7 := Lib.hid (S6.out.fr hf id id id)
        have K7 := Lib.hid (K6.out.fr hf id id)
        have F7 := Lib.hid (F6.out.trans hf)
        clear hf q0 q1 q2 q3 q4
        obtain ⟨q0, q1, q2, q3, q4⟩ := K7.out.cells
        go_wp2_with fail
        refine (HHN.out _ S7.out.mat).mono ?_
        rintro e w8 ⟨rfl, hf⟩
        have F8 := Lib.hid (F7.out.trans hf)
        clear hf
        go_wp2_with fail
        go_ret
        exact ⟨rfl, F8.out⟩
      · skip
        obtain ⟨bs2, hm1, hm2, hm3, hm4⟩ := hmade (by omega)
        have hmk := fun W h => omake_any p g bs a 104 W h (by omega)
        rw [hm1] at hmk
        have hc2 := fun W h => cell_any p g bs2 a W h
        rw [hm3 (by trivial)] at hc2
        have HMK := Lib.hid hmk
        have HC2 := Lib.hid hc2
        have HLN := Lib.hid (hm2.len.trans hO.len.symm)
        have HDN := Lib.hid (fun W h => odict_none b p g 8 1024 144 bs2 520 W h (by omega) hm4)
        have HHN := Lib.hid (fun W h => oheap_nil p g bs2 104 W h (by omega) (by rw [hm2.sz]))
        clear hmk hc2 hm1 hm2 hm3 hm4 hmade
        have HO := Lib.hid hO
        clear hO
        go_wp2_with fail
        refine (HMK.out _ S5.out.mat).mono ?_
        rintro e w6 ⟨rfl, hm, hf⟩
        have S6 := Lib.hid (S5.out.wrote hf hm HLN.out)
        have K6 := Lib.hid (K5.out.fr hf HNW.out HNA.out)
        have F6 := Lib.hid (F5.out.after hf (S := fun _ => False) (fun k hk e => by have := LB.out; omega))
        clear hm hf q0 q1 q2 q3 q4
        obtain ⟨q0, q1, q2, q3, q4⟩ := K6.out.cells
        go_wp2_with fail
        refine (HC2.out _ S6.out.mat).mono ?_
        rintro e w' ⟨rfl, h0⟩
        obtain rfl := h0.symm
        go_wp2_with fail
        refine (odict_nil _ _).mono ?_
        rintro e w' ⟨rfl, h0⟩
        obtain rfl := h0.symm
        go_wp2_with fail
        refine (HDN.out _ S6.out).mono ?_
        rintro e w7 ⟨rfl, hf⟩
        have S7 := Lib.hid (S6.out.fr hf id id id)
        have K7 := Lib.hid (K6.out.fr hf id id)
        have F7 := Lib.hid (F6.out.trans hf)
        clear hf q0 q1 q2 q3 q4
        obtain ⟨q0, q1, q2, q3, q4⟩ := K7.out.cells
        go_wp2_with fail
        refine (HHN.out _ S7.out.mat).mono ?_
        rintro e w8 ⟨rfl, hf⟩
        have F8 := Lib.hid (F7.out.trans hf)
        clear hf
        go_wp2_with fail
        go_ret
        exact ⟨rfl, F8.out⟩
      · have HO := Lib.hid hO
        clear hO hmade
        go_wp2_with fail
        go_ret
        exact ⟨rfl, F5.out⟩
    · rw [if_neg (fun e => h2 e.1)] at hoc hos
      have h2' : (d == 0) = false := by simp [h2]
      clear h2
      have HCE := Lib.hid hce
      have HOC := Lib.hid hoc
      have HOS := Lib.hid hos
      clear hce hoc hos
      go_wp2_with fail
      refine (HCE.out _ S3.out.mat).mono ?_
      rintro e w' ⟨rfl, h0⟩
      obtain rfl := h0.symm
      go_wp2_with fail
      refine (HOC.out _ S3.out.mat).mono ?_
      rintro e w4 ⟨rfl, hf⟩
      have S4 := Lib.hid (S3.out.fr hf id id id)
      have K4 := Lib.hid (K3.out.fr hf id id)
      have F4 := Lib.hid (F3.out.trans hf)
      clear hf q0 q1 q2 q3 q4
      obtain ⟨q0, q1, q2, q3, q4⟩ := K4.out.cells
      go_wp2_with fail
      refine (HOS.out _ S4.out.mat).mono ?_
      rintro e w5 ⟨rfl, hf⟩
      have S5 := Lib.hid (S4.out.fr hf id id id)
      have K5 := Lib.hid (K4.out.fr hf id id)
      have F5 := Lib.hid (F4.out.trans hf)
      clear hf q0 q1 q2 q3 q4
      obtain ⟨q0, q1, q2, q3, q4⟩ := K5.out.cells
      rcases (by omega : a ≤ 96 ∨ (96 < a ∧ 144 ≤ a) ∨ (96 < a ∧ a < 144)) with h6 | ⟨h6, h7⟩ | ⟨h6, h7⟩
      · skip
        obtain ⟨bs2, hm1, hm2, hm3, hm4⟩ := hmade (by omega)
        have hmk := fun W h => omake_any p g bs a 104 W h (by omega)
        rw [hm1] at hmk
        have hc2 := fun W h => cell_any p g bs2 a W h
        skip
        have HMK := Lib.hid hmk
        have HC2 := Lib.hid hc2
        have HLN := Lib.hid (hm2.len.trans hO.len.symm)
        have HDN := Lib.hid (fun W h => odict_none b p g 8 1024 144 bs2 520 W h (by omega) hm4)
        have HHN := Lib.hid (fun W h => oheap_nil p g bs2 104 W h (by omega) (by rw [hm2.sz]))
        clear hmk hc2 hm1 hm2 hm3 hm4 hmade
        have HO := Lib.hid hO
        clear hO
        go_wp2_with fail
        refine (HMK.out _ S5.out.mat).mono ?_
        rintro e w6 ⟨rfl, hm, hf⟩
        have S6 := Lib.hid (S5.out.wrote hf hm HLN.out)
        have K6 := Lib.hid (K5.out.fr hf HNW.out HNA.out)
        have F6 := Lib.hid (F5.out.after hf (S := fun _ => False) (fun k hk e => by have := LB.out; omega))
        clear hm hf q0 q1 q2 q3 q4
        obtain ⟨q0, q1, q2, q3, q4⟩ := K6.out.cells
        go_wp2_with fail
        refine (HC2.out _ S6.out.mat).mono ?_
        rintro e w' ⟨rfl, h0⟩
        obtain rfl := h0.symm
        go_wp2_with fail
        refine (odict_nil _ _).mono ?_
        rintro e w' ⟨rfl, h0⟩
        obtain rfl := h0.symm
        go_wp2_with fail
        refine (HDN.out _ S6.out).mono ?_
        rintro e w7 ⟨rfl, hf⟩
        have S7 := Lib.hid (S6.out.fr hf id id id)
        have K7 := Lib.hid (K6.out.fr hf id id)
        have F7 := Lib.hid (F6.out.trans hf)
        clear hf q0 q1 q2 q3 q4
        obtain ⟨q0, q1, q2, q3, q4⟩ := K7.out.cells
        go_wp2_with fail
        refine (HHN.out _ S7.out.mat).mono ?_
        rintro e w8 ⟨rfl, hf⟩
        have F8 := Lib.hid (F7.out.trans hf)
        clear hf
        go_wp2_with fail
        go_ret
        exact ⟨rfl, F8.out⟩
      · skip
        obtain ⟨bs2, hm1, hm2, hm3, hm4⟩ := hmade (by omega)
        have hmk := fun W h => omake_any p g bs a 104 W h (by omega)
        rw [hm1] at hmk
        have hc2 := fun W h => cell_any p g bs2 a W h
        skip
        have HMK := Lib.hid hmk
        have HC2 := Lib.hid hc2
        have HLN := Lib.hid (hm2.len.trans hO.len.symm)
        have HDN := Lib.hid (fun W h => odict_none b p g 8 1024 144 bs2 520 W h (by omega) hm4)
        have HHN := Lib.hid (fun W h => oheap_nil p g bs2 104 W h (by omega) (by rw [hm2.sz]))
        clear hmk hc2 hm1 hm2 hm3 hm4 hmade
        have HO := Lib.hid hO
        clear hO
        go_wp2_with fail
        refine (HMK.out _ S5.out.mat).mono ?_
        rintro e w6 ⟨rfl, hm, hf⟩
        have S6 := Lib.hid (S5.out.wrote hf hm HLN.out)
        have K6 := Lib.hid (K5.out.fr hf HNW.out HNA.out)
        have F6 := Lib.hid (F5.out.after hf (S := fun _ => False) (fun k hk e => by have := LB.out; omega))
        clear hm hf q0 q1 q2 q3 q4
        obtain ⟨q0, q1, q2, q3, q4⟩ := K6.out.cells
        go_wp2_with fail
        refine (HC2.out _ S6.out.mat).mono ?_
        rintro e w' ⟨rfl, h0⟩
        obtain rfl := h0.symm
        go_wp2_with fail
        refine (odict_nil _ _).mono ?_
        rintro e w' ⟨rfl, h0⟩
        obtain rfl := h0.symm
        go_wp2_with fail
        refine (HDN.out _ S6.out).mono ?_
        rintro e w7 ⟨rfl, hf⟩
        have S7 := Lib.hid (S6.out.fr hf id id id)
        have K7 := Lib.hid (K6.out.fr hf id id)
        have F7 := Lib.hid (F6.out.trans hf)
        clear hf q0 q1 q2 q3 q4
        obtain ⟨q0, q1, q2, q3, q4⟩ := K7.out.cells
        go_wp2_with fail
        refine (HHN.out _ S7.out.mat).mono ?_
        rintro e w8 ⟨rfl, hf⟩
        have F8 := Lib.hid (F7.out.trans hf)
        clear hf
        go_wp2_with fail
        go_ret
        exact ⟨rfl, F8.out⟩
      · have HO := Lib.hid hO
        clear hO hmade
        go_wp2_with fail
        go_ret
        exact ⟨rfl, F5.out⟩
end Go.Proofs.Ytajeiccfgnpbpaa.Mem
