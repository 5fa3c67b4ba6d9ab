/- Contracts of package class: lay, New, Root. -/
import Derived.Test.YtajeiccfgnpbpaaQf
import Derived.Deep.DeepCutAuto
import Derived.Deep.RegionHeld3
set_option linter.unusedSimpArgs false
set_option linter.unusedVariables false

namespace Go.Proofs.Ytajeiccfgnpbpaa.Mem
open Go.RowKit

/-- A new class's table: its place and the code, where allocation stands then, the bytes, and the objects' size. -/
def tabv (z x : Nat) (bs : List UInt8) (root par slots : Int) : (Int × Int) × Nat × List UInt8 × Int :=
  if par = 0 then ((newv z x bs slots).1, (newv z x bs slots).2.1, (newv z x bs slots).2.2, 8)
  else if isIn bs root par = true then ((copyv z x bs (clv bs par).tab).1, (copyv z x bs (clv bs par).tab).2.1, (copyv z x bs (clv bs par).tab).2.2, (clv bs par).size)
  else ((0, -2048), x, bs, 8)
/-- What laying a class tells, where allocation stands then, and the bytes. -/
def clayv (z x : Nat) (bs : List UInt8) (root par slots prev : Int) : (Int × Int) × Nat × List UInt8 :=
  if (tabv z x bs root par slots).1.2 = 0 then
    (if (layl z [magic, par, (tabv z x bs root par slots).2.2.2, (tabv z x bs root par slots).1.1, prev] (tabv z x bs root par slots).2.1 (tabv z x bs root par slots).2.2.1).2.2 = true
      then (((tabv z x bs root par slots).2.1, 0), (layl z [magic, par, (tabv z x bs root par slots).2.2.2, (tabv z x bs root par slots).1.1, prev] (tabv z x bs root par slots).2.1 (tabv z x bs root par slots).2.2.1).1, (layl z [magic, par, (tabv z x bs root par slots).2.2.2, (tabv z x bs root par slots).1.1, prev] (tabv z x bs root par slots).2.1 (tabv z x bs root par slots).2.2.1).2.1)
      else ((0, -8), (layl z [magic, par, (tabv z x bs root par slots).2.2.2, (tabv z x bs root par slots).1.1, prev] (tabv z x bs root par slots).2.1 (tabv z x bs root par slots).2.2.1).1, (layl z [magic, par, (tabv z x bs root par slots).2.2.2, (tabv z x bs root par slots).1.1, prev] (tabv z x bs root par slots).2.1 (tabv z x bs root par slots).2.2.1).2.1))
  else ((0, (tabv z x bs root par slots).1.2), (tabv z x bs root par slots).2.1, (tabv z x bs root par slots).2.2.1)

theorem copyv_inv (z x : Nat) (bs : List UInt8) (t : Int) (h : x ≤ z) : x ≤ (copyv z x bs t).2.1 ∧ (copyv z x bs t).2.1 ≤ z ∧ (x % 8 = 0 → (copyv z x bs t).2.1 % 8 = 0) ∧ (copyv z x bs t).2.2.length = bs.length := by
  have := newv_inv z x bs (slots bs t) h
  unfold copyv
  split
  · exact ⟨this.1, this.2.1, this.2.2.1, by rw [sett_length]; exact this.2.2.2⟩
  · exact this
theorem tabv_inv (z x : Nat) (bs : List UInt8) (root par slots : Int) (h : x ≤ z) : x ≤ (tabv z x bs root par slots).2.1 ∧ (tabv z x bs root par slots).2.1 ≤ z ∧ (x % 8 = 0 → (tabv z x bs root par slots).2.1 % 8 = 0) ∧ (tabv z x bs root par slots).2.2.1.length = bs.length := by
  unfold tabv
  split
  · exact newv_inv z x bs slots h
  · split
    · exact copyv_inv z x bs _ h
    · exact ⟨Nat.le_refl _, h, id, rfl⟩
theorem clayv_inv (z x : Nat) (bs : List UInt8) (root par slots prev : Int) (h : x ≤ z) : x ≤ (clayv z x bs root par slots prev).2.1 ∧ (clayv z x bs root par slots prev).2.1 ≤ z ∧ (x % 8 = 0 → (clayv z x bs root par slots prev).2.1 % 8 = 0) ∧ (clayv z x bs root par slots prev).2.2.length = bs.length := by
  have ht := tabv_inv z x bs root par slots h
  unfold clayv
  obtain ⟨⟨⟨t, e⟩, y, cs, sz⟩, hr⟩ : ∃ r, tabv z x bs root par slots = r := ⟨_, rfl⟩
  rw [hr] at ht ⊢
  dsimp only at ht ⊢
  have hl := layl_inv z [magic, par, sz, t, prev] y cs ht.2.1
  split
  · split
    · exact ⟨Nat.le_trans ht.1 hl.1, hl.2.1, fun h8 => by have := ht.2.2.1 h8; dsimp only; omega, hl.2.2.2.trans ht.2.2.2⟩
    · exact ⟨Nat.le_trans ht.1 hl.1, hl.2.1, fun h8 => by have := ht.2.2.1 h8; dsimp only; omega, hl.2.2.2.trans ht.2.2.2⟩
  · exact ht

theorem run_index5 (x0 x1 x2 x3 x4 : Value) (i : Nat) (hi : i < 5) (w : World) : (Instr.index 185 (.agg #[x0, x1, x2, x3, x4]) (.int .i64 (i : Int))).run Try.prog w = .ok (#[x0, x1, x2, x3, x4][i]'hi) w := by
  have hsz := size_of_info (P := Try.prog) (t := 2) (n := 1) (by kernel_rfl)
  simp [Instr.index, run_underlying Try.underlying185, go_sem]
  rw [if_pos hi, List.getElem?_eq_getElem (by simpa using hi)]
  rfl

set_option maxRecDepth 100000 in
set_option maxHeartbeats 6000000 in
theorem clay_any (b p g a z x : Nat) (bs : List UInt8) (root par slots prev : Int) (w : World) (h : Sat w b p g a z x bs) (h8 : x % 8 = 0) (hpar : -9223372036854775808 ≤ par ∧ par ≤ 9223372036854775807) :
    Calls Try.prog 107 #[.pointer (some ⟨b, 0, none⟩), .int .i64 root, .agg #[.int .i64 0, .int .i64 par, .int .i64 8, .int .i64 0, .int .i64 prev], .int .i64 slots] w
      fun e w' => e = .returned (.tuple #[.int .i64 (clayv z x bs root par slots prev).1.1, .int .i64 (clayv z x bs root par slots prev).1.2]) ∧ Sat w' b p g a z (clayv z x bs root par slots prev).2.1 (clayv z x bs root par slots prev).2.2 ∧ Both b g w w' := by
  have hbd := h.bd
  obtain ⟨⟨⟨v1, v2⟩, vy, vcs⟩, hv⟩ : ∃ v, clayv z x bs root par slots prev = v := ⟨_, rfl⟩
  rw [hv]
  dsimp only
  have htv : tabv z x bs root par slots = tabv z x bs root par slots := rfl
  unfold clayv at hv
  have hti := tabv_inv z x bs root par slots hbd.2.1
  obtain ⟨⟨⟨tab, e1⟩, x1, bs1, size⟩, ht⟩ : ∃ r, tabv z x bs root par slots = r := ⟨_, rfl⟩
  rw [ht] at hv hti
  dsimp only at hv hti
  have HV := Lib.hid hv
  have HTI := Lib.hid hti
  have HT := Lib.hid ht
  have HBD := Lib.hid hbd
  have H8 := Lib.hid h8
  have FA := Lib.hid ((Fr.refl (fun _ => False) w).alloc (.cells #[.int .i64 0, .int .i64 par, .int .i64 8, .int .i64 0, .int .i64 prev] 142))
  have OA := Lib.hid (heap_alloc_last w (.cells #[.int .i64 0, .int .i64 par, .int .i64 8, .int .i64 0, .int .i64 prev] 142))
  have SA := Lib.hid (h.fr FA.out id id id)
  have HL := Lib.hid h.lt
  clear h hv hti ht htv h8 hbd
  go_enter Try.func107, Try.ntmps107
  go_upto_if 19 with (fail)
  go_cut [10] (fun ev wc => ev = .int .i64 e1 ∧ Sat wc b p g a z x1 bs1 ∧ (e1 = 0 → wc.heap[w.heap.size]? = some (.cells #[.int .i64 0, .int .i64 par, .int .i64 size, .int .i64 tab, .int .i64 prev] 142 (0, 0))) ∧ Fr (fun j => j = b ∨ j = g) w wc)
  case first =>
    by_cases hp : par = 0
    · have ht := HT.out
      unfold tabv at ht
      rw [if_pos hp] at ht
      subst hp
      have hn := tnew_any b p g a z x slots bs _ SA.out H8.out
      obtain ⟨⟨⟨n1, n2⟩, ny, ncs⟩, hnv⟩ : ∃ r, newv z x bs slots = r := ⟨_, rfl⟩
      rw [hnv] at ht hn
      dsimp only at ht hn
      have HN := Lib.hid hn
      cases ht
      clear hn hnv
      go_wp2_with fail
      refine HN.out.mono ?_
      rintro e w1 ⟨rfl, hs, hf⟩
      have hb0 := hf.obj OA.out (by have := HL.out; omega)
      obtain ⟨q0, q1, q2, q3, q4, y0, y1, y2, y3, y4, yl⟩ := five_cells hb0
      have S1 := Lib.hid hs
      have HB := Lib.hid hb0
      have F1 := Lib.hid ((Fr.some FA.out fun _ e => e.elim).trans hf)
      clear hs hf hb0
      go_wp2_with fail
      go_meet
      case rel =>
        refine ⟨rfl, ?_, fun _ => ?_, F1.out.setCell (.inl (Nat.le_refl _)) _⟩
        · exact S1.out.fr (Fr.setOne (p := w.heap.size) (Fr.refl _ _) _ _) (by have := HL.out; omega) (by have := HL.out; omega) (by have := HL.out; omega)
        · exact heap_setCell_same _ w.heap.size 3 _ _ _ HB.out
    · have hpb : (par == 0) = false := by simp [hp]
      have ht := HT.out
      unfold tabv at ht
      rw [if_neg hp] at ht
      obtain ⟨s0, s1, s2, s3⟩ := SA.out.cells
      obtain ⟨q0, q1, q2, q3, q4, y0, y1, y2, y3, y4, yl⟩ := five_cells OA.out
      have hI := fun w h => is_any p g bs root par w h
      have HR := Lib.hid (fun w h => cread_any p g bs par w h hpar)
      by_cases hi : isIn bs root par = true
      · rw [hi] at hI
        rw [if_pos hi] at ht
        have HI := Lib.hid hI
        clear hI hi hp
        go_wp2_with fail
        obtain ⟨wA, hwA⟩ : ∃ wA, w.alloc (.cells #[.int .i64 0, .int .i64 par, .int .i64 8, .int .i64 0, .int .i64 prev] 142) = wA := ⟨_, rfl⟩
        rw [hwA] at SA OA FA s0 s1 s2 s3 q0 q1 q2 q3 q4 y0 y1 y2 y3 y4 yl ⊢
        clear hwA
        obtain ⟨⟨k0, k1, k2, k3, k4⟩, hk⟩ : ∃ r, clv bs par = r := ⟨_, rfl⟩
        rw [hk] at ht HR
        dsimp only at ht
        simp only [clval] at HR
        have hcp := fun w h => tcopy_any b p g a z x k3 bs w h H8.out
        obtain ⟨⟨⟨n1, n2⟩, ny, ncs⟩, hnv⟩ : ∃ r, copyv z x bs k3 = r := ⟨_, rfl⟩
        rw [hnv] at ht hcp
        dsimp only at ht hcp
        have HCP := Lib.hid hcp
        cases ht
        clear hk hcp hnv
        go_region_held3 (fun W => W.cell? ⟨b, 0, none⟩ = some (.pointer (some ⟨p, 0, none⟩)) ∧ W.cell? ⟨w.heap.size, 1, none⟩ = some (.int .i64 par) ∧ Fr (fun _ => False) wA W)
          ((go_split_ands; refine (fun hF => ⟨Fr.cell hF s0 id, Fr.cell hF q1 id, hF⟩ : Fr (fun _ => False) wA _ → _) ?_; first | assumption | exact Fr.drew (by assumption) | exact Fr.refl _ _ | exact Fr.drew (Fr.refl _ _)))
          (first | (go_at_call 27; go_split_ands; refine (HI.out _ (Mat.drew SA.out.mat)).mono ?_; rintro e w1 ⟨rfl, hf⟩; have hf1 := Fr.undrew hf) | fail)
        have F1 := Lib.hid hf1
        have S1 := Lib.hid (SA.out.fr hf1 id id id)
        have O1 := Lib.hid (hf1.obj OA.out id)
        clear hf1 hf
        obtain ⟨u0, u1, u2, u3⟩ := S1.out.cells
        obtain ⟨p0, p1, p2, p3, p4, z0, z1, z2, z3, z4, zl⟩ := five_cells O1.out
        have u0' := ((Fr.refl (fun _ => False) w1).alloc (.cells #[.int .i64 0, .int .i64 0, .int .i64 0, .int .i64 0, .int .i64 0] 142)).cell u0 id
        have p1' := ((Fr.refl (fun _ => False) w1).alloc (.cells #[.int .i64 0, .int .i64 0, .int .i64 0, .int .i64 0, .int .i64 0] 142)).cell p1 id
        go_upto_region 5 with (fail)
        go_cut [11] (fun pv wx => ∃ B2 : Nat, pv = .pointer (some ⟨B2, 0, none⟩) ∧ w1.heap.size ≤ B2 ∧ wx.heap[B2]? = some (.cells #[.int .i64 k0, .int .i64 k1, .int .i64 size, .int .i64 k3, .int .i64 k4] 142 (0, 0)) ∧ Fr (fun _ => False) w1 wx)
        case first =>
          go_region_held3 (fun W => W.cell? ⟨b, 0, none⟩ = some (.pointer (some ⟨p, 0, none⟩)) ∧ W.cell? ⟨w.heap.size, 1, none⟩ = some (.int .i64 par) ∧ Fr (fun _ => False) w1 W)
            ((go_split_ands; refine (fun hF => ⟨Fr.cell hF u0 id, Fr.cell hF p1 id, hF⟩ : Fr (fun _ => False) w1 _ → _) ?_; first | assumption | exact Fr.drew (by assumption) | exact Fr.alloc (by assumption) _ | exact Fr.refl _ _ | exact Fr.drew (Fr.refl _ _) | exact Fr.alloc (Fr.drew (Fr.refl _ _)) _ | exact Fr.set5 (by assumption) (.inl (Nat.le_refl _)) _ _ _ _ _))
            (first | (go_at_call 82; go_split_ands; refine (HR.out _ (S1.out.mat.fr (S := fun _ => False) (by assumption) id id)).mono ?_; rintro e w2 ⟨rfl, hf⟩; have hf2 : Fr (fun _ => False) w1 w2 := Fr.trans (by assumption) hf; (try (have hx5 := hf.obj (heap_alloc_last w1 (.cells #[.int .i64 0, .int .i64 0, .int .i64 0, .int .i64 0, .int .i64 0] 142)) id; obtain ⟨g0, g1, g2, g3, g4, f0, f1, f2, f3, f4, gl⟩ := five_cells hx5))) | fail)
          all_goals
            go_wp2_with fail
            go_meet
            case rel =>
              first
              | exact ⟨w1.heap.size, rfl, Nat.le_refl _, five_set hx5 _ _ _ _ _, Fr.set5 hf2 (.inl (Nat.le_refl _)) _ _ _ _ _⟩
              | exact ⟨w2.heap.size, rfl, hf2.size, heap_alloc_last _ _, hf2.alloc _⟩
        case rest =>
          obtain ⟨B2, rfl, hB2, hob, hf2⟩ := hcut
          obtain ⟨g0, g1, g2, g3, g4, f0, f1, f2, f3, f4, gl⟩ := five_cells hob
          have S2 := Lib.hid (S1.out.fr hf2 id id id)
          have hob2 := hf2.obj O1.out id
          obtain ⟨p0, p1, p2, p3, p4, z0, z1, z2, z3, z4, zl⟩ := five_cells hob2
          have F2 := Lib.hid (F1.out.trans hf2)
          have hBne : B2 ≠ w.heap.size := by have := lt_of_block O1.out; omega
          have FS := Fr.setOne (p := w.heap.size) (Fr.refl _ wc) 2 (.int .i64 size)
          have S3 := Lib.hid (S2.out.fr FS (by have := HL.out; omega) (by have := HL.out; omega) (by have := HL.out; omega))
          have O3 := Lib.hid (heap_setCell_same wc w.heap.size 2 _ _ (.int .i64 size) hob2)
          have OB := Lib.hid (FS.obj hob hBne)
          obtain ⟨g0', g1', g2', g3', g4', _, _, _, _, _, _⟩ := five_cells OB.out
          have F3 := Lib.hid ((FA.out.trans F2.out).after FS (S := fun _ => False) (fun k hk e => by omega))
          clear hob hob2 hf2 u0 u1 u2 u3 FS
          go_wp2_with fail
          refine (HCP.out _ S3.out).mono ?_
          rintro e w3 ⟨rfl, hs, hf⟩
          have S4 := Lib.hid hs
          have hb4 := hf.obj O3.out (by have := HL.out; omega)
          obtain ⟨e0, e2, e3, e4, e5, f5, f6, f7, f8, f9, fl⟩ := five_cells hb4
          have O4 := Lib.hid hb4
          have F4 := Lib.hid ((Fr.some F3.out fun _ e => e.elim).trans hf)
          clear hs hf hb4
          go_wp2_with fail
          go_meet
          case rel =>
            refine ⟨rfl, ?_, fun _ => ?_, F4.out.setCell (.inl (Nat.le_refl _)) _⟩
            · exact S4.out.fr (Fr.setOne (p := w.heap.size) (Fr.refl _ _) _ _) (by have := HL.out; omega) (by have := HL.out; omega) (by have := HL.out; omega)
            · exact heap_setCell_same _ w.heap.size 3 _ _ _ O4.out
      · have hib : isIn bs root par = false := by simpa using hi
        rw [hib] at hI
        rw [if_neg hi] at ht
        cases ht
        have HI := Lib.hid hI
        clear hI hi hib hp
        go_wp2_with fail
        go_region_with (go_at_call 27; refine (HI.out _ (Mat.drew SA.out.mat)).mono ?_; rintro e w1 ⟨rfl, hf⟩; have F1 := Lib.hid (Fr.undrew hf); have S1 := Lib.hid (SA.out.fr (Fr.undrew hf) id id id); clear hf)
        all_goals
          go_wp2_with fail
          go_meet
          case rel => exact ⟨rfl, S1.out, (fun h => absurd h (by decide)), (Fr.some FA.out fun _ e => e.elim).trans (Fr.some F1.out fun _ e => e.elim)⟩
  case rest =>
    obtain ⟨rfl, hS, hO, hF⟩ := hcut
    have SC := Lib.hid hS
    have FC := Lib.hid hF
    by_cases he : e1 = 0
    · subst he
      have hob := hO rfl
      obtain ⟨q0, q1, q2, q3, q4, _, _, _, _, _, _⟩ := five_cells hob
      have HH := Lib.hid (here_any b p g a z x1 bs1 wc hS)
      have hv := HV.out
      rw [if_pos rfl] at hv
      replace hv : (if (layl z [357694784579, par, size, tab, prev] x1 bs1).2.2 = true then (((x1 : Int), (0 : Int)), (layl z [357694784579, par, size, tab, prev] x1 bs1).1, (layl z [357694784579, par, size, tab, prev] x1 bs1).2.1) else ((0, -8), (layl z [357694784579, par, size, tab, prev] x1 bs1).1, (layl z [357694784579, par, size, tab, prev] x1 bs1).2.1)) = ((v1, v2), vy, vcs) := hv
      obtain ⟨res, hres⟩ : ∃ r, layl z [357694784579, par, size, tab, prev] x1 bs1 = r := ⟨_, rfl⟩
      rw [hres] at hv
      have HRES := Lib.hid hres
      have HVV := Lib.hid hv
      have HQ := Lib.hid (fun y cs n w (h : Sat w b p g a z y cs) (h8 : y % 8 = 0) (hz : y + 8 ≤ z) => comma_ok b p g a z y cs n w h h8 hz)
      have HFu := Lib.hid (fun y cs n w (h : Sat w b p g a z y cs) (hz : ¬ y + 8 ≤ z) => comma_full b p g a z y cs n w h hz)
      have i0 : ∀ w, (Instr.index 185 (.agg #[.int .i64 357694784579, .int .i64 par, .int .i64 size, .int .i64 tab, .int .i64 prev]) (.int .i64 0)).run Try.prog w = .ok (.int .i64 357694784579) w := fun w => run_index5 _ _ _ _ _ 0 (by decide) w
      have i1 : ∀ w, (Instr.index 185 (.agg #[.int .i64 357694784579, .int .i64 par, .int .i64 size, .int .i64 tab, .int .i64 prev]) (.int .i64 1)).run Try.prog w = .ok (.int .i64 par) w := fun w => run_index5 _ _ _ _ _ 1 (by decide) w
      have i2 : ∀ w, (Instr.index 185 (.agg #[.int .i64 357694784579, .int .i64 par, .int .i64 size, .int .i64 tab, .int .i64 prev]) (.int .i64 2)).run Try.prog w = .ok (.int .i64 size) w := fun w => run_index5 _ _ _ _ _ 2 (by decide) w
      have i3 : ∀ w, (Instr.index 185 (.agg #[.int .i64 357694784579, .int .i64 par, .int .i64 size, .int .i64 tab, .int .i64 prev]) (.int .i64 3)).run Try.prog w = .ok (.int .i64 tab) w := fun w => run_index5 _ _ _ _ _ 3 (by decide) w
      have i4 : ∀ w, (Instr.index 185 (.agg #[.int .i64 357694784579, .int .i64 par, .int .i64 size, .int .i64 tab, .int .i64 prev]) (.int .i64 4)).run Try.prog w = .ok (.int .i64 prev) w := fun w => run_index5 _ _ _ _ _ 4 (by decide) w
      have hx8 : x1 % 8 = 0 := HTI.out.2.2.1 H8.out
      have HX8 := Lib.hid hx8
      clear hS hO hF hob hv hres hx8
      go_wp2_with (go_at_call 21; refine HH.out.mono ?_; rintro e w' ⟨rfl, h0⟩; obtain rfl := h0.symm)
      go_loopw [70] (fun iv wr => ∃ k : Nat, k ≤ 5 ∧ iv = .int .i64 k ∧ ∃ y cs, Sat wr b p g a z y cs ∧ y % 8 = 0 ∧ layl z ([357694784579, par, size, tab, prev].drop k) y cs = res ∧ Both b g w wr) (fun iv _ => 5 - (intOf iv).toNat)
      case atStart => exact ⟨0, by omega, rfl, x1, bs1, SC.out, HX8.out, HRES.out, FC.out⟩
      case round =>
        obtain ⟨k, hk, hiv, y, cs, hS, hy8, hly, hF⟩ := hrel
        have HS := Lib.hid hS
        have HF := Lib.hid hF
        have HY8 := Lib.hid hy8
        clear hS hF hy8
        by_cases hlt : k < 5
        · by_cases hfit : y + 8 ≤ z
          · have HC2 := Lib.hid (fun n => HQ.out y cs n _ HS.out HY8.out hfit)
            rcases (by omega : k = 0 ∨ k = 1 ∨ k = 2 ∨ k = 3 ∨ k = 4) with rfl | rfl | rfl | rfl | rfl
            · simp only [List.drop, layl, if_pos hfit] at hly
              have HLY := Lib.hid hly
              subst hiv
              clear hly
              go_wp2_with fail
              refine (HC2.out _).mono ?_
              rintro e w2 ⟨rfl, hs, hf⟩
              have HS2 := Lib.hid hs
              have HF2 := Lib.hid (HF.out.trans hf)
              clear hs hf
              go_wp2_with fail
              go_roundw
              case rel => exact ⟨1, by omega, by go_num, _, _, HS2.out, by have := HY8.out; omega, HLY.out, HF2.out⟩
              case measure => simp [intOf]
            · simp only [List.drop, layl, if_pos hfit] at hly
              have HLY := Lib.hid hly
              subst hiv
              clear hly
              go_wp2_with fail
              refine (HC2.out _).mono ?_
              rintro e w2 ⟨rfl, hs, hf⟩
              have HS2 := Lib.hid hs
              have HF2 := Lib.hid (HF.out.trans hf)
              clear hs hf
              go_wp2_with fail
              go_roundw
              case rel => exact ⟨2, by omega, by go_num, _, _, HS2.out, by have := HY8.out; omega, HLY.out, HF2.out⟩
              case measure => simp [intOf]
            · simp only [List.drop, layl, if_pos hfit] at hly
              have HLY := Lib.hid hly
              subst hiv
              clear hly
              go_wp2_with fail
              refine (HC2.out _).mono ?_
              rintro e w2 ⟨rfl, hs, hf⟩
              have HS2 := Lib.hid hs
              have HF2 := Lib.hid (HF.out.trans hf)
              clear hs hf
              go_wp2_with fail
              go_roundw
              case rel => exact ⟨3, by omega, by go_num, _, _, HS2.out, by have := HY8.out; omega, HLY.out, HF2.out⟩
              case measure => simp [intOf]
            · simp only [List.drop, layl, if_pos hfit] at hly
              have HLY := Lib.hid hly
              subst hiv
              clear hly
              go_wp2_with fail
              refine (HC2.out _).mono ?_
              rintro e w2 ⟨rfl, hs, hf⟩
              have HS2 := Lib.hid hs
              have HF2 := Lib.hid (HF.out.trans hf)
              clear hs hf
              go_wp2_with fail
              go_roundw
              case rel => exact ⟨4, by omega, by go_num, _, _, HS2.out, by have := HY8.out; omega, HLY.out, HF2.out⟩
              case measure => simp [intOf]
            · simp only [List.drop, layl, if_pos hfit] at hly
              have HLY := Lib.hid hly
              subst hiv
              clear hly
              go_wp2_with fail
              refine (HC2.out _).mono ?_
              rintro e w2 ⟨rfl, hs, hf⟩
              have HS2 := Lib.hid hs
              have HF2 := Lib.hid (HF.out.trans hf)
              clear hs hf
              go_wp2_with fail
              go_roundw
              case rel => exact ⟨5, by omega, by go_num, _, _, HS2.out, by have := HY8.out; omega, HLY.out, HF2.out⟩
              case measure => simp [intOf]
          · have HC2 := Lib.hid (fun n => HFu.out y cs n _ HS.out hfit)
            rcases (by omega : k = 0 ∨ k = 1 ∨ k = 2 ∨ k = 3 ∨ k = 4) with rfl | rfl | rfl | rfl | rfl
            all_goals
              simp only [List.drop, layl, if_neg hfit] at hly
              have HLY := Lib.hid hly
              subst hiv
              clear hly
              go_wp2_with fail
              refine (HC2.out _).mono ?_
              rintro e w2 ⟨rfl, hs, hf⟩
              have HS2 := Lib.hid hs
              have HF2 := Lib.hid (HF.out.trans (Fr.some hf fun _ e => e.elim))
              clear hs hf
              go_wp2_with fail
              go_ret2
              have hv := HVV.out
              rw [← HLY.out, if_neg (by simp)] at hv
              cases hv
              exact ⟨rfl, HS2.out, HF2.out⟩
        · obtain rfl : k = 5 := by omega
          simp only [List.drop, layl] at hly
          have HLY := Lib.hid hly
          subst hiv
          clear hly
          go_wp2_with fail
          go_ret2
          have hv := HVV.out
          rw [← HLY.out, if_pos rfl] at hv
          cases hv
          exact ⟨rfl, HS.out, HF.out⟩
    · have he' : (e1 != 0) = true := by simp [he]
      have hv := HV.out
      rw [if_neg he] at hv
      cases hv
      clear hS hO hF he
      go_wp2_with fail
      go_ret2
      exact ⟨rfl, SC.out, FC.out⟩
end Go.Proofs.Ytajeiccfgnpbpaa.Mem
