/- Contracts of package class: Root, New, Lookup, Grow. -/
import Derived.Test.YtajeiccfgnpbpaaClsC
namespace Go.Proofs.Ytajeiccfgnpbpaa.Mem
open Go.RowKit

/-- What New tells, where allocation stands then, and the bytes. -/
def cnewv (z x : Nat) (bs : List UInt8) (root par slots : Int) : (Int × Int) × Nat × List UInt8 :=
  if (cell bs root).2 = 0 then
    (if (clayv z x bs root par slots (cell bs root).1).1.2 = 0 then (((clayv z x bs root par slots (cell bs root).1).1.1, 0), (clayv z x bs root par slots (cell bs root).1).2.1, setc (clayv z x bs root par slots (cell bs root).1).2.2 root (clayv z x bs root par slots (cell bs root).1).1.1)
     else ((0, (clayv z x bs root par slots (cell bs root).1).1.2), x, (clayv z x bs root par slots (cell bs root).1).2.2))
  else ((0, (cell bs root).2), x, bs)

theorem cnewv_inv (z x : Nat) (bs : List UInt8) (root par slots : Int) (h : x ≤ z) : x ≤ (cnewv z x bs root par slots).2.1 ∧ (cnewv z x bs root par slots).2.1 ≤ z ∧ (x % 8 = 0 → (cnewv z x bs root par slots).2.1 % 8 = 0) ∧ (cnewv z x bs root par slots).2.2.length = bs.length := by
  have ht := clayv_inv z x bs root par slots (cell bs root).1 h
  unfold cnewv
  split
  · split
    · exact ⟨ht.1, ht.2.1, ht.2.2.1, by rw [setc_length]; exact ht.2.2.2⟩
    · exact ⟨Nat.le_refl _, h, id, ht.2.2.2⟩
  · exact ⟨Nat.le_refl _, h, id, rfl⟩

set_option maxRecDepth 100000 in
set_option maxHeartbeats 2000000 in
theorem cnew_any (b p g a z x : Nat) (bs : List UInt8) (root par slots : Int) (w : World) (h : Sat w b p g a z x bs) (h8 : x % 8 = 0) (hpar : -9223372036854775808 ≤ par ∧ par ≤ 9223372036854775807) :
    Calls Try.prog 76 #[.pointer (some ⟨b, 0, none⟩), .int .i64 root, .int .i64 par, .int .i64 slots] w
      fun e w' => e = .returned (.tuple #[.int .i64 (cnewv z x bs root par slots).1.1, .int .i64 (cnewv z x bs root par slots).1.2]) ∧ Sat w' b p g a z (cnewv z x bs root par slots).2.1 (cnewv z x bs root par slots).2.2 ∧ Both b g w w' := by
  obtain ⟨q0, q1, q2, q3⟩ := h.cells
  have HC := Lib.hid (cell_any p g bs root w h.mat)
  have HH := Lib.hid (here_any b p g a z x bs w h)
  have hly := clay_any b p g a z x bs root par slots (cell bs root).1 w h h8 hpar
  have hinv := clayv_inv z x bs root par slots (cell bs root).1 h.bd.2.1
  have hbd := h.bd
  have H := Lib.hid h
  unfold cnewv
  obtain ⟨⟨prev, d⟩, hc⟩ : ∃ r, cell bs root = r := ⟨_, rfl⟩
  rw [hc] at HC hly hinv ⊢
  dsimp only at HC hly hinv ⊢
  obtain ⟨⟨⟨v1, v2⟩, vy, vcs⟩, hv⟩ : ∃ v, clayv z x bs root par slots prev = v := ⟨_, rfl⟩
  rw [hv] at hly hinv ⊢
  dsimp only at hly hinv ⊢
  have HL := Lib.hid hly
  have HI := Lib.hid hinv
  have HBd := Lib.hid hbd
  clear h hc hv hly hinv hbd
  by_cases hd : d = 0
  · subst hd
    rw [if_pos rfl]
    by_cases hv2 : v2 = 0
    · subst hv2
      rw [if_pos rfl]
      have HX := Lib.hid (fun w h => setCell_any p g vcs root v1 w h)
      have HLn := Lib.hid (setc_length vcs root v1)
      go_enter Try.func76, Try.ntmps76
      go_wp2_with (first | (go_at_call 46; refine HC.out.mono ?_; rintro e w' ⟨rfl, h0⟩; obtain rfl := h0.symm) | (go_at_call 21; refine HH.out.mono ?_; rintro e w' ⟨rfl, h0⟩; obtain rfl := h0.symm) | (go_at_call 107; refine HL.out.mono ?_; rintro e w1 ⟨rfl, hs, hf⟩; obtain ⟨u0, u1, u2, u3⟩ := hs.cells; have HS1 := Lib.hid hs; have HF1 := Lib.hid hf; clear hs hf) | (go_at_call 15; refine (HX.out _ HS1.out.mat).mono ?_; rintro e w2 ⟨rfl, hm, hf⟩; have HM2 := Lib.hid hm; have HF2 := Lib.hid hf; clear hm hf))
      go_ret2
      exact ⟨rfl, HS1.out.wrote HF2.out HM2.out HLn.out, HF1.out.trans (Fr.some HF2.out fun _ e => .inr e)⟩
    · rw [if_neg hv2]
      have hv2' : (v2 != 0) = true := by simp [hv2]
      have HK := Lib.hid (fun w (h : Sat w b p g a z vy vcs) => back_ok b p g a z vy x vcs w h HBd.out.1 HI.out.1)
      clear hv2
      go_enter Try.func76, Try.ntmps76
      go_wp2_with (first | (go_at_call 46; refine HC.out.mono ?_; rintro e w' ⟨rfl, h0⟩; obtain rfl := h0.symm) | (go_at_call 21; refine HH.out.mono ?_; rintro e w' ⟨rfl, h0⟩; obtain rfl := h0.symm) | (go_at_call 107; refine HL.out.mono ?_; rintro e w1 ⟨rfl, hs, hf⟩; have HS1 := Lib.hid hs; have HF1 := Lib.hid hf; clear hs hf) | (go_at_call 60; refine (HK.out _ HS1.out).mono ?_; rintro e w2 ⟨rfl, hs, hf⟩; have HS2 := Lib.hid hs; have HF2 := Lib.hid hf; clear hs hf))
      go_ret2
      exact ⟨rfl, HS2.out, HF1.out.trans (Fr.some HF2.out fun _ e => .inl e)⟩
  · rw [if_neg hd]
    have hd' : (d != 0) = true := by simp [hd]
    clear hd
    go_enter Try.func76, Try.ntmps76
    go_wp2_with (go_at_call 46; refine HC.out.mono ?_; rintro e w' ⟨rfl, h0⟩; obtain rfl := h0.symm)
    go_ret2
    exact ⟨rfl, H.out, Fr.refl _ _⟩

set_option maxRecDepth 100000 in
set_option maxHeartbeats 1000000 in
theorem croot_ok (b p g a z x : Nat) (bs : List UInt8) (w : World) (h : Sat w b p g a z x bs) (h8 : x % 8 = 0) (hz : x + 8 ≤ z) :
    Calls Try.prog 75 #[.pointer (some ⟨b, 0, none⟩)] w
      fun e w' => e = .returned (.tuple #[.int .i64 x, .int .i64 0]) ∧ Sat w' b p g a z (x + 8) (setv bs x 0) ∧ Both b g w w' := by
  have HA := Lib.hid (align_ok b p g a z x bs w h h8)
  have HH := Lib.hid (here_any b p g a z x bs w h)
  have HC := Lib.hid (comma_ok b p g a z x bs 0 w h h8 hz)
  clear h
  go_enter Try.func75, Try.ntmps75
  go_wp2_with (first | (go_at_call 101; refine HA.out.mono ?_; rintro e w' ⟨rfl, h0⟩; obtain rfl := h0.symm) | (go_at_call 21; refine HH.out.mono ?_; rintro e w' ⟨rfl, h0⟩; obtain rfl := h0.symm) | (go_at_call 102; refine HC.out.mono ?_; rintro e w1 ⟨rfl, hs, hf⟩; have HS1 := Lib.hid hs; have HF1 := Lib.hid hf; clear hs hf))
  go_ret2
  exact ⟨rfl, HS1.out, HF1.out⟩

/-- What Lookup tells. -/
def lookv (bs : List UInt8) (c sel : Int) : Ent × Int × Bool := if isCl bs c = true then getv bs (clv bs c).tab sel else (⟨0, 0, 0⟩, 0, false)

set_option maxRecDepth 100000 in
set_option maxHeartbeats 2000000 in
theorem clookup_any (p g : Nat) (bs : List UInt8) (c sel : Int) (w : World) (h : Mat 108 w p g bs) (hc : -9223372036854775808 ≤ c ∧ c ≤ 9223372036854775807) :
    Calls Try.prog 77 #[.pointer (some ⟨p, 0, none⟩), .int .i64 c, .int .i64 sel] w fun e w' => e = .returned (.tuple #[entv (lookv bs c sel).1, .int .i64 (lookv bs c sel).2.1, .bool (lookv bs c sel).2.2]) ∧ Fr (fun _ => False) w w' := by
  have hr := fun w h => cread_any p g bs c w h hc
  have hg := fun t w h => get_any p g bs t sel w h
  have H := Lib.hid h
  unfold lookv
  by_cases hi : isCl bs c = true
  · rw [if_pos hi]
    rw [hi] at hr
    obtain ⟨⟨k0, k1, k2, k3, k4⟩, hk⟩ : ∃ r, clv bs c = r := ⟨_, rfl⟩
    rw [hk] at hr ⊢
    dsimp only
    replace hg := hg k3
    obtain ⟨⟨⟨e0, e1, e2⟩, n, ok⟩, hv⟩ : ∃ v, getv bs k3 sel = v := ⟨_, rfl⟩
    rw [hv] at hg ⊢
    simp only [clval] at hr
    simp only [entv] at hg ⊢
    have HR := Lib.hid hr
    have HG := Lib.hid hg
    clear h hi hk hv hr hg
    go_enter Try.func77, Try.ntmps77
    go_wp2_with fail
    refine (HR.out _ (H.out.fr (Fr.alloc (S := fun _ => False) (Fr.refl _ _) _) id id)).mono ?_
    rintro e w1 ⟨rfl, hf⟩
    have O1 := Lib.hid (hf.obj (heap_alloc_last _ _) id)
    have F1 := Lib.hid (((Fr.alloc (S := fun _ => False) (Fr.refl _ _) _).trans hf).alloc (.cells #[.int .i64 k0, .int .i64 k1, .int .i64 k2, .int .i64 k3, .int .i64 k4] 142))
    have O2 := Lib.hid ((Below.heap_alloc w1 (.cells #[.int .i64 k0, .int .i64 k1, .int .i64 k2, .int .i64 k3, .int .i64 k4] 142) _ (lt_of_block O1.out)).trans O1.out)
    clear hf
    go_wp2_with fail
    refine (HG.out _ (H.out.fr F1.out id id)).mono ?_
    rintro e w2 ⟨rfl, hf⟩
    have hob := hf.obj O2.out id
    obtain ⟨hr0, hr1, hr2, hz0, hz1, hz2, hlt⟩ := three_cells hob
    have O3 := Lib.hid hob
    have F2 := Lib.hid (F1.out.trans hf)
    clear hf hob
    go_wp2_with fail
    refine bodyPost_ret (results_cell2 rfl _ _ w.heap.size 38 _ (0, 0) _ rfl (three_set O3.out _ _ _) Try.underlying38 rfl (by kernel_rfl)) rfl ⟨rfl, ?_⟩
    exact ((F2.out.setCell (.inl (Nat.le_refl _)) _).setCell (.inl (Nat.le_refl _)) _).setCell (.inl (Nat.le_refl _)) _
  · have hi' : isCl bs c = false := by simpa using hi
    rw [if_neg hi]
    rw [hi', clv_none hi'] at hr
    simp only [clval] at hr
    simp only [entv]
    have HR := Lib.hid hr
    clear h hi hi' hr hg
    go_enter Try.func77, Try.ntmps77
    go_wp2_with fail
    refine (HR.out _ (H.out.fr (Fr.alloc (S := fun _ => False) (Fr.refl _ _) _) id id)).mono ?_
    rintro e w1 ⟨rfl, hf⟩
    have O1 := Lib.hid (hf.obj (heap_alloc_last _ _) id)
    have F1 := Lib.hid ((Fr.alloc (S := fun _ => False) (Fr.refl _ _) _).trans hf)
    obtain ⟨hr0, hr1, hr2, hz0, hz1, hz2, hlt⟩ := three_cells O1.out
    clear hf
    go_wp2_with fail
    refine bodyPost_ret (results_cell2 rfl _ _ w.heap.size 38 _ (0, 0) _ rfl ((Below.heap_alloc _ _ _ (by simpa [World.setCell] using hlt)).trans (three_set O1.out _ _ _)) Try.underlying38 rfl (by kernel_rfl)) rfl ⟨rfl, ?_⟩
    exact (((F1.out.setCell (.inl (Nat.le_refl _)) _).setCell (.inl (Nat.le_refl _)) _).setCell (.inl (Nat.le_refl _)) _).alloc _
end Go.Proofs.Ytajeiccfgnpbpaa.Mem
