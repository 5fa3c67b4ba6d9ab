/- strings.Cut; the fields of a name. -/
import Derived.Test.YthkmbnkkohomeaaGreatDoorSwak
import Derived.Test.YthkmbnkkohomeaaGreatDoorSwbg
set_option linter.unusedSimpArgs false
set_option linter.unusedVariables false

namespace Go.Proofs.YthkmbnkkohomeaaGreatDoor.Mem
open Go.RowKit Go.Maps

def CutPost (c : UInt8) (s : List UInt8) (w : World) (e : Ending) (w' : World) : Prop :=
  ∃ a b : ByteArray, e = .returned (.tuple #[.string a, .string b, .bool (cutB c s).2.2]) ∧ a.data.toList = (cutB c s).1 ∧ b.data.toList = (cutB c s).2.1 ∧ Fr (fun _ => False) w w'
theorem cut_ok (s : ByteArray) (c : UInt8) (hs : s.size ≤ 5000) (w : World) (hk : Kn w) : Calls Tryz.prog 13 #[.string s, .string ⟨#[c]⟩] w fun e w' => CutPost c s.data.toList w e w' := by
  obtain ⟨m, hm⟩ := hk.mx
  refine (Tryz.strings_Cut s ⟨#[c]⟩ m w (by omega) hm).mono ?_
  rintro e w' ⟨he, n, hw⟩
  have hc : Lib.cut s.data.toList (⟨#[c]⟩ : ByteArray).data.toList = cutB c s.data.toList := cut_one c _
  rw [hc] at he
  exact ⟨_, _, he, rfl, rfl, by rw [hw]; exact (Fr.refl _ _).drewN n⟩

theorem eight_set {w : World} {b : Nat} {x0 x1 x2 x3 x4 x5 x6 x7 : Value} {t : TypeId} (h : w.heap[b]? = some (.cells #[x0, x1, x2, x3, x4, x5, x6, x7] t (0, 0))) (u0 u1 u2 u3 u4 u5 u6 u7 : Value) :
    ((((((((w.setCell ⟨b, 0, none⟩ u0).setCell ⟨b, 1, none⟩ u1).setCell ⟨b, 2, none⟩ u2).setCell ⟨b, 3, none⟩ u3).setCell ⟨b, 4, none⟩ u4).setCell ⟨b, 5, none⟩ u5).setCell ⟨b, 6, none⟩ u6).setCell ⟨b, 7, none⟩ u7).heap[b]? = some (.cells #[u0, u1, u2, u3, u4, u5, u6, u7] t (0, 0)) := by
  have h0 : (w.setCell ⟨b, 0, none⟩ u0).heap[b]? = some (.cells #[u0, x1, x2, x3, x4, x5, x6, x7] t (0, 0)) := heap_setCell_same w b 0 _ _ u0 h
  generalize w.setCell ⟨b, 0, none⟩ u0 = w0 at h0 ⊢
  have h1 : (w0.setCell ⟨b, 1, none⟩ u1).heap[b]? = some (.cells #[u0, u1, x2, x3, x4, x5, x6, x7] t (0, 0)) := heap_setCell_same w0 b 1 _ _ u1 h0
  generalize w0.setCell ⟨b, 1, none⟩ u1 = w1 at h1 ⊢
  have h2 : (w1.setCell ⟨b, 2, none⟩ u2).heap[b]? = some (.cells #[u0, u1, u2, x3, x4, x5, x6, x7] t (0, 0)) := heap_setCell_same w1 b 2 _ _ u2 h1
  generalize w1.setCell ⟨b, 2, none⟩ u2 = w2 at h2 ⊢
  have h3 : (w2.setCell ⟨b, 3, none⟩ u3).heap[b]? = some (.cells #[u0, u1, u2, u3, x4, x5, x6, x7] t (0, 0)) := heap_setCell_same w2 b 3 _ _ u3 h2
  generalize w2.setCell ⟨b, 3, none⟩ u3 = w3 at h3 ⊢
  have h4 : (w3.setCell ⟨b, 4, none⟩ u4).heap[b]? = some (.cells #[u0, u1, u2, u3, u4, x5, x6, x7] t (0, 0)) := heap_setCell_same w3 b 4 _ _ u4 h3
  generalize w3.setCell ⟨b, 4, none⟩ u4 = w4 at h4 ⊢
  have h5 : (w4.setCell ⟨b, 5, none⟩ u5).heap[b]? = some (.cells #[u0, u1, u2, u3, u4, u5, x6, x7] t (0, 0)) := heap_setCell_same w4 b 5 _ _ u5 h4
  generalize w4.setCell ⟨b, 5, none⟩ u5 = w5 at h5 ⊢
  have h6 : (w5.setCell ⟨b, 6, none⟩ u6).heap[b]? = some (.cells #[u0, u1, u2, u3, u4, u5, u6, x7] t (0, 0)) := heap_setCell_same w5 b 6 _ _ u6 h5
  generalize w5.setCell ⟨b, 6, none⟩ u6 = w6 at h6 ⊢
  have h7 : (w6.setCell ⟨b, 7, none⟩ u7).heap[b]? = some (.cells #[u0, u1, u2, u3, u4, u5, u6, u7] t (0, 0)) := heap_setCell_same w6 b 7 _ _ u7 h6
  exact h7
theorem Fr.set8s {a b : World} {p : Nat} {x0 x1 x2 x3 x4 x5 x6 x7 : Value} (h : Fr (fun j => j = p) a b) : Fr (fun j => j = p) a ((((((((b.setCell ⟨p, 0, none⟩ x0).setCell ⟨p, 1, none⟩ x1).setCell ⟨p, 2, none⟩ x2).setCell ⟨p, 3, none⟩ x3).setCell ⟨p, 4, none⟩ x4).setCell ⟨p, 5, none⟩ x5).setCell ⟨p, 6, none⟩ x6).setCell ⟨p, 7, none⟩ x7) :=
  (((((((h.setOne 0 x0).setOne 1 x1).setOne 2 x2).setOne 3 x3).setOne 4 x4).setOne 5 x5).setOne 6 x6).setOne 7 x7

theorem fidx_in {x : List UInt8} (h : x = [105, 110]) : fidx x = none := by subst h; decide
theorem fidx_text {x : List UInt8} (h : x = [116, 101, 120, 116]) : fidx x = none := by subst h; decide
theorem fld_none (b1 k0 k1 k2 k3 k4 k5 : Nat) {x : List UInt8} (h1 : x ≠ [105, 110]) (h2 : fidx x = none) : fldF b1 k0 k1 k2 k3 k4 k5 x = none := by
  unfold fidx at h2
  by_cases c0 : x = [100, 105, 99, 116]
  · rw [if_pos c0] at h2; cases h2
  rw [if_neg c0] at h2
  by_cases c1 : x = [100, 97, 116, 97]
  · rw [if_pos c1] at h2; cases h2
  rw [if_neg c1] at h2
  by_cases c2 : x = [114, 101, 116, 117, 114, 110]
  · rw [if_pos c2] at h2; cases h2
  rw [if_neg c2] at h2
  by_cases c3 : x = [104, 101, 97, 112]
  · rw [if_pos c3] at h2; cases h2
  rw [if_neg c3] at h2
  by_cases c4 : x = [115, 108, 111, 116, 115]
  · rw [if_pos c4] at h2; cases h2
  rw [if_neg c4] at h2
  by_cases c5 : x = [102, 117, 101, 108]
  · rw [if_pos c5] at h2; cases h2
  rw [if_neg c5] at h2
  unfold fldF
  rw [if_neg h1, if_neg c5, if_neg c4, if_neg c3, if_neg c2, if_neg c1, if_neg c0]
/-- What a number's field holds, and what a call of it does. -/
theorem fld_num {w : World} {mb sb b1 k0 k1 k2 k3 k4 k5 : Nat} (h : Flds w mb sb b1 k0 k1 k2 k3 k4 k5) {x : List UInt8} {i : Nat} (hx : fidx x = some i) :
    ∃ k, fldF b1 k0 k1 k2 k3 k4 k5 x = some (nfn k) ∧ ∀ (s : Scr) (t : ByteArray) (sp : Bool) (W : World), t.size ≤ 5000 → Kn W → ScrAt W sb s → W.cell? ⟨b1, 0, none⟩ = some (.pointer (some ⟨sb, 0, none⟩)) →
      (W.cell? ⟨k0, 0, none⟩ = w.cell? ⟨k0, 0, none⟩ ∧ W.cell? ⟨k1, 0, none⟩ = w.cell? ⟨k1, 0, none⟩ ∧ W.cell? ⟨k2, 0, none⟩ = w.cell? ⟨k2, 0, none⟩ ∧ W.cell? ⟨k3, 0, none⟩ = w.cell? ⟨k3, 0, none⟩ ∧ W.cell? ⟨k4, 0, none⟩ = w.cell? ⟨k4, 0, none⟩ ∧ W.cell? ⟨k5, 0, none⟩ = w.cell? ⟨k5, 0, none⟩) →
      Calls Tryz.prog 23 #[.string t, .bool sp, .pointer (some ⟨k, 0, none⟩)] W fun e w' => numPost i sb s t sp W e w' := by
  unfold fidx at hx
  by_cases c0 : x = [100, 105, 99, 116]
  · rw [if_pos c0] at hx
    obtain rfl := Option.some.inj hx
    refine ⟨k0, by subst c0; rfl, fun s t sp W ht hk hs hb1 hc => numF0_ok k0 b1 sb s t sp W ht hk hs hb1 ?_⟩
    rw [hc.1]
    exact h.d0
  rw [if_neg c0] at hx
  by_cases c1 : x = [100, 97, 116, 97]
  · rw [if_pos c1] at hx
    obtain rfl := Option.some.inj hx
    refine ⟨k1, by subst c1; rfl, fun s t sp W ht hk hs hb1 hc => numF1_ok k1 b1 sb s t sp W ht hk hs hb1 ?_⟩
    rw [hc.2.1]
    exact h.d1
  rw [if_neg c1] at hx
  by_cases c2 : x = [114, 101, 116, 117, 114, 110]
  · rw [if_pos c2] at hx
    obtain rfl := Option.some.inj hx
    refine ⟨k2, by subst c2; rfl, fun s t sp W ht hk hs hb1 hc => numF2_ok k2 b1 sb s t sp W ht hk hs hb1 ?_⟩
    rw [hc.2.2.1]
    exact h.d2
  rw [if_neg c2] at hx
  by_cases c3 : x = [104, 101, 97, 112]
  · rw [if_pos c3] at hx
    obtain rfl := Option.some.inj hx
    refine ⟨k3, by subst c3; rfl, fun s t sp W ht hk hs hb1 hc => numF3_ok k3 b1 sb s t sp W ht hk hs hb1 ?_⟩
    rw [hc.2.2.2.1]
    exact h.d3
  rw [if_neg c3] at hx
  by_cases c4 : x = [115, 108, 111, 116, 115]
  · rw [if_pos c4] at hx
    obtain rfl := Option.some.inj hx
    refine ⟨k4, by subst c4; rfl, fun s t sp W ht hk hs hb1 hc => numF4_ok k4 b1 sb s t sp W ht hk hs hb1 ?_⟩
    rw [hc.2.2.2.2.1]
    exact h.d4
  rw [if_neg c4] at hx
  by_cases c5 : x = [102, 117, 101, 108]
  · rw [if_pos c5] at hx
    obtain rfl := Option.some.inj hx
    refine ⟨k5, by subst c5; rfl, fun s t sp W ht hk hs hb1 hc => numF5_ok k5 b1 sb s t sp W ht hk hs hb1 ?_⟩
    rw [hc.2.2.2.2.2]
    exact h.d5
  rw [if_neg c5] at hx
  cases hx
end Go.Proofs.YthkmbnkkohomeaaGreatDoor.Mem
