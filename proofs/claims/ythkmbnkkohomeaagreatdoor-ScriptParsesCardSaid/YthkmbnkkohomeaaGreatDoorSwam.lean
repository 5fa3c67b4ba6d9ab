/- Several texts in one: HdA, HdB. -/
import Derived.Test.YthkmbnkkohomeaaGreatDoorSwal
import Derived.Test.YthkmbnkkohomeaaGreatDoorSwaj
import Derived.StillTailTactics
set_option linter.unusedSimpArgs false
set_option linter.unusedVariables false
/- Contracts of package head: read; each, with the closure of Find; Find in one list. -/
namespace Go.Proofs.YthkmbnkkohomeaaGreatDoor.Mem
open Go.RowKit

def hcells (w : HW) : List Value := [.int .i64 w.a, .int .i64 w.xt, .int .i64 w.fl, .string ⟨w.nm.toArray⟩]
def hval (w : HW) : Value := .agg #[.int .i64 w.a, .int .i64 w.xt, .int .i64 w.fl, .string ⟨w.nm.toArray⟩]
set_option maxRecDepth 100000 in
set_option maxHeartbeats 2000000 in
theorem hread_ok (p g : Nat) (bs : List UInt8) (a : Int) (x : HW) (l : Int) (w : World) (h : Mat 221 w p g bs) (hr : hread bs a = some (x, l)) :
    Calls Tryz.prog 336 #[.pointer (some ⟨p, 0, none⟩), .int .i64 a] w fun e w' => e = .returned (.tuple #[hval x, .int .i64 l, .bool true]) ∧ Fr (fun _ => False) w w' := by
  unfold hread at hr
  split at hr
  case isFalse => cases hr
  rename_i hc
  obtain ⟨g1, g2, g3, g4, g5, g6⟩ := hc
  simp only [Option.some.injEq, Prod.mk.injEq] at hr
  obtain ⟨rfl, rfl⟩ := hr
  have hbl := h.2.2.2
  have ha := cell_code g1
  have HC := Lib.hid (fun a w h => cell_any p g bs a w h)
  have HT := Lib.hid (fun a k w h h1 h2 => text_any p g bs a k w h h1 h2)
  have H := Lib.hid h
  obtain ⟨⟨v0, e0⟩, h0⟩ : ∃ r, cell bs a = r := ⟨_, rfl⟩
  obtain ⟨⟨n, e1⟩, h1⟩ : ∃ r, cell bs (a + 8) = r := ⟨_, rfl⟩
  rw [h0] at g1 ⊢
  rw [h1] at g2 g3 g4 g5 g6 ⊢
  dsimp only at g1 g2 g3 g4 g5 g6 ⊢
  subst g1 g2
  obtain ⟨⟨t, e2⟩, h2⟩ : ∃ r, txt bs (a + 16) (n % 256) = r := ⟨_, rfl⟩
  rw [h2] at g5 ⊢
  dsimp only at g5 ⊢
  subst g5
  obtain ⟨x1, hx1⟩ : ∃ y, hxt a n = y := ⟨_, rfl⟩
  rw [hx1] at g6 ⊢
  have hx2 : x1 = a + 16 + (n % 256 + 7) / 8 * 8 := by rw [← hx1]; rfl
  obtain ⟨⟨v3, e3⟩, h3⟩ : ∃ r, cell bs x1 = r := ⟨_, rfl⟩
  rw [h3] at g6
  dsimp only at g6
  subst g6
  have hnb := cell_bd' bs (a + 8)
  rw [h1] at hnb
  dsimp only at hnb
  have K0 := Lib.hid (fun (w : World) (h : Mat 221 w p g bs) => (by have := HC.out a w h; rw [h0] at this; exact this : Calls Tryz.prog 100 #[.pointer (some ⟨p, 0, none⟩), .int .i64 a] w fun e w' => e = .returned (.tuple #[.int .i64 v0, .int .i64 0]) ∧ w' = w))
  have K1 := Lib.hid (fun (w : World) (h : Mat 221 w p g bs) => (by have := HC.out (a + 8) w h; rw [h1] at this; exact this : Calls Tryz.prog 100 #[.pointer (some ⟨p, 0, none⟩), .int .i64 (a + 8)] w fun e w' => e = .returned (.tuple #[.int .i64 n, .int .i64 0]) ∧ w' = w))
  have K2 := Lib.hid (fun (w : World) (h : Mat 221 w p g bs) => (by have := HT.out (a + 16) (n % 256) w h (by omega) (by omega); rw [h2] at this; exact this : Calls Tryz.prog 319 #[.pointer (some ⟨p, 0, none⟩), .int .i64 (a + 16), .int .i64 (n % 256)] w fun e w' => e = .returned (.tuple #[.string ⟨t.toArray⟩, .int .i64 0]) ∧ w' = w))
  have K3 := Lib.hid (fun (w : World) (h : Mat 221 w p g bs) => (by have := HC.out x1 w h; rw [h3] at this; exact this : Calls Tryz.prog 100 #[.pointer (some ⟨p, 0, none⟩), .int .i64 x1] w fun e w' => e = .returned (.tuple #[.int .i64 v3, .int .i64 0]) ∧ w' = w))
  have HX := Lib.hid hx2
  have hA := heap_alloc_last w (.cells #[.int .i64 0, .int .i64 0, .int .i64 0, .string ⟨#[]⟩] 101)
  have HA := Lib.hid hA
  have HF := Lib.hid ((Fr.refl (fun _ => False) w).alloc (.cells #[.int .i64 0, .int .i64 0, .int .i64 0, .string ⟨#[]⟩] 101))
  have hn1 : ¬ n < 0 := by omega
  have hn2 : ¬ (31 : Int) < n % 256 := by omega
  clear h h0 h1 h2 h3 hx1 hx2 hA HC HT
  simp only [hval]
  go_enter Tryz.func336, Tryz.ntmps336
  go_wp2_with fail
  refine (K0.out _ (H.out.fr HF.out id id)).mono ?_
  rintro e w1 ⟨rfl, h0⟩
  obtain rfl := h0.symm
  go_wp2_with fail
  refine (K1.out _ (H.out.fr HF.out id id)).mono ?_
  rintro e w1 ⟨rfl, h0⟩
  obtain rfl := h0.symm
  go_wp2_with fail
  refine (K2.out _ (H.out.fr HF.out id id)).mono ?_
  rintro e w1 ⟨rfl, h0⟩
  obtain rfl := h0.symm
  go_wp2_with fail
  have hxe : a + 16 + (n % 256 + 7) / 8 * 8 = x1 := HX.out.symm
  rw [show n % 256 + 8 - 1 = n % 256 + 7 by omega, hxe]
  clear hxe
  refine (K3.out _ (H.out.fr HF.out id id)).mono ?_
  rintro e w1 ⟨rfl, h0⟩
  obtain rfl := h0.symm
  go_wp2_with fail
  have hA2 := heap_alloc_last w (.cells #[.int .i64 a, .int .i64 x1, .int .i64 (n / 256), .string ⟨t.toArray⟩] 101)
  exact bodyPost_ret (results_cell2 rfl _ _ w.heap.size 101 _ (0, 0) _ rfl hA2 Tryz.underlying101 rfl (by kernel_rfl)) rfl ⟨rfl, Fr.alloc (Fr.refl _ _) _⟩

/-- What Find's closure has found. -/
def FoundIs (w : World) (cF cO : Nat) (tF tO : TypeId) : Option HW → Prop
  | none => w.heap[cF]? = some (.cells #[.int .i64 0, .int .i64 0, .int .i64 0, .string ⟨#[]⟩] tF (0, 0)) ∧ w.heap[cO]? = some (.cells #[.bool false] tO (0, 0))
  | some x => w.heap[cF]? = some (.cells #[.int .i64 x.a, .int .i64 x.xt, .int .i64 x.fl, .string ⟨x.nm.toArray⟩] tF (0, 0)) ∧ w.heap[cO]? = some (.cells #[.bool true] tO (0, 0))

theorem str_eq (a b : List UInt8) : (Value.string ⟨a.toArray⟩ = Value.string ⟨b.toArray⟩) = (a = b) := by simp

set_option maxRecDepth 100000 in
set_option maxHeartbeats 2000000 in
theorem find1_no (c1 cF cO : Nat) (tF tO : TypeId) (low : List UInt8) (x : HW) (w : World) (h1 : w.cell? ⟨c1, 0, none⟩ = some (.string ⟨low.toArray⟩)) (h2 : FoundIs w cF cO tF tO none) (hx : x.nm ≠ low) :
    Calls Tryz.prog 298 #[hval x, .pointer (some ⟨c1, 0, none⟩), .pointer (some ⟨cF, 0, none⟩), .pointer (some ⟨cO, 0, none⟩)] w
      fun e w' => e = .returned (.bool true) ∧ Fr (fun _ => False) w w' := by
  obtain ⟨xa, xx, xf, xn⟩ := x
  simp only [hval]
  dsimp only at hx
  obtain ⟨q1, q2⟩ := h2
  have fA := (Fr.refl (fun _ => False) w).alloc (.cells #[.int .i64 xa, .int .i64 xx, .int .i64 xf, .string ⟨xn.toArray⟩] 101)
  have k1 := fA.cell h1 id
  have k2 := cell_of_one (fA.obj q2 id)
  have HF := Lib.hid fA
  have hne' : ¬ (ByteArray.mk xn.toArray) = (ByteArray.mk low.toArray) := by simp [hx]
  clear fA h1 q1 q2
  go_enter Tryz.func298, Tryz.ntmps298
  go_wp2_with fail
  go_ret
  exact ⟨rfl, HF.out⟩

set_option maxRecDepth 100000 in
set_option maxHeartbeats 2000000 in
theorem find1_yes (c1 cF cO : Nat) (tF tO : TypeId) (low : List UInt8) (x : HW) (w : World) (h1 : w.cell? ⟨c1, 0, none⟩ = some (.string ⟨low.toArray⟩)) (h2 : FoundIs w cF cO tF tO none) (hx : x.nm = low) (hf : x.fl = 0) (hd : cF ≠ cO) :
    Calls Tryz.prog 298 #[hval x, .pointer (some ⟨c1, 0, none⟩), .pointer (some ⟨cF, 0, none⟩), .pointer (some ⟨cO, 0, none⟩)] w
      fun e w' => e = .returned (.bool false) ∧ FoundIs w' cF cO tF tO (some x) ∧ Fr (fun j => j = cF ∨ j = cO) w w' := by
  obtain ⟨xa, xx, xf, xn⟩ := x
  simp only [hval]
  dsimp only at hx hf
  subst hx hf
  obtain ⟨q1, q2⟩ := h2
  have fA := (Fr.refl (fun j => j = cF ∨ j = cO) w).alloc (.cells #[.int .i64 xa, .int .i64 xx, .int .i64 0, .string ⟨xn.toArray⟩] 101)
  have k1 := ((Fr.refl (fun _ => False) w).alloc (.cells #[.int .i64 xa, .int .i64 xx, .int .i64 0, .string ⟨xn.toArray⟩] 101)).cell h1 id
  have hlF := lt_of_block q1
  have hlO := lt_of_block q2
  obtain ⟨z0, z1, z2, z3, _⟩ := four_cells q1
  have z4 := fun i => frozen_of_row w cF i _ _ q1
  have y0 := z4 0
  have y1 := z4 1
  have y2 := z4 2
  have y3 := z4 3
  have z5 := frozen_of_row _ cO 0 _ _ q2
  have k2 := cell_of_one q2
  have HQ1 := Lib.hid q1
  have HQ2 := Lib.hid q2
  have HF := Lib.hid fA
  clear fA z4 q1 q2
  go_enter Tryz.func298, Tryz.ntmps298
  go_wp2_with fail
  go_ret
  have F4 := ((((Fr.refl (fun j => j = cF) w).setOne 0 (.int .i64 xa)).setOne 1 (.int .i64 xx)).setOne 2 (.int .i64 0)).setOne 3 (.string ⟨xn.toArray⟩)
  have q1 := four_set HQ1.out (.int .i64 xa) (.int .i64 xx) (.int .i64 0) (.string ⟨xn.toArray⟩)
  have q2 := heap_setCell_same _ cO 0 _ _ (.bool true) (F4.obj HQ2.out (fun e => hd e.symm))
  have F5 := (Fr.refl (fun j => j = cO) ((((w.setCell ⟨cF, 0, none⟩ (.int .i64 xa)).setCell ⟨cF, 1, none⟩ (.int .i64 xx)).setCell ⟨cF, 2, none⟩ (.int .i64 0)).setCell ⟨cF, 3, none⟩ (.string ⟨xn.toArray⟩))).setOne 0 (.bool true)
  have q3 := F5.obj q1 hd
  have FA := (Fr.refl (fun _ => False) (((((w.setCell ⟨cF, 0, none⟩ (.int .i64 xa)).setCell ⟨cF, 1, none⟩ (.int .i64 xx)).setCell ⟨cF, 2, none⟩ (.int .i64 0)).setCell ⟨cF, 3, none⟩ (.string ⟨xn.toArray⟩)).setCell ⟨cO, 0, none⟩ (.bool true))).alloc (.cells #[.int .i64 xa, .int .i64 xx, .int .i64 0, .string ⟨xn.toArray⟩] 101)
  exact ⟨rfl, ⟨FA.obj q3 id, FA.obj q2 id⟩, ((F4.mono fun _ _ e => .inl e).trans (F5.mono fun _ _ e => .inr e)).trans (FA.mono fun _ _ e => e.elim)⟩
end Go.Proofs.YthkmbnkkohomeaaGreatDoor.Mem

/- Contracts of package head: what puts a word, part by part. -/
namespace Go.Proofs.YthkmbnkkohomeaaGreatDoor.Mem
open Go.RowKit

/-- A word in the call's own memory. -/
def Wrd (w : World) (wb : Nat) (a x f : Int) (nm : List UInt8) : Prop := w.heap[wb]? = some (.cells #[.int .i64 a, .int .i64 x, .int .i64 f, .string ⟨nm.toArray⟩] 101 (0, 0))
theorem Wrd.fr {S : Nat → Prop} {w w' : World} {wb : Nat} {a x f : Int} {nm : List UInt8} (h : Wrd w wb a x f nm) (hf : Fr S w w') (hs : ¬ S wb) : Wrd w' wb a x f nm := hf.obj h hs
theorem Wrd.set0 {w : World} {wb : Nat} {a x f : Int} {nm : List UInt8} (h : Wrd w wb a x f nm) (n : Int) : Wrd (w.setCell ⟨wb, 0, none⟩ (.int .i64 n)) wb n x f nm := by
  unfold Wrd at h ⊢
  rw [heap_setCell_same w wb 0 _ _ _ h]
  rfl
theorem Wrd.set1 {w : World} {wb : Nat} {a x f : Int} {nm : List UInt8} (h : Wrd w wb a x f nm) (n : Int) : Wrd (w.setCell ⟨wb, 1, none⟩ (.int .i64 n)) wb a n f nm := by
  unfold Wrd at h ⊢
  rw [heap_setCell_same w wb 1 _ _ _ h]
  rfl
/-- What the closures hold. -/
structure Caps (w : World) (b g p wb c0 c1 c2 : Nat) (v : Int) : Prop where
  k0 : w.cell? ⟨c0, 0, none⟩ = some (.pointer (some ⟨b, 0, none⟩))
  k1 : w.cell? ⟨c1, 0, none⟩ = some (.pointer (some ⟨wb, 0, none⟩))
  k2 : w.cell? ⟨c2, 0, none⟩ = some (.int .i64 v)
  n0 : c0 ≠ wb ∧ c0 ≠ b ∧ c0 ≠ g
  n1 : c1 ≠ wb ∧ c1 ≠ b ∧ c1 ≠ g
  n2 : c2 ≠ wb ∧ c2 ≠ b ∧ c2 ≠ g
  nw : wb ≠ b ∧ wb ≠ g ∧ wb ≠ p
abbrev Three (b g wb : Nat) := Fr fun j => j = b ∨ j = g ∨ j = wb

set_option maxRecDepth 100000 in
set_option maxHeartbeats 2000000 in
theorem puts1_ok (b p g a z x wb c0 c1 c2 : Nat) (A X F L : Int) (nm bs : List UInt8) (w : World) (h : Sat w b p g a z x bs) (h8 : x % 8 = 0) (hz : x + 8 ≤ z) (hw : Wrd w wb A X F nm) (hc : Caps w b g p wb c0 c1 c2 L) :
    Calls Tryz.prog 331 #[.pointer (some ⟨c0, 0, none⟩), .pointer (some ⟨c1, 0, none⟩), .pointer (some ⟨c2, 0, none⟩)] w
      fun e w' => e = .returned (.int .i64 0) ∧ Sat w' b p g a z (x + 8) (setv bs x L) ∧ Wrd w' wb x X F nm ∧ Three b g wb w w' := by
  have HH := Lib.hid (fun W (hW : Sat W b p g a z x bs) => here_any b p g a z x bs W hW)
  have HC := Lib.hid (fun W (hW : Sat W b p g a z x bs) => comma_ok b p g a z x bs L W hW h8 hz)
  obtain ⟨k0, k1, k2, n0, n1, n2, nw⟩ := hc
  obtain ⟨q0, q1, q2, q3, _⟩ := four_cells hw
  have qz := frozen_of_row w wb 0 _ _ hw
  obtain ⟨W, hWe⟩ : ∃ W, (w.drew).setCell ⟨wb, 0, none⟩ (.int .i64 x) = W := ⟨_, rfl⟩
  have fW : Fr (fun j => j = wb) w W := hWe ▸ (Fr.setOne (Fr.refl _ _).drew 0 _)
  have g0 := fW.cell k0 n0.1
  have g1 := fW.cell k1 n1.1
  have g2 := fW.cell k2 n2.1
  have HSW := Lib.hid (h.fr fW (fun e => nw.1 e.symm) (fun e => nw.2.2 e.symm) (fun e => nw.2.1 e.symm))
  have HWW := Lib.hid (show Wrd W wb x X F nm from hWe ▸ (show Wrd w.drew wb A X F nm from hw).set0 x)
  have HS := Lib.hid h
  have HFW := Lib.hid fW
  have HN := Lib.hid nw
  clear h hw h8 hz fW
  go_enter Tryz.func331, Tryz.ntmps331
  go_wp2_with fail
  go_region_with (go_at_call 61; refine (HH.out _ (Sat.drew HS.out)).mono ?_; rintro e w1 ⟨rfl, h0⟩; obtain rfl := h0.symm)
  all_goals
    try rw [hWe]
    go_wp2_with (go_at_call 124; refine (HC.out _ HSW.out).mono ?_; rintro e w2 ⟨rfl, hs, hf⟩)
    go_ret
    exact ⟨rfl, hs, HWW.out.fr hf (fun e => e.elim HN.out.1 HN.out.2.1), (HFW.out.mono fun _ _ e => .inr (.inr e)).trans (hf.mono fun _ _ e => e.elim .inl fun e => .inr (.inl e))⟩
set_option maxRecDepth 100000 in
set_option maxHeartbeats 2000000 in
theorem puts4_ok (b p g a z x wb c0 c1 c2 : Nat) (A X F L : Int) (nm bs : List UInt8) (w : World) (h : Sat w b p g a z x bs) (h8 : x % 8 = 0) (hz : x + 8 ≤ z) (hw : Wrd w wb A X F nm) (hc : Caps w b g p wb c0 c1 c2 L) :
    Calls Tryz.prog 335 #[.pointer (some ⟨c0, 0, none⟩), .pointer (some ⟨c1, 0, none⟩), .pointer (some ⟨c2, 0, none⟩)] w
      fun e w' => e = .returned (.int .i64 0) ∧ Sat w' b p g a z (x + 8) (setv bs x L) ∧ Wrd w' wb A x F nm ∧ Three b g wb w w' := by
  have HH := Lib.hid (fun W (hW : Sat W b p g a z x bs) => here_any b p g a z x bs W hW)
  have HC := Lib.hid (fun W (hW : Sat W b p g a z x bs) => comma_ok b p g a z x bs L W hW h8 hz)
  obtain ⟨k0, k1, k2, n0, n1, n2, nw⟩ := hc
  obtain ⟨q0, q1, q2, q3, _⟩ := four_cells hw
  have qz := frozen_of_row w wb 1 _ _ hw
  obtain ⟨W, hWe⟩ : ∃ W, (w.drew).setCell ⟨wb, 1, none⟩ (.int .i64 x) = W := ⟨_, rfl⟩
  have fW : Fr (fun j => j = wb) w W := hWe ▸ (Fr.setOne (Fr.refl _ _).drew 1 _)
  have g0 := fW.cell k0 n0.1
  have g1 := fW.cell k1 n1.1
  have g2 := fW.cell k2 n2.1
  have HSW := Lib.hid (h.fr fW (fun e => nw.1 e.symm) (fun e => nw.2.2 e.symm) (fun e => nw.2.1 e.symm))
  have HWW := Lib.hid (show Wrd W wb A x F nm from hWe ▸ (show Wrd w.drew wb A X F nm from hw).set1 x)
  have HS := Lib.hid h
  have HFW := Lib.hid fW
  have HN := Lib.hid nw
  clear h hw h8 hz fW
  go_enter Tryz.func335, Tryz.ntmps335
  go_wp2_with fail
  go_region_with (go_at_call 61; refine (HH.out _ (Sat.drew HS.out)).mono ?_; rintro e w1 ⟨rfl, h0⟩; obtain rfl := h0.symm)
  all_goals
    try rw [hWe]
    go_wp2_with (go_at_call 124; refine (HC.out _ HSW.out).mono ?_; rintro e w2 ⟨rfl, hs, hf⟩)
    go_ret
    exact ⟨rfl, hs, HWW.out.fr hf (fun e => e.elim HN.out.1 HN.out.2.1), (HFW.out.mono fun _ _ e => .inr (.inr e)).trans (hf.mono fun _ _ e => e.elim .inl fun e => .inr (.inl e))⟩
/-- What these closures hold. -/
structure Caps2 (w : World) (b g p wb c0 c1 : Nat) : Prop where
  k0 : w.cell? ⟨c0, 0, none⟩ = some (.pointer (some ⟨b, 0, none⟩))
  k1 : w.cell? ⟨c1, 0, none⟩ = some (.pointer (some ⟨wb, 0, none⟩))
theorem Wrd.after {w w' : World} {b g wb : Nat} {a x f : Int} {nm : List UInt8} (h : Wrd w wb a x f nm) (hf : Both b g w w') (nb : wb ≠ b) (ng : wb ≠ g) : Wrd w' wb a x f nm := h.fr hf (fun e => e.elim nb ng)

set_option maxRecDepth 100000 in
set_option maxHeartbeats 2000000 in
theorem puts3_ok (b p g a z x wb c0 c1 : Nat) (A X F : Int) (nm bs : List UInt8) (w : World) (h : Sat w b p g a z x bs) (hz : x + nm.length ≤ z) (hw : Wrd w wb A X F nm) (hc : Caps2 w b g p wb c0 c1) :
    Calls Tryz.prog 333 #[.pointer (some ⟨c0, 0, none⟩), .pointer (some ⟨c1, 0, none⟩)] w
      fun e w' => e = .returned (.int .i64 0) ∧ Sat w' b p g a z (x + nm.length) (put bs x nm) ∧ Both b g w w' := by
  have HC := Lib.hid (fun (W : World) (hW : Sat W b p g a z x bs) => (by
    have := chars_ok b p g a z x bs ⟨nm.toArray⟩ W hW (by show x + nm.toArray.size ≤ z; simpa using hz)
    have e1 : (ByteArray.mk nm.toArray).size = nm.length := by show nm.toArray.size = _; simp
    rw [e1] at this
    exact this : Calls Tryz.prog 334 #[.pointer (some ⟨b, 0, none⟩), .string ⟨nm.toArray⟩] W fun e w' => e = .returned (.int .i64 0) ∧ Sat w' b p g a z (x + nm.length) (put bs x nm) ∧ Both b g W w'))
  obtain ⟨k0, k1⟩ := hc
  obtain ⟨q0, q1, q2, q3, _⟩ := four_cells hw
  have HS := Lib.hid h
  clear h hw hz
  go_enter Tryz.func333, Tryz.ntmps333
  go_wp2_with fail
  go_region_with (go_at_call 334; refine (HC.out _ (Sat.drew HS.out)).mono ?_; rintro e w1 ⟨rfl, hs, hf⟩)
  all_goals
    go_wp2_with fail
    go_ret
    exact ⟨rfl, hs, Fr.undrew hf⟩

set_option maxRecDepth 100000 in
set_option maxHeartbeats 2000000 in
theorem puts2_ok (b p g a z x wb c0 c1 : Nat) (A X F : Int) (nm bs : List UInt8) (w : World) (h : Sat w b p g a z x bs) (h8 : x % 8 = 0) (hz : x + 8 ≤ z) (hw : Wrd w wb A X F nm) (hF : 0 ≤ F ∧ F ≤ 255) (hl : nm.length ≤ 31) (hc : Caps2 w b g p wb c0 c1) :
    Calls Tryz.prog 332 #[.pointer (some ⟨c0, 0, none⟩), .pointer (some ⟨c1, 0, none⟩)] w
      fun e w' => e = .returned (.int .i64 0) ∧ Sat w' b p g a z (x + 8) (setv bs x (nm.length + 256 * F)) ∧ Both b g w w' := by
  have HC := Lib.hid (fun W (hW : Sat W b p g a z x bs) => comma_ok b p g a z x bs (nm.length + 256 * F) W hW h8 hz)
  obtain ⟨k0, k1⟩ := hc
  obtain ⟨q0, q1, q2, q3, _⟩ := four_cells hw
  have HS := Lib.hid h
  have e1 : (ByteArray.mk nm.toArray).size = nm.length := by show nm.toArray.size = _; simp
  clear h hw h8 hz
  go_enter Tryz.func332, Tryz.ntmps332
  go_wp2_with fail
  go_still_tail 12, (by kernel_rfl)
  change wpList _ _ _ _ _ w.drew
  go_wp2_with (go_at_call 124; refine (HC.out _ (Sat.drew HS.out)).mono ?_; rintro e w1 ⟨rfl, hs, hf⟩)
  go_ret
  exact ⟨rfl, hs, Fr.undrew hf⟩

end Go.Proofs.YthkmbnkkohomeaaGreatDoor.Mem
