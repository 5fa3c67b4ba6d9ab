/- Several texts in one: TxA, TxB, OnA. -/
import Derived.Test.YthkmbnkkohomeaaGreatDoorSwbc
import Derived.Test.YthkmbnkkohomeaaGreatDoorSwbb
set_option linter.unusedSimpArgs false
set_option linter.unusedVariables false
/- The reader reads the text '1 .'. -/
namespace Go.Proofs.YthkmbnkkohomeaaGreatDoor.Mem
open Go.RowKit

/-- The text '1 .', and what Word gives of it. -/
def txt1 : ByteArray := ⟨#[49, 32, 46]⟩
theorem word0 : (txt1.extract 0 txt1.size).extract (wfr (txt1.extract 0 txt1.size).data.toList) (wto (txt1.extract 0 txt1.size).data.toList) = ⟨#[49]⟩ ∧ wnx (txt1.extract 0 txt1.size).data.toList = 2 := by decide +kernel
theorem word2 : (txt1.extract 2 txt1.size).extract (wfr (txt1.extract 2 txt1.size).data.toList) (wto (txt1.extract 2 txt1.size).data.toList) = ⟨#[46]⟩ ∧ wnx (txt1.extract 2 txt1.size).data.toList = 1 := by decide +kernel
theorem word3 : (txt1.extract 3 txt1.size).extract (wfr (txt1.extract 3 txt1.size).data.toList) (wto (txt1.extract 3 txt1.size).data.toList) = ⟨#[]⟩ ∧ wnx (txt1.extract 3 txt1.size).data.toList = 0 := by decide +kernel
theorem word_0 (b : Nat) (w : World) (h : Src w b txt1 0) : Calls Tryz.prog 96 #[.pointer (some ⟨b, 0, none⟩)] w fun e w' => e = .returned (.string ⟨#[49]⟩) ∧ Src w' b txt1 2 ∧ Fr (fun j => j = b) w w' := by
  have := word_any b txt1 0 w h _ rfl
  rw [word0.1, word0.2] at this
  exact this
theorem word_2 (b : Nat) (w : World) (h : Src w b txt1 2) : Calls Tryz.prog 96 #[.pointer (some ⟨b, 0, none⟩)] w fun e w' => e = .returned (.string ⟨#[46]⟩) ∧ Src w' b txt1 3 ∧ Fr (fun j => j = b) w w' := by
  have := word_any b txt1 2 w h _ rfl
  rw [word2.1, word2.2] at this
  exact this
theorem word_3 (b : Nat) (w : World) (h : Src w b txt1 3) : Calls Tryz.prog 96 #[.pointer (some ⟨b, 0, none⟩)] w fun e w' => e = .returned (.string ⟨#[]⟩) ∧ Src w' b txt1 3 ∧ Fr (fun j => j = b) w w' := by
  have := word_any b txt1 3 w h _ rfl
  rw [word3.1, word3.2] at this
  exact this

theorem OtS.word {w w' : World} {ob sr q qc wm : Nat} {o : OR} {v : VB} {m : MR} {bs : List UInt8} {x dd rd : Nat} (h : OtS w ob sr q qc wm o v m bs x dd rd) (f : Fr (fun j => j = sr) w w') : OtS w' ob sr q qc wm o v m bs x dd rd := by
  obtain ⟨s1, s2, s3, s4, s5, s6, s7, s8⟩ := h.ns
  exact h.turn f (h.vm.fr f (fun e => s1 e.symm) (fun e => s2 e.symm) (fun e => s3 e.symm) (fun e => s4 e.symm) (fun e => s5 e.symm) (fun e => s6 e.symm) (fun e => s7 e.symm) (fun e => s8 e.symm)) h.ne.2.2.2.2.2.2.2.2.1 h.nq.2.2.2 h.nw.2.2.2

/-- Behind a new source in the reader's cell. -/
theorem OtS.src {w w1 : World} {ob sr q qc wm : Nat} {o : OR} {v : VB} {m : MR} {bs : List UInt8} {x dd rd s : Nat} (h : OtS w ob sr q qc wm o v m bs x dd rd) (f : Fr (fun _ => False) w w1) (hq : q < w.heap.size) (hob : s = w.heap.size) :
    OtS (w1.setCell ⟨ob, 1, none⟩ (.pointer (some ⟨s, 0, none⟩))) ob s q qc wm o v m bs x dd rd := by
  have h1 := h.nf f
  have F := (Fr.refl (fun j => j = ob) w1).setOne 1 (.pointer (some ⟨s, 0, none⟩))
  obtain ⟨e1, e2, e3, e4, e5, e6, e7, e8, e9, e10, e11⟩ := h.ne
  obtain ⟨n, hn⟩ := h1.wds
  have l1 := h.vm.row.lt
  have l2 := h.vm.sat.lt
  have l3 := lt_of_block h.vm.ds
  have l4 := lt_of_block h.vm.rs
  have l5 := lt_of_block h.vm.dotc
  have l6 := lt_of_block h.row
  obtain ⟨nn, ⟨G, hG, _⟩, _⟩ := h.vm.dot
  have l7 := hG.lt
  obtain ⟨n0, hn0⟩ := h.wds
  have l8 := hn0.lt
  refine ⟨?_, F.cell h1.lst (fun e => e10 e.symm), ⟨n, hn.fr F (fun e => e11 e.symm)⟩, h1.vm.fr F (fun e => e1 e.symm) (fun e => e2 e.symm) (fun e => e3 e.symm) (fun e => e4 e.symm) (fun e => e5 e.symm) (fun e => e6 e.symm) (fun e => e7 e.symm) (fun e => e8 e.symm), ⟨e1, e2, e3, e4, e5, e6, e7, e8, by omega, e10, e11⟩, ⟨h.nq.1, h.nq.2.1, h.nq.2.2.1, by omega⟩, ⟨h.nw.1, h.nw.2.1, h.nw.2.2.1, by omega⟩, by omega⟩
  rw [heap_setCell_same w1 ob 1 _ _ _ h1.row]
  rfl

theorem HD.push {bs : List UInt8} {x di : Nat} {n : Int} {ws : List (HW × Int)} (h : HD bs x 24 ws) (hx : x ≤ di) : HD (setv bs di n) x 24 ws :=
  h.same (setv_length _ _ _) (fun i _ hi => (setv_same bs di n).2 i (.inl (by omega))) (Nat.le_refl _) (by rw [setv_length]; exact h.xl)
end Go.Proofs.YthkmbnkkohomeaaGreatDoor.Mem

/- The reader reads the text '1 .': Text. -/
namespace Go.Proofs.YthkmbnkkohomeaaGreatDoor.Mem
open Go.RowKit

/-- What the text '1 .' leaves of a machine's row. -/
def txtM (m : MR) : MR := dotM { { m with fuel := m.fuel - 1 } with ip := 0, self := 0, hdl := 0, fuel := m.fuel - 1 - 1 - 1 } 1

set_option maxRecDepth 100000 in
set_option maxHeartbeats 4000000 in
theorem text_dot (ob sr q qc wm : Nat) (o : OR) (v : VB) (m : MR) (bs : List UInt8) (x rd : Nat) (w : World) (h : OtS w ob sr q qc wm o v m bs x 0 rd) (hql : q < w.heap.size) (hd : HD bs x 24 wsAll) (hx : x ≤ v.di) (hda : 1 ≤ v.da) (hten : cellv bs 16 = 10) (hx16 : 2832 ≤ x) (hb : m.base = 16) (hfu : 3 ≤ m.fuel ∧ m.fuel ≤ 1048576) (hov : m.over = false) (hout : m.out = ByteArray.empty)
    (ht : ∀ W, Fr (fun j => j = ob ∨ j = v.mb ∨ j = v.db ∨ j = v.g) w W → Cod.Tab W) :
    Calls Tryz.prog 59 #[.pointer (some ⟨ob, 0, none⟩), .string txt1] w
      fun e w' => ∃ sr' bs', e = .returned (.int .i64 0) ∧ OtS w' ob sr' q qc wm o v (txtM m) bs' x 0 rd ∧ Fr (fun j => j = ob ∨ j = v.mb ∨ j = v.db ∨ j = v.g) w w' := by
  have hbl := h.vm.sat.mat.2.2.2
  have hfi := h.vm.fits
  have c1 : cell bs 16 = (10, 0) := by
    unfold cell
    rw [if_pos (code_of (by omega) (by omega) (by omega))]
    show (cellv bs 16, (0 : Int)) = _
    rw [hten]
  have hd1 : HD (setv bs (v.di + 0 * 8) 1) x 24 wsAll := hd.push (by omega)
  have c2 : cell (setv bs (v.di + 0 * 8) 1) 16 = (10, 0) := by rw [(setv_same bs (v.di + 0 * 8) 1).cell 16 (by omega)]; exact c1
  have c3 : cellv (setv bs (v.di + 0 * 8) 1) (v.di + 0 * 8) = ((1 : Nat) : Int) := cellv_same _ _ _ (by omega) (by omega)
  have c4 : cell (setv bs (v.di + 0 * 8) 1) 2200 = (68, 0) := by
    obtain ⟨y, hy, hy1⟩ := List.mem_map.1 (List.mem_of_find?_eq_some ws_dot)
    have h4 := hd1.code hy
    rw [hy1] at h4
    rw [dot_code y hy (by rw [hy1])] at h4
    exact h4
  have HSN := Lib.hid (srnew_any txt1 w (by decide))
  have n0 := h.ne
  have H := Lib.hid h
  obtain ⟨s, hs⟩ : ∃ s, w.heap.size = s := ⟨_, rfl⟩
  rw [hs] at HSN hql
  have lob := lt_of_block h.row
  have lmb := h.vm.row.lt
  have ldb := lt_of_block h.vm.ds
  have lg := h.vm.sat.lt
  rw [hs] at lob lmb ldb lg
  have q1 := H.out.cells
  have HT := Lib.hid ht
  have HD0 := Lib.hid (And.intro hd hd1)
  have HC := Lib.hid (And.intro c1 (And.intro c2 (And.intro c3 c4)))
  have HM := Lib.hid (And.intro hb (And.intro hfu (And.intro hov hout)))
  have HDA := Lib.hid hda
  clear h hd hd1 c1 c2 c3 c4 ht hb hfu hov hout q1 hbl hfi hten hda
  go_enter Tryz.func59, Tryz.ntmps59
  go_wp2_with (go_at_call 79; refine HSN.out.mono ?_; rintro e w1 ⟨rfl, hs1, hf1⟩; have H1 := Lib.hid (H.out.nf hf1); have k1 := H1.out.cells.2.1; have f1 := H1.out.cells.2.2.2.2.2)
  have HO2 := Lib.hid (OtS.src H.out hf1 (by omega) hs.symm)
  have F2 := Lib.hid (Fr.setCell (S := fun j => j = ob ∨ j = v.mb ∨ j = v.db ∨ j = v.g) (hf1.mono fun _ _ e => e.elim) (p := ⟨ob, 1, none⟩) (.inr (.inl rfl)) (.pointer (some ⟨s, 0, none⟩)))
  have HS2 := Lib.hid (hs1.fr ((Fr.refl (fun j => j = ob) w1).setOne 1 (.pointer (some ⟨s, 0, none⟩))) (by omega))
  obtain ⟨w2, hw2⟩ : ∃ w2, w1.setCell ⟨ob, 1, none⟩ (.pointer (some ⟨s, 0, none⟩)) = w2 := ⟨_, rfl⟩
  rw [hw2] at HO2 F2 HS2 ⊢
  clear hs1 hf1 H1 k1 f1 hw2
  obtain ⟨B1, hB1⟩ : ∃ B, setv bs (v.di + 0 * 8) 1 = B := ⟨_, rfl⟩
  obtain ⟨M1, hM1⟩ : ∃ M, ({ m with fuel := m.fuel - 1 } : MR) = M := ⟨_, rfl⟩
  obtain ⟨M2, hM2⟩ : ∃ M, txtM m = M := ⟨_, rfl⟩
  have HMM := Lib.hid (And.intro hM1 hM2)
  rw [hB1] at HC HD0
  have HB1 := Lib.hid hB1
  clear hM1 hM2 hB1
  go_loopw [5] (fun lv wr => lv = .int .i64 0 ∧ Fr (fun j => j = ob ∨ j = v.mb ∨ j = v.db ∨ j = v.g) w wr ∧
    ((OtS wr ob s q qc wm o v m bs x 0 rd ∧ Src wr s txt1 0) ∨ (OtS wr ob s q qc wm o v M1 B1 x (0 + 1) rd ∧ Src wr s txt1 2) ∨ (OtS wr ob s q qc wm o v M2 B1 x 0 rd ∧ Src wr s txt1 3))) (fun _ wr => match wr.cell? ⟨s, 1, none⟩ with | some u => 4 - (intOf u).toNat | none => 0)
  case atStart => exact ⟨rfl, F2.out, .inl ⟨HO2.out, HS2.out⟩⟩
  case round =>
    obtain ⟨rfl, hF, ⟨hO, hS⟩ | ⟨hO, hS⟩ | ⟨hO, hS⟩⟩ := hrel
    · have k0 := hO.cells.1
      have k1 := hO.cells.2.1
      have k13 : wr.cell? ⟨v.mb, 13, none⟩ = some (.bool false) := by rw [← HM.out.2.2.1]; exact hO.vm.row.cells.2.2.2.2.2.2.2.2.2.2.2.2.2.1
      have HW := Lib.hid (word_0 s wr hS)
      have HO := Lib.hid hO
      have HF := Lib.hid hF
      have hsc := hS.cells.2.1
      have HSC := Lib.hid hsc
      clear hO hF hS hsc
      go_wp2_with (go_at_call 96; refine HW.out.mono ?_; rintro e w3 ⟨rfl, hs3, hf3⟩)
      have HO3 := Lib.hid (HO.out.word hf3)
      have HF3 := Lib.hid (HF.out.after hf3 (fun k hk e => by omega))
      have HS3 := Lib.hid hs3
      have HR := Lib.hid (read_one ob s q qc wm o v m bs x 0 rd w3 HO3.out HD0.out.1 ⟨by have := HM.out.2.1; omega, HM.out.2.1.2⟩ HDA.out HC.out.1 HM.out.1)
      rw [HMM.out.1, HB1.out] at HR
      clear hs3 hf3 k0 k1 k13
      go_wp2_with (go_at_call 97; refine HR.out.mono ?_; rintro e w4 ⟨rfl, ho4, hf4⟩)
      have hns := HO3.out.ns
      have hs4 := HS3.out.fr hf4 (by omega)
      go_roundw
      case rel => exact ⟨rfl, HF3.out.trans (hf4.mono fun _ _ e => .inr e), .inr (.inl ⟨ho4, hs4⟩)⟩
      case measure =>
        rw [hs4.cells.2.1, HSC.out]
        simp [intOf]
    · have k0 := hO.cells.1
      have k1 := hO.cells.2.1
      have k13 : wr.cell? ⟨v.mb, 13, none⟩ = some (.bool false) := by rw [← HM.out.2.2.1, show m.over = M1.over from by rw [← HMM.out.1]]; exact hO.vm.row.cells.2.2.2.2.2.2.2.2.2.2.2.2.2.1
      have HW := Lib.hid (word_2 s wr hS)
      have HO := Lib.hid hO
      have HF := Lib.hid hF
      have hsc := hS.cells.2.1
      have HSC := Lib.hid hsc
      clear hO hF hS hsc
      go_wp2_with (go_at_call 96; refine HW.out.mono ?_; rintro e w3 ⟨rfl, hs3, hf3⟩)
      have HO3 := Lib.hid (HO.out.word hf3)
      have HF3 := Lib.hid (HF.out.after hf3 (fun k hk e => by omega))
      have HS3 := Lib.hid hs3
      have HR := Lib.hid (read_dot ob s q qc wm o v M1 B1 x 0 rd w3 HO3.out HD0.out.2 (by rw [← HMM.out.1]; dsimp only; have := HM.out.2.1; omega) 1
        ⟨HDA.out, HC.out.2.2.1, by rw [← HMM.out.1]; exact HM.out.1, HC.out.2.1, by decide, by rw [← HMM.out.1, udig_one]; dsimp only; rw [HM.out.2.2.2]; decide, by rw [udig_one]; decide +kernel, HC.out.2.2.2⟩
        (fun W hW => HT.out W (HF3.out.trans (hW.mono fun _ _ e => .inr (.inl e)))))
      clear hs3 hf3 k0 k1 k13
      go_wp2_with (go_at_call 97; refine HR.out.mono ?_; rintro e w4 ⟨rfl, ho4, hf4⟩)
      have hns := HO3.out.ns
      have hs4 := HS3.out.fr hf4 (by omega)
      rw [← HMM.out.1] at ho4
      go_roundw
      case rel => exact ⟨rfl, HF3.out.trans (hf4.mono fun _ _ e => .inr (e.elim .inl fun e => .inr (.inl e))), .inr (.inr ⟨by rw [← HMM.out.2]; exact ho4, hs4⟩)⟩
      case measure =>
        rw [hs4.cells.2.1, HSC.out]
        simp [intOf]
    · have k0 := hO.cells.1
      have k1 := hO.cells.2.1
      have k13 : wr.cell? ⟨v.mb, 13, none⟩ = some (.bool false) := by rw [← HM.out.2.2.1, show m.over = M2.over from by rw [← HMM.out.2]; rfl]; exact hO.vm.row.cells.2.2.2.2.2.2.2.2.2.2.2.2.2.1
      have HW := Lib.hid (word_3 s wr hS)
      have HO := Lib.hid hO
      have HF := Lib.hid hF
      clear hO hF hS
      go_wp2_with (go_at_call 96; refine HW.out.mono ?_; rintro e w3 ⟨rfl, hs3, hf3⟩)
      go_ret
      exact ⟨s, B1, rfl, by rw [HMM.out.2]; exact HO.out.word hf3, HF.out.after hf3 (fun k hk e => by omega)⟩
end Go.Proofs.YthkmbnkkohomeaaGreatDoor.Mem

/- outer.New of a new machine. -/
namespace Go.Proofs.YthkmbnkkohomeaaGreatDoor.Mem
open Go.RowKit

theorem ots_new (v : VB) (m : MR) (bs : List UInt8) (x dd rd sr q wm n : Nat) (w E : World) (o : OR) (hV : VmS w v m bs x dd rd) (F : Fr (fun _ => False) w E) (hq : E.cell? ⟨q, 0, none⟩ = some (.int .i64 24)) (hm : FmP [([46], none), ([49], none)] E wm n)
    (s1 : w.heap.size ≤ sr ∧ sr < E.heap.size) (s2 : w.heap.size ≤ q ∧ q < E.heap.size) (s3 : w.heap.size ≤ wm) (d : q ≠ sr ∧ wm ≠ sr) :
    OtS (E.alloc (.cells (o.row v.mb sr q 1 wm) 105)) E.heap.size sr q 1 wm o v m bs x dd rd ∧ FmP [([46], none), ([49], none)] (E.alloc (.cells (o.row v.mb sr q 1 wm) 105)) wm n ∧ q ≠ wm := by
  have fA := (Fr.refl (fun _ => False) E).alloc (.cells (o.row v.mb sr q 1 wm) 105)
  have l1 := hV.row.lt
  have l2 := hV.sat.lt
  have l3 := lt_of_block hV.ds
  have l4 := lt_of_block hV.rs
  have l5 := lt_of_block hV.dotc
  obtain ⟨nn, ⟨G, hG, _⟩, _⟩ := hV.dot
  have l7 := hG.lt
  have l8 := hm.lt
  have l9 := F.size
  refine ⟨⟨heap_alloc_last E _, fA.cell hq id, ⟨n, hm.fr fA id⟩, (hV.nf F).nf fA, by omega, by omega, by omega, by omega⟩, hm.fr fA id, fun e => ?_⟩
  subst e
  obtain ⟨es, ck, hmo⟩ := hm.obj
  unfold World.cell? at hq
  simp [hmo] at hq

set_option maxRecDepth 100000 in
set_option maxHeartbeats 4000000 in
theorem onew_ok (v : VB) (m : MR) (bs : List UInt8) (x dd rd : Nat) (w : World) (h : VmS w v m bs x dd rd) (hd : HD bs x 24 wsAll) (hml : m.list = 24) (ht : Cod.Tab w) :
    Calls Tryz.prog 54 #[.pointer (some ⟨v.mb, 0, none⟩)] w fun e w' => ∃ (ob sr q qc wm : Nat) (o : OR), e = .returned (.pointer (some ⟨ob, 0, none⟩)) ∧ OtS w' ob sr q qc wm o v m bs x dd rd ∧ w.heap.size ≤ ob ∧ w.heap.size ≤ wm ∧ q < w'.heap.size ∧ o.rs = .slice none 0 0 ∧ FmP [([46], none), ([49], none)] w' wm 200 ∧ q ≠ wm ∧ Fr (fun _ => False) w w' := by
  have q8 : w.cell? ⟨v.mb, 8, none⟩ = some (.int .i64 24) := by rw [← hml]; exact h.row.cells.2.2.2.2.2.2.2.2.1
  have H := Lib.hid h
  have HC := Lib.hid (fun W (hW : Fr (fun _ => False) w W) => prims_ok v m bs x dd rd W (h.nf hW) hd hml (Cod.tab_fr hW ht))
  clear h hd hml ht
  go_enter Tryz.func54, Tryz.ntmps54
  go_wp2_with fail
  go_region_held3 (fun W => W.cell? ⟨v.mb, 8, none⟩ = some (.int .i64 24) ∧ Fr (fun _ => False) w W)
    ((go_split_ands; refine (fun hF => ⟨Fr.cell hF q8 id, hF⟩ : Fr (fun _ => False) w _ → _) ?_; repeat' with_reducible first | exact Fr.refl _ _ | assumption | apply Fr.drew | apply Fr.alloc))
    (first | (go_at_call 79; go_split_ands; refine (srnew_any _ _ (by decide)).mono ?_; rintro e w3 ⟨rfl, hs3, hf3⟩; have g3 : Fr (fun _ => False) w w3 := Fr.trans (by repeat' with_reducible first | exact Fr.refl _ _ | assumption | apply Fr.drew | apply Fr.alloc) hf3) | (go_at_call 80; go_split_ands; refine (otable_nd _).mono ?_; rintro e w4 ⟨rfl, hm4, hf4⟩; have g4 : Fr (fun _ => False) w w4 := Fr.trans (by repeat' with_reducible first | exact Fr.refl _ _ | assumption | apply Fr.drew | apply Fr.alloc) hf4) | (go_at_call 81; go_split_ands; refine (HC.out _ (by repeat' with_reducible first | exact Fr.refl _ _ | assumption | apply Fr.drew | apply Fr.alloc)).mono ?_; rintro e w5 ⟨⟨xb, rfl⟩, hf5⟩; have g5 : Fr (fun _ => False) w w5 := Fr.trans (by repeat' with_reducible first | exact Fr.refl _ _ | assumption | apply Fr.drew | apply Fr.alloc) hf5) | fail)
  · have e31 : (w3.alloc (.cells #[.int .i64 24] 2)).heap.size = w3.heap.size + 1 := by simp
    rw [e31] at hm4
    have z3 := hf3.size
    have z4 := hf4.size
    have z5 := hf5.size
    have l4 := hm4.lt
    have l3 := lt_of_block hs3.1
    simp only [World.drew] at z3 z4 z5
    go_wp2_with fail
    go_ret
    have hO := ots_new v m bs x dd rd w.heap.size w3.heap.size (w3.heap.size + 1) 200 w w5 ⟨.slice none 0 0, .bool false, .slice none 0 0, .map (some xb), .int .i64 0, .int .i64 0, .int .i64 0, .string ⟨#[]⟩, .pointer none, .pointer none⟩ H.out g5 (hf5.cell (Fr.cell hf4 (p := ⟨w3.heap.size, 0, none⟩) (v := .int .i64 24) (cell_of_one (heap_alloc_last w3 (.cells #[.int .i64 24] 2))) id) id) (hm4.fr hf5 id) (by simp at *; omega) (by simp at *; omega) (by simp at *; omega) (by simp at *; omega)
    exact ⟨_, _, _, _, _, _, rfl, hO.1, by have := (g5).size; omega, by simp at *; omega, by simp at *; omega, rfl, hO.2.1, hO.2.2, (g5).alloc _⟩
  · skip
    have z3 := hf3.size
    have z4 := hf4.size
    have z5 := hf5.size
    have l4 := hm4.lt
    have l3 := lt_of_block hs3.1
    simp only [World.drew] at z3 z4 z5
    go_wp2_with fail
    go_ret
    have hO := ots_new v m bs x dd rd w.heap.size w4.heap.size w3.heap.size 200 w w5 ⟨.slice none 0 0, .bool false, .slice none 0 0, .map (some xb), .int .i64 0, .int .i64 0, .int .i64 0, .string ⟨#[]⟩, .pointer none, .pointer none⟩ H.out g5 (Fr.cell hf5 (p := ⟨w4.heap.size, 0, none⟩) (v := .int .i64 24) (cell_of_one (heap_alloc_last w4 (.cells #[.int .i64 24] 2))) id) (hm4.fr (Fr.trans ((Fr.refl (fun _ => False) w4).alloc (.cells #[.int .i64 24] 2)) hf5) id) (by simp at *; omega) (by simp at *; omega) (by simp at *; omega) (by simp at *; omega)
    exact ⟨_, _, _, _, _, _, rfl, hO.1, by have := (g5).size; omega, by simp at *; omega, by simp at *; omega, rfl, hO.2.1, hO.2.2, (g5).alloc _⟩
  · skip
    have z3 := hf3.size
    have z4 := hf4.size
    have z5 := hf5.size
    have l4 := hm4.lt
    have l3 := lt_of_block hs3.1
    simp only [World.drew] at z3 z4 z5
    go_wp2_with fail
    go_ret
    have hO := ots_new v m bs x dd rd w.heap.size w5.heap.size w3.heap.size 200 w (w5.alloc (.cells #[.int .i64 24] 2)) ⟨.slice none 0 0, .bool false, .slice none 0 0, .map (some xb), .int .i64 0, .int .i64 0, .int .i64 0, .string ⟨#[]⟩, .pointer none, .pointer none⟩ H.out (g5.alloc (.cells #[.int .i64 24] 2)) (cell_of_one (heap_alloc_last w5 (.cells #[.int .i64 24] 2))) ((hm4.fr hf5 id).fr ((Fr.refl (fun _ => False) w5).alloc (.cells #[.int .i64 24] 2)) id) (by simp at *; omega) (by simp at *; omega) (by simp at *; omega) (by simp at *; omega)
    have e51 : (w5.alloc (.cells #[.int .i64 24] 2)).heap.size = w5.heap.size + 1 := by simp
    rw [e51] at hO
    exact ⟨_, _, _, _, _, _, rfl, hO.1, by have := ((g5.alloc (.cells #[.int .i64 24] 2))).size; omega, by simp at *; omega, by simp at *; omega, rfl, hO.2.1, hO.2.2, ((g5.alloc (.cells #[.int .i64 24] 2))).alloc _⟩
  · skip
    have z3 := hf3.size
    have z4 := hf4.size
    have z5 := hf5.size
    have l4 := hm4.lt
    have l3 := lt_of_block hs3.1
    simp only [World.drew] at z3 z4 z5
    go_wp2_with fail
    go_ret
    have hO := ots_new v m bs x dd rd (w.heap.size + 1) w.heap.size w3.heap.size 200 w w5 ⟨.slice none 0 0, .bool false, .slice none 0 0, .map (some xb), .int .i64 0, .int .i64 0, .int .i64 0, .string ⟨#[]⟩, .pointer none, .pointer none⟩ H.out g5 (hf5.cell (hf4.cell (Fr.cell hf3 (p := ⟨w.heap.size, 0, none⟩) (v := .int .i64 24) (cell_of_one (heap_alloc_last w (.cells #[.int .i64 24] 2))) id) id) id) (hm4.fr hf5 id) (by simp at *; omega) (by simp at *; omega) (by simp at *; omega) (by simp at *; omega)
    exact ⟨_, _, _, _, _, _, rfl, hO.1, by have := (g5).size; omega, by simp at *; omega, by simp at *; omega, rfl, hO.2.1, hO.2.2, (g5).alloc _⟩
end Go.Proofs.YthkmbnkkohomeaaGreatDoor.Mem
