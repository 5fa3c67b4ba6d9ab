/- Several texts in one: EpA, TbA, TbB. -/
import Derived.Test.YthkmbnkkohomeaaGreatDoorSwao
import Derived.Test.YthkmbnkkohomeaaGreatDoorSwba
import Derived.Test.YthkmbnkkohomeaaGreatDoorSwaq
import Derived.Deep.RegionHeld3
import Derived.Maps.OwnSet
import Derived.BigQuiet
import Derived.Test.YthkmbnkkohomeaaGreatDoorSwas
import Derived.Test.YthkmbnkkohomeaaGreatDoorSwaj
import Derived.Test.YthkmbnkkohomeaaGreatDoorSwat
import Derived.Laws.EntriesVeiled
set_option linter.unusedSimpArgs false
set_option linter.unusedVariables false
/- outer.primitives: it ends, and gives a map. -/
namespace Go.Proofs.YthkmbnkkohomeaaGreatDoor.Mem
open Go.RowKit Go.Maps

theorem hcells_at : ∀ (ws : List HW) (k : Nat) (y : HW), ws[k]? = some y → ∀ j u, (hcells y)[j]? = some u → (ws.flatMap hcells)[k * 4 + j]? = some u
  | [], k, y, h, _, _, _ => by simp at h
  | z :: ws, 0, y, h, j, u, hu => by
    simp at h
    subst h
    have hj : j < 4 := by
      rcases Nat.lt_or_ge j 4 with h4 | h4
      · exact h4
      · rw [List.getElem?_eq_none (by simpa [hcells] using h4)] at hu
        cases hu
    rw [List.flatMap_cons, List.getElem?_append_left (by simp [hcells]; omega)]
    simpa using hu
  | z :: ws, k + 1, y, h, j, u, hu => by
    rw [List.flatMap_cons, List.getElem?_append_right (by simp [hcells]; omega)]
    have := hcells_at ws k y (by simpa using h) j u hu
    rw [show (k + 1) * 4 + j - (hcells z).length = k * 4 + j by simp [hcells]; omega]
    exact this

theorem addr_add0 (g i : Nat) : (⟨g, 0, none⟩ : Addr).add i = ⟨g, i, none⟩ := by unfold Addr.add; split <;> simp_all
theorem ws_facts : ∀ z ∈ wsAll, 1 ≤ z.2 ∧ z.2 ≤ 1003 ∧ (⟨z.1.nm.toArray⟩ : ByteArray).toList.isEmpty = false ∧ (⟨z.1.nm.toArray⟩ : ByteArray).size ≤ 31 ∧ (0 ≤ z.1.xt ∧ z.1.xt ≤ 10000) := by
  have h : wsAll.all (fun z => decide (1 ≤ z.2) && decide (z.2 ≤ 1003) && !(⟨z.1.nm.toArray⟩ : ByteArray).toList.isEmpty && decide ((⟨z.1.nm.toArray⟩ : ByteArray).size ≤ 31) && (decide (0 ≤ z.1.xt) && decide (z.1.xt ≤ 10000))) = true := by decide +kernel
  intro z hz
  have := List.all_eq_true.1 h z hz
  simp only [Bool.and_eq_true, decide_eq_true_eq, Bool.not_eq_true'] at this
  exact ⟨this.1.1.1.1, this.1.1.1.2, this.1.1.2, this.1.2, this.2⟩
theorem name_any (n : Int) (w : World) (ht : Cod.Tab w) (h1 : 1 ≤ n) (h2 : n ≤ 1003) : Calls Tryz.prog 140 #[.int .i64 n] w fun e w' => (∃ s : ByteArray, e = .returned (.string s)) ∧ Fr (fun _ => False) w w' := by
  by_cases h : n ≤ 86
  · have := Cod.name_good (n - 1).toNat w ht (by omega)
    rw [show (((n - 1).toNat : Nat) : Int) + 1 = n by omega] at this
    exact this.mono fun e w' k => ⟨⟨_, k.1⟩, Fr.of_below k.2 _⟩
  · exact (Cod.name_bad n w ht (.inr (by omega)) (by omega)).mono fun e w' k => ⟨⟨_, k.1⟩, Fr.of_below k.2 _⟩

/-- A map from texts to numbers, of which nothing more is known. -/
def IMp (w : World) (b n : Nat) : Prop := ∃ D : DataW Value, w.ownsMap Tryz.prog 9 (plainElem Tryz.prog 2) b n D

set_option maxRecDepth 100000 in
set_option maxHeartbeats 4000000 in
theorem prims_ok (v : VB) (m : MR) (bs : List UInt8) (x dd rd : Nat) (w : World) (h : VmS w v m bs x dd rd) (hd : HD bs x 24 wsAll) (hml : m.list = 24) (ht : Cod.Tab w) :
    Calls Tryz.prog 81 #[.pointer (some ⟨v.mb, 0, none⟩)] w fun e w' => (∃ b, e = .returned (.map (some b))) ∧ Fr (fun _ => False) w w' := by
  have hmm := @run_makeMap Tryz.prog
  have fA := (Fr.refl (fun _ => False) w).alloc (.map #[] 0)
  have hnew : IMp (w.alloc (.map #[] 0)) w.heap.size 0 := ⟨.map [], World.ownsMap_made w _ _ _⟩
  have hsz : (w.alloc (.map #[] 0)).heap.size = w.heap.size + 1 := by simp
  obtain ⟨b, hb⟩ : ∃ b, w.heap.size = b := ⟨_, rfl⟩
  obtain ⟨w1, hw1⟩ : ∃ w1, w.alloc (.map #[] 0) = w1 := ⟨_, rfl⟩
  rw [hw1] at fA hnew hsz
  rw [hb] at hnew hsz
  have h1 := h.nf fA
  have q0 : w1.cell? ⟨v.mb, 0, none⟩ = some (.pointer (some ⟨v.sb, 0, none⟩)) := by rw [← h1.sp]; exact h1.row.cells.1
  have q8 : w1.cell? ⟨v.mb, 8, none⟩ = some (.int .i64 24) := by rw [← hml]; exact h1.row.cells.2.2.2.2.2.2.2.2.1
  have s0 := h1.sat.cells.1
  have hwn : (wsAll.map (·.1)).length ≤ 1000 := by decide +kernel
  have HWD := Lib.hid (fun W (hW : VmS W v m bs x dd rd) => words_ok v.p v.g bs 24 x (wsAll.map (·.1)) W hW.sat.mat hd.xl hd.root hd.lnk hwn)
  have H1 := Lib.hid h1
  have HF1 := Lib.hid fA
  have HN := Lib.hid hnew
  have HHD := Lib.hid hd
  have HT := Lib.hid ht
  have HB := Lib.hid hb
  have H0 := Lib.hid h
  obtain ⟨ws, hws⟩ : ∃ ws, wsAll.map (·.1) = ws := ⟨_, rfl⟩
  rw [hws] at HWD hwn
  have HWS := Lib.hid hws
  clear h hd hml ht fA hnew h1 hws
  go_enter Tryz.func81, Tryz.ntmps81
  go_wp2_with fail
  go_region_held3 (fun W => W.cell? ⟨v.mb, 0, none⟩ = some (.pointer (some ⟨v.sb, 0, none⟩)) ∧ W.cell? ⟨v.mb, 8, none⟩ = some (.int .i64 24) ∧ W.cell? ⟨v.sb, 0, none⟩ = some (.pointer (some ⟨v.p, 0, none⟩)) ∧ Fr (fun _ => False) w1 W)
    ((go_split_ands; refine (fun hF => ⟨Fr.cell hF q0 id, Fr.cell hF q8 id, Fr.cell hF s0 id, hF⟩ : Fr (fun _ => False) w1 _ → _) ?_; repeat' with_reducible first | exact Fr.refl _ _ | assumption | apply Fr.drew | apply Fr.alloc))
    (first | (go_at_call 139; go_split_ands; refine (HWD.out _ (VmS.nf H1.out (by with_reducible exact Fr.drew (Fr.refl _ _)))).mono ?_; rintro e w2 ⟨⟨wv, rfl, ho⟩, hf2⟩; have g2 : Fr (fun _ => False) w1 w2 := Fr.trans (Fr.drew (Fr.refl _ _)) hf2; obtain ⟨oo, cc, rfl, _, _, ho1, ho2⟩ := owns_form ho) | fail)
  have HO := Lib.hid ho
  have HO1 := Lib.hid ho1
  have HO2 := Lib.hid ho2
  have G2 := Lib.hid g2
  have H2 := Lib.hid (H1.out.nf g2)
  have HN2 : Hid (IMp w2 b 0) := Lib.hid (by
    obtain ⟨D, es, ck, hb', k2, k3, k4⟩ := HN.out
    exact ⟨D, es, ck, g2.obj hb' id, k2, k3, k4⟩)
  clear ho ho1 ho2 hf2 g2 q0 q8 s0
  go_wp2_with fail
  have q0 : w2.cell? ⟨v.mb, 0, none⟩ = some (.pointer (some ⟨v.sb, 0, none⟩)) := by rw [← H2.out.sp]; exact H2.out.row.cells.1
  have s0 := H2.out.sat.cells.1
  go_loopw [22] (fun iv wr => ∃ k n : Nat, k ≤ ws.length ∧ iv = .int .i64 k ∧ IMp wr b n ∧ n ≤ k ∧ Fr (fun j => j = b) w2 wr) (fun iv _ => ws.length - (intOf iv).toNat)
  case atStart => exact ⟨0, 0, Nat.zero_le _, rfl, HN2.out, Nat.le_refl _, Fr.refl _ _⟩
  case round =>
    obtain ⟨k, n, hk, hiv, hmap, hnk, hF⟩ := hrel
    by_cases hlt : k < ws.length
    · obtain ⟨y, hy⟩ : ∃ y, ws[k]? = some y := ⟨_, List.getElem?_eq_getElem hlt⟩
      obtain ⟨ba, hba⟩ : ∃ ba, oo = some ba := by
        cases oo with
        | none => have := (HO1.out rfl).1; omega
        | some ba => exact ⟨ba, rfl⟩
      subst hba
      obtain ⟨o1, o2, o3, o4⟩ := HO2.out ba rfl
      obtain ⟨g, off, sp⟩ := ba
      dsimp only at o1 o2 o3 o4
      subst o1 o2
      have hbg : g ≠ b := by
        have h3 : w1.heap.size + 1 ≤ g := o3
        omega
      have hcell : ∀ j u, (hcells y)[j]? = some u → wr.cell? ⟨g, k * 4 + j, none⟩ = some u := fun j u hu => by
        have := owns_holds HO.out ⟨g, 0, none⟩ rfl (k * 4 + j) u (hcells_at ws k y hy j u hu)
        rw [addr_add0] at this
        exact hF.cell this hbg
      have e0 := hcell 0 _ rfl
      have e1 := hcell 1 _ rfl
      have e2 := hcell 2 _ rfl
      have e3 := hcell 3 _ rfl
      rw [Nat.add_zero] at e0
      obtain ⟨z, hz, hzy⟩ : ∃ z ∈ wsAll, z.1 = y := by
        have := List.mem_of_getElem? hy
        rw [← HWS.out] at this
        obtain ⟨z, hz, e⟩ := List.mem_map.1 this
        exact ⟨z, hz, e⟩
      have hzf := ws_facts z hz
      have hcd := HHD.out.code hz
      have hF2 : Fr (fun _ => False) w wr := (HF1.out.trans G2.out).after hF (fun j hj e => by have := HB.out; omega)
      rw [hzy] at hzf hcd
      obtain ⟨cd, hcde⟩ : ∃ c, z.2 = c := ⟨_, rfl⟩
      rw [hcde] at hzf hcd
      obtain ⟨ya, yx, yf, yn⟩ := y
      dsimp only at e0 e1 e2 e3 hzf hcd
      have HVr := Lib.hid (H0.out.nf hF2)
      have HF2 := Lib.hid hF2
      have HFo := Lib.hid hF
      have HMP := Lib.hid hmap
      have W9 := (Fr.refl (fun _ => False) wr).alloc (.cells #[.int .i64 ya, .int .i64 yx, .int .i64 yf, .string ⟨yn.toArray⟩] 101)
      have hV9 := HVr.out.nf W9
      have q09 : (wr.alloc (.cells #[.int .i64 ya, .int .i64 yx, .int .i64 yf, .string ⟨yn.toArray⟩] 101)).cell? ⟨v.mb, 0, none⟩ = some (.pointer (some ⟨v.sb, 0, none⟩)) := by rw [← hV9.sp]; exact hV9.row.cells.1
      have s09 := hV9.sat.cells.1
      have hA9 := heap_alloc_last wr (.cells #[.int .i64 ya, .int .i64 yx, .int .i64 yf, .string ⟨yn.toArray⟩] 101)
      have hM := fun n => cell_any v.p v.g bs yx ((wr.alloc (.cells #[.int .i64 ya, .int .i64 yx, .int .i64 yf, .string ⟨yn.toArray⟩] 101)).drewN n) hV9.sat.mat
      rw [hcd] at hM
      have HM := Lib.hid hM
      have HW9 := Lib.hid W9
      have HA9 := Lib.hid hA9
      have HZF := Lib.hid hzf
      clear hM W9 hV9 hA9 hmap hF hF2 hcell hcd hy hz hzy hcde hzf q0 s0
      subst hiv
      go_wp2_with fail
      go_quiet ((go_at_call 100; exact Calls.quiet_of_same (HM.out _)))
      obtain ⟨g0, g1, g2, g3, _⟩ := four_cells HA9.out
      go_wp2_with fail
      obtain ⟨w9, hw9⟩ : ∃ w9, (wr.alloc (.cells #[.int .i64 ya, .int .i64 yx, .int .i64 yf, .string ⟨yn.toArray⟩] 101)).drewN nq = w9 := ⟨_, rfl⟩
      have G9 : Fr (fun _ => False) wr w9 := by rw [← hw9]; exact HW9.out.drewN _
      have f1 : w9.cell? ⟨wr.heap.size, 1, none⟩ = some (.int .i64 yx) := by rw [← hw9]; exact g1
      have f3 : w9.cell? ⟨wr.heap.size, 3, none⟩ = some (.string ⟨yn.toArray⟩) := by rw [← hw9]; exact g3
      rw [hw9]
      obtain ⟨nm, hnm⟩ : ∃ nm : ByteArray, ⟨yn.toArray⟩ = nm := ⟨_, rfl⟩
      rw [hnm] at f3 HZF
      have hne := HZF.out.2.2.1
      have hsm := HZF.out.2.2.2.1
      have hxt := HZF.out.2.2.2.2
      have HG9 := Lib.hid G9
      have HTW := Lib.hid (fun W (hW : Fr (fun _ => False) w9 W) => name_any cd W (Cod.tab_fr (HF2.out.trans (G9.trans hW)) HT.out) HZF.out.1 HZF.out.2.1)
      clear g0 g1 g2 g3 e0 e1 e2 e3 q09 s09 hw9 G9 hnm
      go_region_held3 (fun W => W.cell? ⟨wr.heap.size, 3, none⟩ = some (.string nm) ∧ Fr (fun _ => False) w9 W)
        ((go_split_ands; refine (fun hF => ⟨Fr.cell hF f3 id, hF⟩ : Fr (fun _ => False) w9 _ → _) ?_; repeat' with_reducible first | exact Fr.refl _ _ | assumption | apply Fr.drew | apply Fr.alloc))
        (first | (go_at_call 140; go_split_ands; refine (HTW.out _ (by repeat' with_reducible first | exact Fr.refl _ _ | assumption | apply Fr.drew | apply Fr.alloc)).mono ?_; rintro e w10 ⟨⟨s, rfl⟩, hf10⟩; have g10 : Fr (fun _ => False) w9 w10 := Fr.trans (by repeat' with_reducible first | exact Fr.refl _ _ | assumption | apply Fr.drew | apply Fr.alloc) hf10) | fail)
      have HG10 := Lib.hid g10
      have f1' := g10.cell f1 id
      have f3' := g10.cell f3 id
      clear hf10 g10 f1 f3
      have HGA := Lib.hid (HFo.out.after (HG9.out.trans HG10.out) (fun j hj e => e.elim) : Fr (fun j => j = b) w2 w10)
      have HMP2 : Hid (IMp w10 b n) := Lib.hid (by
        obtain ⟨D, es, ck, hb', k2, k3, k4⟩ := HMP.out
        exact ⟨D, es, ck, (HG9.out.trans HG10.out).obj hb' id, k2, k3, k4⟩)
      cases hq : (s.toList == nm.toList)
      case true =>
        obtain ⟨D, hown⟩ := HMP2.out
        have hkey := WideMaps.keyOf_string_mk (P := Tryz.prog) (k := 9) Tryz.underlying9 (s := nm) (by unfold maxLen; omega)
        go_wp2_with (at_mapUpdate; refine wpList_mapUpdate_own _ rfl _ _ _ 99 rfl 9 2 strKey Tryz.underlying99 (plainElem Tryz.prog 2) b n D rfl hown (by unfold maxLen; omega) (.string nm) (.int .i64 yx) _ rfl rfl hkey (.lit (.int .i64 yx)) [] (plainElem_int Tryz.underlying2 (WalkArith.wf_i64 (by omega))) ?_; intro w11 hown11 hg11; go_frame)
        go_roundw
        case rel => exact ⟨k + 1, n + 1, by omega, by go_num, ⟨_, hown11⟩, by omega, HGA.out.trans (Fr.grown (S := fun j => j = b) (Fr.refl _ _) hg11 (fun j hj => .inr (Option.some.inj hj).symm))⟩
        case measure => simp [intOf]; omega
      case false =>
        go_wp2_with fail
        go_roundw
        case rel => exact ⟨k + 1, n, by omega, by go_num, HMP2.out, by omega, HGA.out⟩
        case measure => simp [intOf]; omega
    · obtain rfl : k = ws.length := by omega
      subst hiv
      go_wp2_with fail
      go_ret
      exact ⟨⟨b, rfl⟩, (HF1.out.trans G2.out).after hF (fun j hj e => by have := HB.out; omega)⟩
end Go.Proofs.YthkmbnkkohomeaaGreatDoor.Mem

/- Tables of words: those of the reader, and of classes. -/
namespace Go.Proofs.YthkmbnkkohomeaaGreatDoor.Mem
open Go.RowKit Go.Maps

set_option maxRecDepth 100000 in
set_option maxHeartbeats 4000000 in
theorem compiling_nd (w : World) :
    Calls Tryz.prog 135 #[] w fun e w' => e = .returned (.map (some w.heap.size)) ∧ FmP [([46], none), ([49], none)] w' w.heap.size 40 ∧ Fr (fun _ => False) w w' := by
  have hmm := @run_makeMap Tryz.prog
  have hm := FmP.made [[46], [49]] w
  have hF : Fr (fun j => j = w.heap.size) w (w.alloc (.map #[] 0)) := (Fr.refl _ _).alloc _
  go_enter Tryz.func135, Tryz.ntmps135
  go_wp2_with (refine wpList_ins_fmp _ rfl _ _ _ 97 130 (.inr rfl) Tryz.underlying97 _ _ _ rfl hm (by unfold maxLen; omega) _ rfl (by decide) (by decide) _ _ _ rfl ?_; intro w9 hm9 hf9; replace hm := hm9; replace hF := hF.trans hf9; clear hm9 hf9)
  go_ret
  exact ⟨rfl, hm.mono (by omega), Fr.mono hF (fun k hk e => by omega)⟩

set_option maxRecDepth 100000 in
set_option maxHeartbeats 4000000 in
theorem interpreting_nd (w : World) :
    Calls Tryz.prog 137 #[] w fun e w' => e = .returned (.map (some w.heap.size)) ∧ FmP [([46], none), ([49], none)] w' w.heap.size 40 ∧ Fr (fun _ => False) w w' := by
  have hmm := @run_makeMap Tryz.prog
  have hm := FmP.made [[46], [49]] w
  have hF : Fr (fun j => j = w.heap.size) w (w.alloc (.map #[] 0)) := (Fr.refl _ _).alloc _
  go_enter Tryz.func137, Tryz.ntmps137
  go_wp2_with (refine wpList_ins_fmp _ rfl _ _ _ 97 130 (.inr rfl) Tryz.underlying97 _ _ _ rfl hm (by unfold maxLen; omega) _ rfl (by decide) (by decide) _ _ _ rfl ?_; intro w9 hm9 hf9; replace hm := hm9; replace hF := hF.trans hf9; clear hm9 hf9)
  go_ret
  exact ⟨rfl, hm.mono (by omega), Fr.mono hF (fun k hk e => by omega)⟩

set_option maxRecDepth 100000 in
set_option maxHeartbeats 4000000 in
theorem outside_nd (w : World) :
    Calls Tryz.prog 86 #[] w fun e w' => e = .returned (.map (some w.heap.size)) ∧ FmP [([46], none), ([49], none)] w' w.heap.size 40 ∧ Fr (fun _ => False) w w' := by
  have hmm := @run_makeMap Tryz.prog
  have hm := FmP.made [[46], [49]] w
  have hF : Fr (fun j => j = w.heap.size) w (w.alloc (.map #[] 0)) := (Fr.refl _ _).alloc _
  go_enter Tryz.func86, Tryz.ntmps86
  go_wp2_with (refine wpList_ins_fmp _ rfl _ _ _ 127 129 (.inr rfl) Tryz.underlying127 _ _ _ rfl hm (by unfold maxLen; omega) _ rfl (by decide) (by decide) _ _ _ rfl ?_; intro w9 hm9 hf9; replace hm := hm9; replace hF := hF.trans hf9; clear hm9 hf9)
  go_ret
  exact ⟨rfl, hm.mono (by omega), Fr.mono hF (fun k hk e => by omega)⟩

set_option maxRecDepth 100000 in
set_option maxHeartbeats 4000000 in
theorem inside_nd (w : World) :
    Calls Tryz.prog 88 #[] w fun e w' => e = .returned (.map (some w.heap.size)) ∧ FmP [([46], none), ([49], none)] w' w.heap.size 40 ∧ Fr (fun _ => False) w w' := by
  have hmm := @run_makeMap Tryz.prog
  have hm := FmP.made [[46], [49]] w
  have hF : Fr (fun j => j = w.heap.size) w (w.alloc (.map #[] 0)) := (Fr.refl _ _).alloc _
  go_enter Tryz.func88, Tryz.ntmps88
  go_wp2_with (refine wpList_ins_fmp _ rfl _ _ _ 127 129 (.inr rfl) Tryz.underlying127 _ _ _ rfl hm (by unfold maxLen; omega) _ rfl (by decide) (by decide) _ _ _ rfl ?_; intro w9 hm9 hf9; replace hm := hm9; replace hF := hF.trans hf9; clear hm9 hf9)
  go_ret
  exact ⟨rfl, hm.mono (by omega), Fr.mono hF (fun k hk e => by omega)⟩

end Go.Proofs.YthkmbnkkohomeaaGreatDoor.Mem

/- The reader's table of words, and that of classes. -/
namespace Go.Proofs.YthkmbnkkohomeaaGreatDoor.Mem
open Go.RowKit Go.Maps

theorem fr_grown1 {w w' : World} {b : Nat} (h : Fr (fun j => j = b) w w') : w.grownBy w' (some b) := ⟨h.os, h.tape, h.output, h.size, fun k hk hn => h.block k hk (fun e => hn (by rw [e]))⟩

set_option maxRecDepth 100000 in
set_option maxHeartbeats 8000000 in
theorem otable_nd (w : World) :
    Calls Tryz.prog 80 #[] w fun e w' => e = .returned (.map (some w.heap.size)) ∧ FmP [([46], none), ([49], none)] w' w.heap.size 200 ∧ Fr (fun _ => False) w w' := by
  have hmf : ∀ (fn : Fn) (first cap : Array Value) (w : World), (Instr.makeFunc fn first cap).run Tryz.prog w = .ok (.func fn first cap) w := fun _ _ _ _ => rfl
  have hmm := @run_makeMap Tryz.prog
  have hm := FmP.made [[46], [49]] w
  have hF : Fr (fun j => j = w.heap.size) w (w.alloc (.map #[] 0)) := (Fr.refl _ _).alloc _
  go_enter Tryz.func80, Tryz.ntmps80
  go_wp2_with (refine wpList_ins_fmp _ rfl _ _ _ 97 130 (.inr rfl) Tryz.underlying97 _ _ _ rfl hm (by unfold maxLen; omega) _ rfl (by decide) (by decide) _ _ _ rfl ?_; intro w9 hm9 hf9; replace hm := hm9; replace hF := hF.trans hf9; clear hm9 hf9)
  refine (compiling_nd _).mono ?_
  rintro e w10 ⟨rfl, hmB1, hf10⟩
  have hmA1 : FmP [([46], none), ([49], none)] w10 w.heap.size 20 := (hm.fr hf10 id).mono (by omega)
  have HF10 := Lib.hid (hF.trans (hf10.mono fun _ _ e => e.elim))
  have hm9l := hm.lt
  have h10 := hf10.size
  clear hm hF hf10
  obtain ⟨b2, hb2⟩ : ∃ b, w9.heap.size = b := ⟨_, rfl⟩
  rw [hb2] at hmB1 hm9l
  rw [hb2]

  have hlt1 := hmA1.lt
  have HA1 := Lib.hid hmA1
  obtain ⟨F1, ⟨D1, hown1, hi1, hU1, hh1, hfn1⟩, kd1⟩ := hmB1
  have k461 := kd1 ([46], none) (by simp)
  have k491 := kd1 ([49], none) (by simp)
  dsimp only at k461 k491
  have hbl1 := hown1.lt
  have HU1 := Lib.hid hU1
  have HH1 := Lib.hid hh1
  have HFN1 := Lib.hid hfn1
  have HK1 := Lib.hid (And.intro k461 k491)
  have hszD1 := hown1.size_le
  clear hU1 hh1 hfn1 kd1 k461 k491 hmA1
  obtain ⟨rb1, hrb1⟩ : ∃ r, w10.heap.size = r := ⟨_, rfl⟩
  rw [hrb1] at hbl1 hlt1
  go_wp2_with (at_range; refine wpList_range_own _ rfl _ 97 rfl 9 130 strKey Tryz.underlying97 _ b2 40 _ rfl hown1 ?_; intro w01 hrg01 hg01 hs01)
  go_frame
  rw [hrb1] at hrg01
  rw [hrb1]
  have HG01 := Lib.hid hg01
  clear hg01 hs01
  go_loopw [2] (fun _ wo => ∃ (left : Lit → Bool) (cnt : Nat), wo.ranges Tryz.prog 9 fnElem b2 rb1 40 D1 left cnt ∧ cnt ≤ 40 ∧ FmP [([46], none), ([49], none)] wo w.heap.size (20 + (40 - cnt)) ∧ Fr (fun j => j = w.heap.size) w10 wo)
    (fun _ wo => wo.rangeLeft b2 rb1)
  case atStart =>
    have hf : Fr (fun _ => False) w10 w01 := Fr.grown (Fr.refl _ _) HG01.out (fun k hk => by cases hk)
    exact ⟨_, _, hrg01, hszD1, (HA1.out.fr hf id).mono (by omega), hf.mono fun _ _ e => e.elim⟩
  case round =>
    obtain ⟨left, cnt, hrg, hcs, hout, hFo⟩ := hrel
    obtain ⟨wr1, hwr1⟩ : ∃ W, W = wr := ⟨_, rfl⟩
    subst hwr1
    have HOUT := Lib.hid hout
    have HFo1 := Lib.hid hFo
    have hge := hFo.size
    clear hout hFo
    go_wp2_with (at_next; refine wpList_next_ranges _ rfl _ rfl 9 strKey fnElem Value.string (fun v : Value => v) (fun key kl h => (by obtain ⟨s, e, _⟩ := WideMaps.string_of_keyOf Tryz.underlying9 h; exact ⟨s, e⟩)) (fun v _ _ => ⟨v, rfl⟩) b2 _ 40 _ _ _ rfl hrg ?_ ?_)
    · intro hc0 hl0
      go_wp2_with fail
      refine (interpreting_nd _).mono ?_
      rintro e w11 ⟨rfl, hmB2, hf11⟩
      have hmA2 : FmP [([46], none), ([49], none)] w11 w.heap.size 60 := (HOUT.out.fr hf11 id).mono (by omega)
      have HF11 := Lib.hid (HF10.out.trans (HFo1.out.trans (hf11.mono fun _ _ e => e.elim)))
      have hm9l2 := HOUT.out.lt
      have h11 := hf11.size
      clear hf11 HOUT
      obtain ⟨b3, hb3⟩ : ∃ b, wr1.heap.size = b := ⟨_, rfl⟩
      rw [hb3] at hmB2 hm9l2
      rw [hb3]
      have hlt2 := hmA2.lt
      have HA2 := Lib.hid hmA2
      obtain ⟨F2, ⟨D2, hown2, hi2, hU2, hh2, hfn2⟩, kd2⟩ := hmB2
      have k462 := kd2 ([46], none) (by simp)
      have k492 := kd2 ([49], none) (by simp)
      dsimp only at k462 k492
      have hbl2 := hown2.lt
      have HU2 := Lib.hid hU2
      have HH2 := Lib.hid hh2
      have HFN2 := Lib.hid hfn2
      have HK2 := Lib.hid (And.intro k462 k492)
      have hszD2 := hown2.size_le
      clear hU2 hh2 hfn2 kd2 k462 k492 hmA2
      obtain ⟨rb2, hrb2⟩ : ∃ r, w11.heap.size = r := ⟨_, rfl⟩
      rw [hrb2] at hbl2 hlt2
      go_wp2_with (at_range; refine wpList_range_own _ rfl _ 97 rfl 9 130 strKey Tryz.underlying97 _ b3 40 _ rfl hown2 ?_; intro w02 hrg02 hg02 hs02)
      go_frame
      rw [hrb2] at hrg02
      rw [hrb2]
      have HG02 := Lib.hid hg02
      clear hg02 hs02
      go_loopw [4] (fun _ wo => ∃ (left : Lit → Bool) (cnt : Nat), wo.ranges Tryz.prog 9 fnElem b3 rb2 40 D2 left cnt ∧ cnt ≤ 40 ∧ FmP [([46], none), ([49], none)] wo w.heap.size (60 + (40 - cnt)) ∧ Fr (fun j => j = w.heap.size) w11 wo)
        (fun _ wo => wo.rangeLeft b3 rb2)
      case atStart =>
        have hf : Fr (fun _ => False) w11 w02 := Fr.grown (Fr.refl _ _) HG02.out (fun k hk => by cases hk)
        exact ⟨_, _, hrg02, hszD2, (HA2.out.fr hf id).mono (by omega), hf.mono fun _ _ e => e.elim⟩
      case round =>
        obtain ⟨left, cnt, hrg, hcs, hout, hFo⟩ := hrel
        obtain ⟨wr2, hwr2⟩ : ∃ W, W = wr := ⟨_, rfl⟩
        subst hwr2
        have HOUT := Lib.hid hout
        have HFo2 := Lib.hid hFo
        have hge := hFo.size
        clear hout hFo
        go_wp2_with (at_next; refine wpList_next_ranges _ rfl _ rfl 9 strKey fnElem Value.string (fun v : Value => v) (fun key kl h => (by obtain ⟨s, e, _⟩ := WideMaps.string_of_keyOf Tryz.underlying9 h; exact ⟨s, e⟩)) (fun v _ _ => ⟨v, rfl⟩) b3 _ 40 _ _ _ rfl hrg ?_ ?_)
        · intro hc0 hl0
          go_wp2_with fail
          go_ret
          exact ⟨rfl, HOUT.out.mono (by omega), (HF11.out.trans HFo2.out).mono (fun k hk e => by omega)⟩
        · intro x v' kl y yp w1' cnt1 hkx hlx hwc hat hrg1 hlt' hg1 hs1 hen
          have hkl : Maps.has D2 kl = true := has_true_of_atKey hat
          obtain ⟨hy0, _⟩ := fnElem_some hwc
          obtain ⟨hy, _⟩ := Prod.mk.inj hy0
          have hat0 := hat (.held .nilFunc)
          rw [HU2.out, hy] at hat0
          have hsm : (F2 kl).isSome = true := by rw [← HH2.out]; exact hkl
          obtain ⟨v, hv⟩ := Option.isSome_iff_exists.1 hsm
          rw [hv] at hat0
          obtain rfl : v = v' := by simpa using hat0
          obtain ⟨f, p, q, rfl⟩ := HFN2.out kl v hv
          obtain ⟨s, hsx, hskl, hss⟩ := WideMaps.string_of_keyOf Tryz.underlying9 hkx
          have hg1' : Fr (fun j => j = rb2) wr2 w1' := Fr.grown (S := fun j => j = rb2) (Fr.refl _ _) hg1 (fun k hk => .inr (Option.some.inj hk).symm)
          have HG1 := Lib.hid (hg1'.alloc (.cells #[.func f p q] 130))
          injection hsx with hsx
          subst hsx
          have hne : x.data.toList ∉ [(([46] : List UInt8), (none : Option Value)), ([49], none)].map (·.1) := by
            intro hm
            simp only [List.map_cons, List.map_nil, List.mem_cons, List.not_mem_nil, or_false] at hm
            rcases hm with hm | hm
            · rw [hskl, hm, HK2.out.1] at hv; cases hv
            · rw [hskl, hm, HK2.out.2] at hv; cases hv
          have hrgA := hrg1.kept (fr_grown ((Fr.refl (fun _ => False) w1').alloc (.cells #[.func f p q] 130))) (fun e => by cases e) (fun e => by cases e)
          have HS1 := Lib.hid hs1
          clear hat hat0 hsm hwc hy hy0 hv hg1' hs1
          go_wp2_with (at_mapUpdate; refine wpList_ins_fmp _ rfl _ _ _ 97 130 (.inl rfl) Tryz.underlying97 _ w.heap.size _ rfl (HOUT.out.fr (S := fun j => j = rb2) HG1.out (show ¬ (w.heap.size = rb2) from Nat.ne_of_lt hlt2)) (by unfold maxLen; omega) x rfl (by first | exact hss | omega) hne (.func 138) #[] _ rfl ?_; intro w2' hout2 ht2; go_frame)
          have hrg2 := hrgA.kept (fr_grown1 ht2) (fun e => by have := Option.some.inj e; omega) (fun e => by have := Option.some.inj e; omega)
          go_roundw
          case rel =>
            first
            | exact ⟨_, cnt1, hrg2, by omega, hout2.mono (by omega), (HFo2.out.after HG1.out (fun k hk e => by omega)).trans ht2⟩
            | refine ⟨_, _, _, _, _, _, _, _, _, ⟨_, cnt1, hrg2, by omega, hout2.mono (by omega), (HFo2.out.after HG1.out (fun k hk e => by omega)).trans ht2⟩, rfl⟩
          case measure => rw [hrg2.left_eq, hrg.left_eq]; exact hlt'
    · intro x v' kl y yp w1' cnt1 hkx hlx hwc hat hrg1 hlt' hg1 hs1 hen
      have hkl : Maps.has D1 kl = true := has_true_of_atKey hat
      obtain ⟨hy0, _⟩ := fnElem_some hwc
      obtain ⟨hy, _⟩ := Prod.mk.inj hy0
      have hat0 := hat (.held .nilFunc)
      rw [HU1.out, hy] at hat0
      have hsm : (F1 kl).isSome = true := by rw [← HH1.out]; exact hkl
      obtain ⟨v, hv⟩ := Option.isSome_iff_exists.1 hsm
      rw [hv] at hat0
      obtain rfl : v = v' := by simpa using hat0
      obtain ⟨f, p, q, rfl⟩ := HFN1.out kl v hv
      obtain ⟨s, hsx, hskl, hss⟩ := WideMaps.string_of_keyOf Tryz.underlying9 hkx
      have hg1' : Fr (fun j => j = rb1) wr1 w1' := Fr.grown (S := fun j => j = rb1) (Fr.refl _ _) hg1 (fun k hk => .inr (Option.some.inj hk).symm)
      have HG1 := Lib.hid (hg1'.alloc (.cells #[.func f p q] 130))
      injection hsx with hsx
      subst hsx
      have hne : x.data.toList ∉ [(([46] : List UInt8), (none : Option Value)), ([49], none)].map (·.1) := by
        intro hm
        simp only [List.map_cons, List.map_nil, List.mem_cons, List.not_mem_nil, or_false] at hm
        rcases hm with hm | hm
        · rw [hskl, hm, HK1.out.1] at hv; cases hv
        · rw [hskl, hm, HK1.out.2] at hv; cases hv
      have hrgA := hrg1.kept (fr_grown ((Fr.refl (fun _ => False) w1').alloc (.cells #[.func f p q] 130))) (fun e => by cases e) (fun e => by cases e)
      have HS1 := Lib.hid hs1
      clear hat hat0 hsm hwc hy hy0 hv hg1' hs1
      go_wp2_with (at_mapUpdate; refine wpList_ins_fmp _ rfl _ _ _ 97 130 (.inl rfl) Tryz.underlying97 _ w.heap.size _ rfl (HOUT.out.fr (S := fun j => j = rb1) HG1.out (show ¬ (w.heap.size = rb1) from Nat.ne_of_lt hlt1)) (by unfold maxLen; omega) x rfl (by first | exact hss | omega) hne (.func 136) #[] _ rfl ?_; intro w2' hout2 ht2; go_frame)
      have hrg2 := hrgA.kept (fr_grown1 ht2) (fun e => by have := Option.some.inj e; omega) (fun e => by have := Option.some.inj e; omega)
      go_roundw
      case rel =>
        first
        | exact ⟨_, cnt1, hrg2, by omega, hout2.mono (by omega), (HFo1.out.after HG1.out (fun k hk e => by omega)).trans ht2⟩
        | refine ⟨_, _, _, _, _, _, _, _, _, ⟨_, cnt1, hrg2, by omega, hout2.mono (by omega), (HFo1.out.after HG1.out (fun k hk e => by omega)).trans ht2⟩, rfl⟩
      case measure => rw [hrg2.left_eq, hrg.left_eq]; exact hlt'

set_option maxRecDepth 100000 in
set_option maxHeartbeats 8000000 in
theorem ptable_nd (w : World) :
    Calls Tryz.prog 55 #[] w fun e w' => e = .returned (.map (some w.heap.size)) ∧ FmP [([46], none), ([49], none)] w' w.heap.size 200 ∧ Fr (fun _ => False) w w' := by
  have hmf : ∀ (fn : Fn) (first cap : Array Value) (w : World), (Instr.makeFunc fn first cap).run Tryz.prog w = .ok (.func fn first cap) w := fun _ _ _ _ => rfl
  have hmm := @run_makeMap Tryz.prog
  have hm := FmP.made [[46], [49]] w
  have hF : Fr (fun j => j = w.heap.size) w (w.alloc (.map #[] 0)) := (Fr.refl _ _).alloc _
  go_enter Tryz.func55, Tryz.ntmps55
  go_wp2_with (refine wpList_ins_fmp _ rfl _ _ _ 127 129 (.inr rfl) Tryz.underlying127 _ _ _ rfl hm (by unfold maxLen; omega) _ rfl (by decide) (by decide) _ _ _ rfl ?_; intro w9 hm9 hf9; replace hm := hm9; replace hF := hF.trans hf9; clear hm9 hf9)
  refine (outside_nd _).mono ?_
  rintro e w10 ⟨rfl, hmB1, hf10⟩
  have hmA1 : FmP [([46], none), ([49], none)] w10 w.heap.size 20 := (hm.fr hf10 id).mono (by omega)
  have HF10 := Lib.hid (hF.trans (hf10.mono fun _ _ e => e.elim))
  have hm9l := hm.lt
  have h10 := hf10.size
  clear hm hF hf10
  obtain ⟨b2, hb2⟩ : ∃ b, w9.heap.size = b := ⟨_, rfl⟩
  rw [hb2] at hmB1 hm9l
  rw [hb2]

  have hlt1 := hmA1.lt
  have HA1 := Lib.hid hmA1
  obtain ⟨F1, ⟨D1, hown1, hi1, hU1, hh1, hfn1⟩, kd1⟩ := hmB1
  have k461 := kd1 ([46], none) (by simp)
  have k491 := kd1 ([49], none) (by simp)
  dsimp only at k461 k491
  have hbl1 := hown1.lt
  have HU1 := Lib.hid hU1
  have HH1 := Lib.hid hh1
  have HFN1 := Lib.hid hfn1
  have HK1 := Lib.hid (And.intro k461 k491)
  have hszD1 := hown1.size_le
  clear hU1 hh1 hfn1 kd1 k461 k491 hmA1
  obtain ⟨rb1, hrb1⟩ : ∃ r, w10.heap.size = r := ⟨_, rfl⟩
  rw [hrb1] at hbl1 hlt1
  go_wp2_with (at_range; refine wpList_range_own _ rfl _ 127 rfl 9 129 strKey Tryz.underlying127 _ b2 40 _ rfl hown1 ?_; intro w01 hrg01 hg01 hs01)
  go_frame
  rw [hrb1] at hrg01
  rw [hrb1]
  have HG01 := Lib.hid hg01
  clear hg01 hs01
  go_loopw [2] (fun _ wo => ∃ (left : Lit → Bool) (cnt : Nat), wo.ranges Tryz.prog 9 fnElem b2 rb1 40 D1 left cnt ∧ cnt ≤ 40 ∧ FmP [([46], none), ([49], none)] wo w.heap.size (20 + (40 - cnt)) ∧ Fr (fun j => j = w.heap.size) w10 wo)
    (fun _ wo => wo.rangeLeft b2 rb1)
  case atStart =>
    have hf : Fr (fun _ => False) w10 w01 := Fr.grown (Fr.refl _ _) HG01.out (fun k hk => by cases hk)
    exact ⟨_, _, hrg01, hszD1, (HA1.out.fr hf id).mono (by omega), hf.mono fun _ _ e => e.elim⟩
  case round =>
    obtain ⟨left, cnt, hrg, hcs, hout, hFo⟩ := hrel
    obtain ⟨wr1, hwr1⟩ : ∃ W, W = wr := ⟨_, rfl⟩
    subst hwr1
    have HOUT := Lib.hid hout
    have HFo1 := Lib.hid hFo
    have hge := hFo.size
    clear hout hFo
    go_wp2_with (at_next; refine wpList_next_ranges _ rfl _ rfl 9 strKey fnElem Value.string (fun v : Value => v) (fun key kl h => (by obtain ⟨s, e, _⟩ := WideMaps.string_of_keyOf Tryz.underlying9 h; exact ⟨s, e⟩)) (fun v _ _ => ⟨v, rfl⟩) b2 _ 40 _ _ _ rfl hrg ?_ ?_)
    · intro hc0 hl0
      go_wp2_with fail
      refine (inside_nd _).mono ?_
      rintro e w11 ⟨rfl, hmB2, hf11⟩
      have hmA2 : FmP [([46], none), ([49], none)] w11 w.heap.size 60 := (HOUT.out.fr hf11 id).mono (by omega)
      have HF11 := Lib.hid (HF10.out.trans (HFo1.out.trans (hf11.mono fun _ _ e => e.elim)))
      have hm9l2 := HOUT.out.lt
      have h11 := hf11.size
      clear hf11 HOUT
      obtain ⟨b3, hb3⟩ : ∃ b, wr1.heap.size = b := ⟨_, rfl⟩
      rw [hb3] at hmB2 hm9l2
      rw [hb3]
      have hlt2 := hmA2.lt
      have HA2 := Lib.hid hmA2
      obtain ⟨F2, ⟨D2, hown2, hi2, hU2, hh2, hfn2⟩, kd2⟩ := hmB2
      have k462 := kd2 ([46], none) (by simp)
      have k492 := kd2 ([49], none) (by simp)
      dsimp only at k462 k492
      have hbl2 := hown2.lt
      have HU2 := Lib.hid hU2
      have HH2 := Lib.hid hh2
      have HFN2 := Lib.hid hfn2
      have HK2 := Lib.hid (And.intro k462 k492)
      have hszD2 := hown2.size_le
      clear hU2 hh2 hfn2 kd2 k462 k492 hmA2
      obtain ⟨rb2, hrb2⟩ : ∃ r, w11.heap.size = r := ⟨_, rfl⟩
      rw [hrb2] at hbl2 hlt2
      go_wp2_with (at_range; refine wpList_range_own _ rfl _ 127 rfl 9 129 strKey Tryz.underlying127 _ b3 40 _ rfl hown2 ?_; intro w02 hrg02 hg02 hs02)
      go_frame
      rw [hrb2] at hrg02
      rw [hrb2]
      have HG02 := Lib.hid hg02
      clear hg02 hs02
      go_loopw [4] (fun _ wo => ∃ (left : Lit → Bool) (cnt : Nat), wo.ranges Tryz.prog 9 fnElem b3 rb2 40 D2 left cnt ∧ cnt ≤ 40 ∧ FmP [([46], none), ([49], none)] wo w.heap.size (60 + (40 - cnt)) ∧ Fr (fun j => j = w.heap.size) w11 wo)
        (fun _ wo => wo.rangeLeft b3 rb2)
      case atStart =>
        have hf : Fr (fun _ => False) w11 w02 := Fr.grown (Fr.refl _ _) HG02.out (fun k hk => by cases hk)
        exact ⟨_, _, hrg02, hszD2, (HA2.out.fr hf id).mono (by omega), hf.mono fun _ _ e => e.elim⟩
      case round =>
        obtain ⟨left, cnt, hrg, hcs, hout, hFo⟩ := hrel
        obtain ⟨wr2, hwr2⟩ : ∃ W, W = wr := ⟨_, rfl⟩
        subst hwr2
        have HOUT := Lib.hid hout
        have HFo2 := Lib.hid hFo
        have hge := hFo.size
        clear hout hFo
        go_wp2_with (at_next; refine wpList_next_ranges _ rfl _ rfl 9 strKey fnElem Value.string (fun v : Value => v) (fun key kl h => (by obtain ⟨s, e, _⟩ := WideMaps.string_of_keyOf Tryz.underlying9 h; exact ⟨s, e⟩)) (fun v _ _ => ⟨v, rfl⟩) b3 _ 40 _ _ _ rfl hrg ?_ ?_)
        · intro hc0 hl0
          go_wp2_with fail
          go_ret
          exact ⟨rfl, HOUT.out.mono (by omega), (HF11.out.trans HFo2.out).mono (fun k hk e => by omega)⟩
        · intro x v' kl y yp w1' cnt1 hkx hlx hwc hat hrg1 hlt' hg1 hs1 hen
          have hkl : Maps.has D2 kl = true := has_true_of_atKey hat
          obtain ⟨hy0, _⟩ := fnElem_some hwc
          obtain ⟨hy, _⟩ := Prod.mk.inj hy0
          have hat0 := hat (.held .nilFunc)
          rw [HU2.out, hy] at hat0
          have hsm : (F2 kl).isSome = true := by rw [← HH2.out]; exact hkl
          obtain ⟨v, hv⟩ := Option.isSome_iff_exists.1 hsm
          rw [hv] at hat0
          obtain rfl : v = v' := by simpa using hat0
          obtain ⟨f, p, q, rfl⟩ := HFN2.out kl v hv
          obtain ⟨s, hsx, hskl, hss⟩ := WideMaps.string_of_keyOf Tryz.underlying9 hkx
          have hg1' : Fr (fun j => j = rb2) wr2 w1' := Fr.grown (S := fun j => j = rb2) (Fr.refl _ _) hg1 (fun k hk => .inr (Option.some.inj hk).symm)
          have HG1 := Lib.hid (hg1'.alloc (.cells #[.func f p q] 129))
          injection hsx with hsx
          subst hsx
          have hne : x.data.toList ∉ [(([46] : List UInt8), (none : Option Value)), ([49], none)].map (·.1) := by
            intro hm
            simp only [List.map_cons, List.map_nil, List.mem_cons, List.not_mem_nil, or_false] at hm
            rcases hm with hm | hm
            · rw [hskl, hm, HK2.out.1] at hv; cases hv
            · rw [hskl, hm, HK2.out.2] at hv; cases hv
          have hrgA := hrg1.kept (fr_grown ((Fr.refl (fun _ => False) w1').alloc (.cells #[.func f p q] 129))) (fun e => by cases e) (fun e => by cases e)
          have HS1 := Lib.hid hs1
          clear hat hat0 hsm hwc hy hy0 hv hg1' hs1
          go_wp2_with (at_mapUpdate; refine wpList_ins_fmp _ rfl _ _ _ 127 129 (.inl rfl) Tryz.underlying127 _ w.heap.size _ rfl (HOUT.out.fr (S := fun j => j = rb2) HG1.out (show ¬ (w.heap.size = rb2) from Nat.ne_of_lt hlt2)) (by unfold maxLen; omega) x rfl (by first | exact hss | omega) hne (.func 89) #[] _ rfl ?_; intro w2' hout2 ht2; go_frame)
          have hrg2 := hrgA.kept (fr_grown1 ht2) (fun e => by have := Option.some.inj e; omega) (fun e => by have := Option.some.inj e; omega)
          go_roundw
          case rel =>
            first
            | exact ⟨_, cnt1, hrg2, by omega, hout2.mono (by omega), (HFo2.out.after HG1.out (fun k hk e => by omega)).trans ht2⟩
            | refine ⟨_, _, _, _, _, _, _, _, _, ⟨_, cnt1, hrg2, by omega, hout2.mono (by omega), (HFo2.out.after HG1.out (fun k hk e => by omega)).trans ht2⟩, rfl⟩
          case measure => rw [hrg2.left_eq, hrg.left_eq]; exact hlt'
    · intro x v' kl y yp w1' cnt1 hkx hlx hwc hat hrg1 hlt' hg1 hs1 hen
      have hkl : Maps.has D1 kl = true := has_true_of_atKey hat
      obtain ⟨hy0, _⟩ := fnElem_some hwc
      obtain ⟨hy, _⟩ := Prod.mk.inj hy0
      have hat0 := hat (.held .nilFunc)
      rw [HU1.out, hy] at hat0
      have hsm : (F1 kl).isSome = true := by rw [← HH1.out]; exact hkl
      obtain ⟨v, hv⟩ := Option.isSome_iff_exists.1 hsm
      rw [hv] at hat0
      obtain rfl : v = v' := by simpa using hat0
      obtain ⟨f, p, q, rfl⟩ := HFN1.out kl v hv
      obtain ⟨s, hsx, hskl, hss⟩ := WideMaps.string_of_keyOf Tryz.underlying9 hkx
      have hg1' : Fr (fun j => j = rb1) wr1 w1' := Fr.grown (S := fun j => j = rb1) (Fr.refl _ _) hg1 (fun k hk => .inr (Option.some.inj hk).symm)
      have HG1 := Lib.hid (hg1'.alloc (.cells #[.func f p q] 129))
      injection hsx with hsx
      subst hsx
      have hne : x.data.toList ∉ [(([46] : List UInt8), (none : Option Value)), ([49], none)].map (·.1) := by
        intro hm
        simp only [List.map_cons, List.map_nil, List.mem_cons, List.not_mem_nil, or_false] at hm
        rcases hm with hm | hm
        · rw [hskl, hm, HK1.out.1] at hv; cases hv
        · rw [hskl, hm, HK1.out.2] at hv; cases hv
      have hrgA := hrg1.kept (fr_grown ((Fr.refl (fun _ => False) w1').alloc (.cells #[.func f p q] 129))) (fun e => by cases e) (fun e => by cases e)
      have HS1 := Lib.hid hs1
      clear hat hat0 hsm hwc hy hy0 hv hg1' hs1
      go_wp2_with (at_mapUpdate; refine wpList_ins_fmp _ rfl _ _ _ 127 129 (.inl rfl) Tryz.underlying127 _ w.heap.size _ rfl (HOUT.out.fr (S := fun j => j = rb1) HG1.out (show ¬ (w.heap.size = rb1) from Nat.ne_of_lt hlt1)) (by unfold maxLen; omega) x rfl (by first | exact hss | omega) hne (.func 87) #[] _ rfl ?_; intro w2' hout2 ht2; go_frame)
      have hrg2 := hrgA.kept (fr_grown1 ht2) (fun e => by have := Option.some.inj e; omega) (fun e => by have := Option.some.inj e; omega)
      go_roundw
      case rel =>
        first
        | exact ⟨_, cnt1, hrg2, by omega, hout2.mono (by omega), (HFo1.out.after HG1.out (fun k hk e => by omega)).trans ht2⟩
        | refine ⟨_, _, _, _, _, _, _, _, _, ⟨_, cnt1, hrg2, by omega, hout2.mono (by omega), (HFo1.out.after HG1.out (fun k hk e => by omega)).trans ht2⟩, rfl⟩
      case measure => rw [hrg2.left_eq, hrg.left_eq]; exact hlt'

end Go.Proofs.YthkmbnkkohomeaaGreatDoor.Mem
