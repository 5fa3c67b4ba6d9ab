/- Several texts in one: EfA, EwA, EwB. -/
import Derived.Test.YthkmbnkkohomeaaGreatDoorSwan
import Derived.BigQuiet
import Derived.Deep.AppendLies
set_option linter.unusedSimpArgs false
set_option linter.unusedVariables false
/- head.each with Find's closure, down a list of words that aren't hidden. -/
namespace Go.Proofs.YthkmbnkkohomeaaGreatDoor.Mem
open Go.RowKit

theorem FoundIs.fr {S : Nat → Prop} {w w' : World} {cF cO : Nat} {tF tO : TypeId} {o : Option HW} (h : FoundIs w cF cO tF tO o) (f : Fr S w w') (h1 : ¬ S cF) (h2 : ¬ S cO) : FoundIs w' cF cO tF tO o := by
  cases o with
  | none => exact ⟨f.obj h.1 h1, f.obj h.2 h2⟩
  | some x => exact ⟨f.obj h.1 h1, f.obj h.2 h2⟩
theorem FoundIs.lt {w : World} {cF cO : Nat} {tF tO : TypeId} {o : Option HW} (h : FoundIs w cF cO tF tO o) : cF < w.heap.size ∧ cO < w.heap.size := by
  cases o with
  | none => exact ⟨lt_of_block h.1, lt_of_block h.2⟩
  | some x => exact ⟨lt_of_block h.1, lt_of_block h.2⟩
theorem Lnk.link_i64 {bs : List UInt8} {a : Int} {x : HW} {l : Int} (h : hread bs a = some (x, l)) : -9223372036854775808 ≤ l ∧ l ≤ 9223372036854775807 := by
  unfold hread at h
  split at h
  · simp only [Option.some.injEq, Prod.mk.injEq] at h
    rw [← h.2]
    unfold cell
    split
    · exact cellv_i64 _ _
    · dsimp only
      omega
  · cases h

set_option maxRecDepth 100000 in
set_option maxHeartbeats 2000000 in
theorem eachFind_ok (p g c1 cF cO : Nat) (tF tO : TypeId) (bs : List UInt8) (root x : Nat) (low : List UInt8) (ws : List HW) (w : World) (h : Mat 221 w p g bs) (hx : x ≤ bs.length) (hroot : cell bs (root : Int) = (cellv bs root, 0))
    (hl : Lnk bs (root + 8) x (cellv bs root) ws) (h0 : ∀ y ∈ ws, y.fl = 0) (k1 : w.cell? ⟨c1, 0, none⟩ = some (.string ⟨low.toArray⟩)) (k2 : FoundIs w cF cO tF tO none) (hd : cF ≠ cO) (hne : c1 ≠ cF ∧ c1 ≠ cO ∧ p ≠ cF ∧ p ≠ cO ∧ g ≠ cF ∧ g ≠ cO) :
    Calls Tryz.prog 270 #[.pointer (some ⟨p, 0, none⟩), .int .i64 (root : Nat), .func (.func 298) #[] #[.pointer (some ⟨c1, 0, none⟩), .pointer (some ⟨cF, 0, none⟩), .pointer (some ⟨cO, 0, none⟩)]] w
      fun e w' => e = .returned (.tuple #[]) ∧ FoundIs w' cF cO tF tO (ws.find? fun y => y.nm == low) ∧ Fr (fun j => j = cF ∨ j = cO) w w' := by
  have HS := Lib.hid (size_any p g bs w h)
  have hc := cell_any p g bs (root : Nat) w h
  rw [hroot] at hc
  have HC := Lib.hid hc
  have H := Lib.hid h
  have hbl := h.2.2.2
  have hvl := cellv_i64 bs root
  obtain ⟨n, hn⟩ : ∃ n, bs.length = n := ⟨_, rfl⟩
  obtain ⟨l0, hl0⟩ : ∃ l, cellv bs root = l := ⟨_, rfl⟩
  rw [hn] at HS hbl hx
  rw [hl0] at HC hl hvl
  obtain ⟨res, hres⟩ : ∃ r, (ws.find? fun y => y.nm == low) = r := ⟨_, rfl⟩
  rw [hres]
  have HL := Lib.hid (hl.mono (lim' := (n : Int)) (by omega))
  have HR := Lib.hid hres
  have H0 := Lib.hid h0
  have K1 := Lib.hid k1
  have K2 := Lib.hid k2
  have HRD := Lib.hid (fun a x l W hW hr => hread_ok p g bs a x l W hW hr)
  clear h hc hn hl0 hres hl h0 k1 k2 hroot
  go_enter Tryz.func270, Tryz.ntmps270
  go_wp2_with (first | (go_at_call 120; refine HS.out.mono ?_; rintro e w' ⟨rfl, h0⟩; obtain rfl := h0.symm; clear h0) | (go_at_call 100; refine HC.out.mono ?_; rintro e w' ⟨rfl, h0⟩; obtain rfl := h0.symm; clear h0))
  go_loopw [6, 7] (fun lv av wr => ∃ (lim l : Int) (rest : List HW), lv = .int .i64 lim ∧ av = .int .i64 l ∧ Lnk bs (root + 8) lim l rest ∧ lim ≤ 1048576 ∧ (-9223372036854775808 ≤ l ∧ l ≤ 9223372036854775807) ∧
    FoundIs wr cF cO tF tO none ∧ (rest.find? fun y => y.nm == low) = res ∧ (∀ y ∈ rest, y.fl = 0) ∧ Fr (fun j => j = cF ∨ j = cO) w wr) (fun lv _ _ => (intOf lv).toNat)
  case atStart => exact ⟨n, l0, ws, rfl, rfl, HL.out, by omega, hvl, K2.out, HR.out, H0.out, Fr.refl _ _⟩
  case round =>
    obtain ⟨lim, l, rest, rfl, rfl, hlk, hlm, hli, hfd, hrs, hfl, hF⟩ := hrel
    cases rest with
    | nil =>
      have hl0 : l = 0 := hlk
      subst hl0
      have HFD := Lib.hid hfd
      have HRS := Lib.hid hrs
      have HF := Lib.hid hF
      clear hfd hrs hfl hF
      go_wp2_with fail
      (try simp only [Exit.inBlock, Exit.then])
      refine bodyPost_end (results_none rfl _ _ _) rfl ⟨rfl, ?_, HF.out⟩
      rw [← HRS.out]
      exact HFD.out
    | cons y ws' =>
      obtain ⟨hla, hlo, hlt, hlim, l', hrd, hlk'⟩ := hlk
      subst hla
      have hli' := Lnk.link_i64 hrd
      have hlo' : 0 < y.a := by omega
      have hr := HRD.out y.a y l' wr (H.out.fr hF (by omega) (by omega)) hrd
      have hy0 := hfl y (List.mem_cons_self)
      obtain ⟨xa, xx, xf, xn⟩ := y
      dsimp only at *
      subst hy0
      simp only [hval] at hr
      have HRR := Lib.hid hr
      have HFD := Lib.hid hfd
      have HRS := Lib.hid hrs
      have HF := Lib.hid hF
      have HFL := Lib.hid hfl
      have HLK := Lib.hid hlk'
      clear hr hfd hrs hF hfl hlk' hrd
      go_wp2_with fail
      refine HRR.out.mono ?_
      rintro e w1 ⟨rfl, hf1⟩
      have HF1 := Lib.hid (HF.out.trans ((hf1.alloc (.cells #[.int .i64 xa, .int .i64 xx, .int .i64 0, .string ⟨xn.toArray⟩] 101)).mono fun _ _ e => e.elim))
      have HFD1 := Lib.hid (FoundIs.fr HFD.out (hf1.alloc (.cells #[.int .i64 xa, .int .i64 xx, .int .i64 0, .string ⟨xn.toArray⟩] 101)) id id)
      have HB1 := Lib.hid (heap_alloc_last w1 (.cells #[.int .i64 xa, .int .i64 xx, .int .i64 0, .string ⟨xn.toArray⟩] 101))
      have hk1 := HF1.out.cell K1.out (fun e => e.elim hne.1 hne.2.1)
      have hfl1 := HFD.out.lt
      have hsz1 := hf1.size
      clear hf1 HRR
      go_wp2_with fail
      by_cases hya : xn = low
      · have hk := find1_yes c1 cF cO tF tO low ⟨xa, xx, 0, xn⟩ _ hk1 HFD1.out hya rfl hd
        simp only [hval] at hk
        have hres : res = some ⟨xa, xx, 0, xn⟩ := by
          rw [← HRS.out, List.find?_cons_of_pos (by simp [hya])]
        have HRE := Lib.hid hres
        have HK := Lib.hid hk
        clear hk hya hres hk1
        refine HK.out.mono ?_
        rintro e w2 ⟨rfl, hq, hf2⟩
        have HQ := Lib.hid hq
        have HF2 := Lib.hid (HF1.out.trans hf2)
        clear hq hf2
        go_wp2_with fail
        (try simp only [Exit.inBlock, Exit.then])
        refine bodyPost_ret (results_none rfl _ _ _) rfl ⟨rfl, ?_, HF2.out⟩
        rw [HRE.out]
        exact HQ.out
      · have hk := find1_no c1 cF cO tF tO low ⟨xa, xx, 0, xn⟩ _ hk1 HFD1.out hya
        simp only [hval] at hk
        have hres : (ws'.find? fun y => y.nm == low) = res := by
          rw [← HRS.out, List.find?_cons_of_neg (by simp [hya])]
        have HRE := Lib.hid hres
        have HK := Lib.hid hk
        clear hk hya hres hk1
        refine HK.out.mono ?_
        rintro e w2 ⟨rfl, hf2⟩
        have HF2 := Lib.hid (HF1.out.trans (hf2.mono fun _ _ e => e.elim))
        have HFD2 := Lib.hid (FoundIs.fr HFD1.out hf2 id id)
        clear hf2
        go_wp2_with fail
        go_roundw
        case rel => exact ⟨xa, l', ws', rfl, rfl, HLK.out, by omega, hli', HFD2.out, HRE.out, fun y hy => HFL.out y (List.mem_cons_of_mem _ hy), HF2.out⟩
        case measure => simp only [intOf]; omega
end Go.Proofs.YthkmbnkkohomeaaGreatDoor.Mem

/- The closure of head.Words: it appends a word. -/
namespace Go.Proofs.YthkmbnkkohomeaaGreatDoor.Mem
open Go.RowKit

theorem infoHW : (Tryz.prog.info? 101).map (fun i => (i.zero, i.size, i.bytes)) = some (some (.agg #[.int .i64 0, .int .i64 0, .int .i64 0, .string ⟨#[]⟩]), 4, 40) := by kernel_rfl

/-- A variable at lc holds the words that were met. -/
def WdI (w : World) (lc : Nat) (acc : List HW) : Prop := ∃ v, w.heap[lc]? = some (.cells #[v] 207 (0, 0)) ∧ w.ownsRow (lc + 1) 101 4 v acc.length (acc.flatMap hcells)
theorem WdI.nf {w w' : World} {lc : Nat} {acc : List HW} (h : WdI w lc acc) (f : Fr (fun _ => False) w w') : WdI w' lc acc := by
  obtain ⟨v, h1, h2⟩ := h
  exact ⟨v, f.obj h1 id, f.owns h2 (fun _ _ e => e)⟩

set_option maxRecDepth 100000 in
set_option maxHeartbeats 4000000 in
theorem words1_ok (lc : Nat) (x : HW) (acc : List HW) (w : World) (h : WdI w lc acc) (hn : acc.length ≤ 1000) (hlc : lc < w.heap.size) :
    Calls Tryz.prog 271 #[hval x, .pointer (some ⟨lc, 0, none⟩)] w fun e w' => e = .returned (.bool true) ∧ WdI w' lc (acc ++ [x]) ∧ Fr (fun j => lc ≤ j) w w' := by
  obtain ⟨xa, xx, xf, xn⟩ := x
  simp only [hval]
  obtain ⟨v, hv, ho⟩ := h
  obtain ⟨o, cc, rfl, hw1, hw2, hw3, hw4⟩ := owns_form ho
  obtain ⟨i0, hi, hz0, hz1, hz2⟩ := info_parts infoHW
  have fA := (Fr.refl (fun _ => False) w).alloc (.cells #[.int .i64 xa, .int .i64 xx, .int .i64 xf, .string ⟨xn.toArray⟩] 101)
  have hvA := fA.obj hv id
  have hcA := cell_of_one hvA
  have hoA := fA.owns ho (fun _ _ e => e)
  have aA := heap_alloc_last w (.cells #[.int .i64 xa, .int .i64 xx, .int .i64 xf, .string ⟨xn.toArray⟩] 101)
  obtain ⟨s, hs⟩ : ∃ s, w.heap.size = s := ⟨_, rfl⟩
  obtain ⟨w1, hw1e⟩ : ∃ w1, w.alloc (.cells #[.int .i64 xa, .int .i64 xx, .int .i64 xf, .string ⟨xn.toArray⟩] 101) = w1 := ⟨_, rfl⟩
  have s1 : w1.heap.size = s + 1 := by rw [← hw1e, ← hs]; simp
  rw [hw1e] at fA hvA hcA hoA aA
  rw [hs] at aA hlc
  obtain ⟨g0, g1, g2, g3, _⟩ := four_cells aA
  have HT := Lib.hid (cell_four_new (w1.alloc (.cells #[.int .i64 xa, .int .i64 xx, .int .i64 xf, .string ⟨xn.toArray⟩] 101)) (.int .i64 xa) (.int .i64 xx) (.int .i64 xf) (.string ⟨xn.toArray⟩) 101 w1.heap.size (heap_alloc_last _ _))
  rw [s1] at HT
  have HO := Lib.hid (((Fr.refl (fun _ => False) w1).alloc (.cells #[.int .i64 xa, .int .i64 xx, .int .i64 xf, .string ⟨xn.toArray⟩] 101)).owns hoA (fun _ _ e => e))
  have HV := Lib.hid (((Fr.refl (fun _ => False) w1).alloc (.cells #[.int .i64 xa, .int .i64 xx, .int .i64 xf, .string ⟨xn.toArray⟩] 101)).obj hvA id)
  have HFA := Lib.hid (fA.alloc (.cells #[.int .i64 xa, .int .i64 xx, .int .i64 xf, .string ⟨xn.toArray⟩] 101))
  have HI := Lib.hid hi
  have HZ := Lib.hid (And.intro hz0 (And.intro hz1 hz2))
  have HOB := Lib.hid (fun j hj => ho.lt j hj)
  clear hv ho fA hoA aA hi hz0 hz1 hz2 hw1 hw2 hw3 hw4 hvA
  go_enter Tryz.func271, Tryz.ntmps271
  go_wp2_with (at_builtin; refine wpList_append_own _ rfl (.tmp 4) (.tmp 6) 207 rfl (lc + 1) 101 i0 _ 4 40 Tryz.underlying207 HI.out HZ.out.1 HZ.out.2.1 HZ.out.2.2 rfl (by decide) _ acc.length (acc.flatMap hcells) rfl HO.out ⟨_, 0, none⟩ 1 1 [.int .i64 xa, .int .i64 xx, .int .i64 xf, .string ⟨xn.toArray⟩] rfl rfl HT.out (by simp [Value.oneCell']) (by unfold maxLen; omega) (by omega) (by simp; omega) ?_; intro v2 w3 hown2 hgrow2 _; obtain ⟨o2, c2, rfl, _, _, _, _⟩ := owns_form hown2; have HV2 := Lib.hid hown2; have FG := Fr.grown (S := fun j => (Value.slice o acc.length cc).ownBlock = some j) (Fr.refl _ _) hgrow2 (fun j hj => .inr hj); have hv3 := FG.obj HV.out (fun e => by have := (HOB.out _ e).1; omega); have hc3 := cell_of_one hv3; have hz3 := frozen_of_row _ lc 0 _ _ hv3; have HV3 := Lib.hid hv3; have HFG := Lib.hid FG; clear hown2 hgrow2 FG hv3)
  go_ret
  have FS := (Fr.refl (fun j => j = lc) w3).setOne 0 (.slice o2 (acc.length + 1) c2)
  have F1 : Fr (fun j => lc ≤ j) w w3 := (HFA.out.mono fun _ _ e => e.elim).trans (HFG.out.mono fun k _ e => by have := (HOB.out _ e).1; omega)
  refine ⟨rfl, ⟨.slice o2 (acc.length + 1) c2, ?_, ?_⟩, F1.trans (FS.mono fun k _ e => by omega)⟩
  · rw [heap_setCell_same w3 lc 0 _ _ _ HV3.out]
    rfl
  · rw [List.length_append, List.length_singleton, List.flatMap_append, List.flatMap_cons, List.flatMap_nil, List.append_nil]
    exact FS.owns HV2.out (fun k hk => by have := (HV2.out.lt k hk).1; omega)
end Go.Proofs.YthkmbnkkohomeaaGreatDoor.Mem

/- head.each with the closure of Words; head.Words. -/
namespace Go.Proofs.YthkmbnkkohomeaaGreatDoor.Mem
open Go.RowKit

set_option maxRecDepth 100000 in
set_option maxHeartbeats 2000000 in
theorem eachWords_ok (p g lc : Nat) (bs : List UInt8) (root x : Nat) (ws : List HW) (w : World) (h : Mat 221 w p g bs) (hx : x ≤ bs.length) (hroot : cell bs (root : Int) = (cellv bs root, 0))
    (hl : Lnk bs (root + 8) x (cellv bs root) ws) (hw : WdI w lc []) (hlc : lc < w.heap.size) (hp : p < lc ∧ g < lc) (hn : ws.length ≤ 1000) :
    Calls Tryz.prog 270 #[.pointer (some ⟨p, 0, none⟩), .int .i64 (root : Nat), .func (.func 271) #[] #[.pointer (some ⟨lc, 0, none⟩)]] w
      fun e w' => e = .returned (.tuple #[]) ∧ WdI w' lc ws ∧ Fr (fun j => lc ≤ j) w w' := by
  have HS := Lib.hid (size_any p g bs w h)
  have hc := cell_any p g bs (root : Nat) w h
  rw [hroot] at hc
  have HC := Lib.hid hc
  have H := Lib.hid h
  have hbl := h.2.2.2
  have hvl := cellv_i64 bs root
  obtain ⟨n, hn0⟩ : ∃ n, bs.length = n := ⟨_, rfl⟩
  obtain ⟨l0, hl0⟩ : ∃ l, cellv bs root = l := ⟨_, rfl⟩
  rw [hn0] at HS hbl hx
  rw [hl0] at HC hl hvl
  have HL := Lib.hid (hl.mono (lim' := (n : Int)) (by omega))
  have HWD := Lib.hid hw
  have HRD := Lib.hid (fun a x l W hW hr => hread_ok p g bs a x l W hW hr)
  clear h hc hn0 hl0 hl hw hroot
  go_enter Tryz.func270, Tryz.ntmps270
  go_wp2_with (first | (go_at_call 120; refine HS.out.mono ?_; rintro e w' ⟨rfl, h0⟩; obtain rfl := h0.symm; clear h0) | (go_at_call 100; refine HC.out.mono ?_; rintro e w' ⟨rfl, h0⟩; obtain rfl := h0.symm; clear h0))
  go_loopw [6, 7] (fun lv av wr => ∃ (lim l : Int) (acc rest : List HW), lv = .int .i64 lim ∧ av = .int .i64 l ∧ Lnk bs (root + 8) lim l rest ∧ lim ≤ 1048576 ∧ (-9223372036854775808 ≤ l ∧ l ≤ 9223372036854775807) ∧
    WdI wr lc acc ∧ acc ++ rest = ws ∧ Fr (fun j => lc ≤ j) w wr) (fun lv _ _ => (intOf lv).toNat)
  case atStart => exact ⟨n, l0, [], ws, rfl, rfl, HL.out, by omega, hvl, HWD.out, rfl, Fr.refl _ _⟩
  case round =>
    obtain ⟨lim, l, acc, rest, rfl, rfl, hlk, hlm, hli, hfd, hrs, hF⟩ := hrel
    cases rest with
    | nil =>
      have hl0 : l = 0 := hlk
      subst hl0
      have HFD := Lib.hid hfd
      have HRS := Lib.hid hrs
      have HF := Lib.hid hF
      clear hfd hrs hF
      go_wp2_with fail
      (try simp only [Exit.inBlock, Exit.then])
      refine bodyPost_end (results_none rfl _ _ _) rfl ⟨rfl, ?_, HF.out⟩
      rw [← HRS.out, List.append_nil]
      exact HFD.out
    | cons y ws' =>
      obtain ⟨hla, hlo, hlt, hlim, l', hrd, hlk'⟩ := hlk
      subst hla
      have hli' := Lnk.link_i64 hrd
      have hlo' : 0 < y.a := by omega
      have hr := HRD.out y.a y l' wr (H.out.fr hF (by omega) (by omega)) hrd
      have hal : acc.length ≤ 1000 := by
        have := congrArg List.length hrs
        simp at this
        omega
      have hwl := hF.size
      obtain ⟨xa, xx, xf, xn⟩ := y
      dsimp only at *
      simp only [hval] at hr
      have HRR := Lib.hid hr
      have HFD := Lib.hid hfd
      have HRS := Lib.hid hrs
      have HF := Lib.hid hF
      have HLK := Lib.hid hlk'
      clear hr hfd hrs hF hlk' hrd
      go_wp2_with fail
      refine HRR.out.mono ?_
      rintro e w1 ⟨rfl, hf1⟩
      have HF1 := Lib.hid (HF.out.trans ((hf1.alloc (.cells #[.int .i64 xa, .int .i64 xx, .int .i64 xf, .string ⟨xn.toArray⟩] 101)).mono fun _ _ e => e.elim))
      have HFD1 := Lib.hid (HFD.out.nf (hf1.alloc (.cells #[.int .i64 xa, .int .i64 xx, .int .i64 xf, .string ⟨xn.toArray⟩] 101)))
      have HB1 := Lib.hid (heap_alloc_last w1 (.cells #[.int .i64 xa, .int .i64 xx, .int .i64 xf, .string ⟨xn.toArray⟩] 101))
      have hsz1 := hf1.size
      clear hf1 HRR
      go_wp2_with fail
      have hk := words1_ok lc ⟨xa, xx, xf, xn⟩ acc _ HFD1.out hal (by simp; omega)
      simp only [hval] at hk
      refine hk.mono ?_
      rintro e w2 ⟨rfl, hw2, hf2⟩
      have HF2 := Lib.hid (HF1.out.trans hf2)
      have HFD2 := Lib.hid hw2
      clear hf2 hw2 hk
      go_wp2_with fail
      go_roundw
      case rel => exact ⟨xa, l', acc ++ [⟨xa, xx, xf, xn⟩], ws', rfl, rfl, HLK.out, by omega, hli', HFD2.out, by rw [← HRS.out]; simp, HF2.out⟩
      case measure => simp only [intOf]; omega

set_option maxRecDepth 100000 in
set_option maxHeartbeats 2000000 in
theorem words_ok (p g : Nat) (bs : List UInt8) (root x : Nat) (ws : List HW) (w : World) (h : Mat 221 w p g bs) (hx : x ≤ bs.length) (hroot : cell bs (root : Int) = (cellv bs root, 0))
    (hl : Lnk bs (root + 8) x (cellv bs root) ws) (hn : ws.length ≤ 1000) :
    Calls Tryz.prog 139 #[.pointer (some ⟨p, 0, none⟩), .int .i64 (root : Nat)] w
      fun e w' => (∃ v, e = .returned v ∧ w'.ownsRow (w.heap.size + 1) 101 4 v ws.length (ws.flatMap hcells)) ∧ Fr (fun _ => False) w w' := by
  have hmf : ∀ (fn : Fn) (first cap : Array Value) (w : World), (Instr.makeFunc fn first cap).run Tryz.prog w = .ok (.func fn first cap) w := fun _ _ _ _ => rfl
  have hpl := h.lt
  have fA := (Fr.refl (fun _ => False) w).alloc (.cells #[.slice none 0 0] 207)
  have aA := heap_alloc_last w (.cells #[.slice none 0 0] 207)
  have hsz : (w.alloc (.cells #[.slice none 0 0] 207)).heap.size = w.heap.size + 1 := by simp
  have HE := Lib.hid (eachWords_ok p g w.heap.size bs root x ws _ (h.fr fA id id) hx hroot hl ⟨.slice none 0 0, aA, World.ownsRow_nil _ _ _ _⟩ (by omega) hpl hn)
  have HF := Lib.hid fA
  clear h hx hroot hl hn fA aA hsz
  go_enter Tryz.func139, Tryz.ntmps139
  go_wp2_with (go_at_call 270; refine HE.out.mono ?_; rintro e w2 ⟨rfl, ⟨v, hv, ho⟩, hf2⟩; have hcv := cell_of_one hv; obtain ⟨o2, c2, rfl, _, _, _, _⟩ := owns_form ho)
  go_ret
  exact ⟨⟨_, rfl, ho⟩, (HF.out.mono fun _ _ e => e.elim).after hf2 (fun k hk e => by omega)⟩
end Go.Proofs.YthkmbnkkohomeaaGreatDoor.Mem
