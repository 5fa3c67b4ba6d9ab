/- Several texts in one: TbF, ExB, OoB. -/
import Derived.Test.YthkmbnkkohomeaaGreatDoorSwbe
import Derived.Test.YthkmbnkkohomeaaGreatDoorSwbb
import Derived.Deep.RegionHeld3
import Derived.StillTailTactics
set_option linter.unusedSimpArgs false
set_option linter.unusedVariables false
/- The table of words for classes, whose names are short. -/
namespace Go.Proofs.YthkmbnkkohomeaaGreatDoor.Mem
open Go.RowKit Go.Maps

set_option maxRecDepth 100000 in
set_option maxHeartbeats 8000000 in
theorem ptable_b (w : World) :
    Calls Tryz.prog 55 #[] w fun e w' => e = .returned (.map (some w.heap.size)) ∧ FmB w' w.heap.size 200 ∧ Fr (fun _ => False) w w' := by
  have hmf : ∀ (fn : Fn) (first cap : Array Value) (w : World), (Instr.makeFunc fn first cap).run Tryz.prog w = .ok (.func fn first cap) w := fun _ _ _ _ => rfl
  have hmm := @run_makeMap Tryz.prog
  have hm := FmB.made w
  have hF : Fr (fun j => j = w.heap.size) w (w.alloc (.map #[] 0)) := (Fr.refl _ _).alloc _
  go_enter Tryz.func55, Tryz.ntmps55
  go_wp2_with (refine wpList_ins_fmb _ rfl _ _ _ 127 129 (.inr rfl) Tryz.underlying127 _ _ rfl hm (by unfold maxLen; omega) _ rfl (by decide) _ _ _ rfl ?_; intro w9 hm9 hf9; replace hm := hm9; replace hF := hF.trans hf9; clear hm9 hf9)
  refine (outside_b _).mono ?_
  rintro e w10 ⟨rfl, hmB1, hf10⟩
  have hmA1 : FmB w10 w.heap.size 20 := (hm.fr hf10 id).mono (by omega)
  have HF10 := Lib.hid (hF.trans (hf10.mono fun _ _ e => e.elim))
  have hm9l := hm.lt
  have h10 := hf10.size
  clear hm hF hf10
  obtain ⟨b2, hb2⟩ : ∃ b, w9.heap.size = b := ⟨_, rfl⟩
  rw [hb2] at hmB1 hm9l
  rw [hb2]

  have hlt1 := hmA1.lt
  have HA1 := Lib.hid hmA1
  obtain ⟨F1, ⟨D1, hown1, hi1, hU1, hh1, hfn1⟩, kd1⟩ := hmB1
  have hbl1 := hown1.lt
  have HU1 := Lib.hid hU1
  have HH1 := Lib.hid hh1
  have HFN1 := Lib.hid hfn1
  have HK1 := Lib.hid kd1
  have hszD1 := hown1.size_le
  clear hU1 hh1 hfn1 kd1 hmA1
  obtain ⟨rb1, hrb1⟩ : ∃ r, w10.heap.size = r := ⟨_, rfl⟩
  rw [hrb1] at hbl1 hlt1
  go_wp2_with (at_range; refine wpList_range_own _ rfl _ 127 rfl 9 129 strKey Tryz.underlying127 _ b2 40 _ rfl hown1 ?_; intro w01 hrg01 hg01 hs01)
  go_frame
  rw [hrb1] at hrg01
  rw [hrb1]
  have HG01 := Lib.hid hg01
  clear hg01 hs01
  go_loopw [2] (fun _ wo => ∃ (left : Lit → Bool) (cnt : Nat), wo.ranges Tryz.prog 9 fnElem b2 rb1 40 D1 left cnt ∧ cnt ≤ 40 ∧ FmB wo w.heap.size (20 + (40 - cnt)) ∧ Fr (fun j => j = w.heap.size) w10 wo)
    (fun _ wo => wo.rangeLeft b2 rb1)
  case atStart =>
    have hf : Fr (fun _ => False) w10 w01 := Fr.grown (Fr.refl _ _) HG01.out (fun k hk => by cases hk)
    exact ⟨_, _, hrg01, hszD1, (HA1.out.fr hf id).mono (by omega), hf.mono fun _ _ e => e.elim⟩
  case round =>
    obtain ⟨left, cnt, hrg, hcs, hout, hFo⟩ := hrel
    obtain ⟨wr1, hwr1⟩ : ∃ W, W = wr := ⟨_, rfl⟩
    subst hwr1
    have HOUT := Lib.hid hout
    have HFo1 := Lib.hid hFo
    have hge := hFo.size
    clear hout hFo
    go_wp2_with (at_next; refine wpList_next_ranges _ rfl _ rfl 9 strKey fnElem Value.string (fun v : Value => v) (fun key kl h => (by obtain ⟨s, e, _⟩ := WideMaps.string_of_keyOf Tryz.underlying9 h; exact ⟨s, e⟩)) (fun v _ _ => ⟨v, rfl⟩) b2 _ 40 _ _ _ rfl hrg ?_ ?_)
    · intro hc0 hl0
      go_wp2_with fail
      refine (inside_b _).mono ?_
      rintro e w11 ⟨rfl, hmB2, hf11⟩
      have hmA2 : FmB w11 w.heap.size 60 := (HOUT.out.fr hf11 id).mono (by omega)
      have HF11 := Lib.hid (HF10.out.trans (HFo1.out.trans (hf11.mono fun _ _ e => e.elim)))
      have hm9l2 := HOUT.out.lt
      have h11 := hf11.size
      clear hf11 HOUT
      obtain ⟨b3, hb3⟩ : ∃ b, wr1.heap.size = b := ⟨_, rfl⟩
      rw [hb3] at hmB2 hm9l2
      rw [hb3]
      have hlt2 := hmA2.lt
      have HA2 := Lib.hid hmA2
      obtain ⟨F2, ⟨D2, hown2, hi2, hU2, hh2, hfn2⟩, kd2⟩ := hmB2
      have hbl2 := hown2.lt
      have HU2 := Lib.hid hU2
      have HH2 := Lib.hid hh2
      have HFN2 := Lib.hid hfn2
      have HK2 := Lib.hid kd2
      have hszD2 := hown2.size_le
      clear hU2 hh2 hfn2 kd2 hmA2
      obtain ⟨rb2, hrb2⟩ : ∃ r, w11.heap.size = r := ⟨_, rfl⟩
      rw [hrb2] at hbl2 hlt2
      go_wp2_with (at_range; refine wpList_range_own _ rfl _ 127 rfl 9 129 strKey Tryz.underlying127 _ b3 40 _ rfl hown2 ?_; intro w02 hrg02 hg02 hs02)
      go_frame
      rw [hrb2] at hrg02
      rw [hrb2]
      have HG02 := Lib.hid hg02
      clear hg02 hs02
      go_loopw [4] (fun _ wo => ∃ (left : Lit → Bool) (cnt : Nat), wo.ranges Tryz.prog 9 fnElem b3 rb2 40 D2 left cnt ∧ cnt ≤ 40 ∧ FmB wo w.heap.size (60 + (40 - cnt)) ∧ Fr (fun j => j = w.heap.size) w11 wo)
        (fun _ wo => wo.rangeLeft b3 rb2)
      case atStart =>
        have hf : Fr (fun _ => False) w11 w02 := Fr.grown (Fr.refl _ _) HG02.out (fun k hk => by cases hk)
        exact ⟨_, _, hrg02, hszD2, (HA2.out.fr hf id).mono (by omega), hf.mono fun _ _ e => e.elim⟩
      case round =>
        obtain ⟨left, cnt, hrg, hcs, hout, hFo⟩ := hrel
        obtain ⟨wr2, hwr2⟩ : ∃ W, W = wr := ⟨_, rfl⟩
        subst hwr2
        have HOUT := Lib.hid hout
        have HFo2 := Lib.hid hFo
        have hge := hFo.size
        clear hout hFo
        go_wp2_with (at_next; refine wpList_next_ranges _ rfl _ rfl 9 strKey fnElem Value.string (fun v : Value => v) (fun key kl h => (by obtain ⟨s, e, _⟩ := WideMaps.string_of_keyOf Tryz.underlying9 h; exact ⟨s, e⟩)) (fun v _ _ => ⟨v, rfl⟩) b3 _ 40 _ _ _ rfl hrg ?_ ?_)
        · intro hc0 hl0
          go_wp2_with fail
          go_ret
          exact ⟨rfl, HOUT.out.mono (by omega), (HF11.out.trans HFo2.out).mono (fun k hk e => by omega)⟩
        · intro x v' kl y yp w1' cnt1 hkx hlx hwc hat hrg1 hlt' hg1 hs1 hen
          have hkl : Maps.has D2 kl = true := has_true_of_atKey hat
          obtain ⟨hy0, _⟩ := fnElem_some hwc
          obtain ⟨hy, _⟩ := Prod.mk.inj hy0
          have hat0 := hat (.held .nilFunc)
          rw [HU2.out, hy] at hat0
          have hsm : (F2 kl).isSome = true := by rw [← HH2.out]; exact hkl
          obtain ⟨v, hv⟩ := Option.isSome_iff_exists.1 hsm
          rw [hv] at hat0
          obtain rfl : v = v' := by simpa using hat0
          obtain ⟨f, p, q, rfl⟩ := HFN2.out kl v hv
          obtain ⟨s, hsx, hskl, hss⟩ := WideMaps.string_of_keyOf Tryz.underlying9 hkx
          have hg1' : Fr (fun j => j = rb2) wr2 w1' := Fr.grown (S := fun j => j = rb2) (Fr.refl _ _) hg1 (fun k hk => .inr (Option.some.inj hk).symm)
          have HG1 := Lib.hid (hg1'.alloc (.cells #[.func f p q] 129))
          injection hsx with hsx
          subst hsx
          have hne : KeyOk x.data.toList := HK2.out _ (by rw [← hskl, hv]; simp)
          have hrgA := hrg1.kept (fr_grown ((Fr.refl (fun _ => False) w1').alloc (.cells #[.func f p q] 129))) (fun e => by cases e) (fun e => by cases e)
          have HS1 := Lib.hid hs1
          clear hat hat0 hsm hwc hy hy0 hv hg1' hs1
          go_wp2_with (at_mapUpdate; refine wpList_ins_fmb _ rfl _ _ _ 127 129 (.inl rfl) Tryz.underlying127 w.heap.size _ rfl (HOUT.out.fr (S := fun j => j = rb2) HG1.out (show ¬ (w.heap.size = rb2) from Nat.ne_of_lt hlt2)) (by unfold maxLen; omega) x rfl hne (.func 89) #[] _ rfl ?_; intro w2' hout2 ht2; go_frame)
          have hrg2 := hrgA.kept (fr_grown1 ht2) (fun e => by have := Option.some.inj e; omega) (fun e => by have := Option.some.inj e; omega)
          go_roundw
          case rel =>
            first
            | exact ⟨_, cnt1, hrg2, by omega, hout2.mono (by omega), (HFo2.out.after HG1.out (fun k hk e => by omega)).trans ht2⟩
            | refine ⟨_, _, _, _, _, _, _, _, _, ⟨_, cnt1, hrg2, by omega, hout2.mono (by omega), (HFo2.out.after HG1.out (fun k hk e => by omega)).trans ht2⟩, rfl⟩
          case measure => rw [hrg2.left_eq, hrg.left_eq]; exact hlt'
    · intro x v' kl y yp w1' cnt1 hkx hlx hwc hat hrg1 hlt' hg1 hs1 hen
      have hkl : Maps.has D1 kl = true := has_true_of_atKey hat
      obtain ⟨hy0, _⟩ := fnElem_some hwc
      obtain ⟨hy, _⟩ := Prod.mk.inj hy0
      have hat0 := hat (.held .nilFunc)
      rw [HU1.out, hy] at hat0
      have hsm : (F1 kl).isSome = true := by rw [← HH1.out]; exact hkl
      obtain ⟨v, hv⟩ := Option.isSome_iff_exists.1 hsm
      rw [hv] at hat0
      obtain rfl : v = v' := by simpa using hat0
      obtain ⟨f, p, q, rfl⟩ := HFN1.out kl v hv
      obtain ⟨s, hsx, hskl, hss⟩ := WideMaps.string_of_keyOf Tryz.underlying9 hkx
      have hg1' : Fr (fun j => j = rb1) wr1 w1' := Fr.grown (S := fun j => j = rb1) (Fr.refl _ _) hg1 (fun k hk => .inr (Option.some.inj hk).symm)
      have HG1 := Lib.hid (hg1'.alloc (.cells #[.func f p q] 129))
      injection hsx with hsx
      subst hsx
      have hne : KeyOk x.data.toList := HK1.out _ (by rw [← hskl, hv]; simp)
      have hrgA := hrg1.kept (fr_grown ((Fr.refl (fun _ => False) w1').alloc (.cells #[.func f p q] 129))) (fun e => by cases e) (fun e => by cases e)
      have HS1 := Lib.hid hs1
      clear hat hat0 hsm hwc hy hy0 hv hg1' hs1
      go_wp2_with (at_mapUpdate; refine wpList_ins_fmb _ rfl _ _ _ 127 129 (.inl rfl) Tryz.underlying127 w.heap.size _ rfl (HOUT.out.fr (S := fun j => j = rb1) HG1.out (show ¬ (w.heap.size = rb1) from Nat.ne_of_lt hlt1)) (by unfold maxLen; omega) x rfl hne (.func 87) #[] _ rfl ?_; intro w2' hout2 ht2; go_frame)
      have hrg2 := hrgA.kept (fr_grown1 ht2) (fun e => by have := Option.some.inj e; omega) (fun e => by have := Option.some.inj e; omega)
      go_roundw
      case rel =>
        first
        | exact ⟨_, cnt1, hrg2, by omega, hout2.mono (by omega), (HFo1.out.after HG1.out (fun k hk e => by omega)).trans ht2⟩
        | refine ⟨_, _, _, _, _, _, _, _, _, ⟨_, cnt1, hrg2, by omega, hout2.mono (by omega), (HFo1.out.after HG1.out (fun k hk e => by omega)).trans ht2⟩, rfl⟩
      case measure => rw [hrg2.left_eq, hrg.left_eq]; exact hlt'

end Go.Proofs.YthkmbnkkohomeaaGreatDoor.Mem

/- outer.Extend. -/
namespace Go.Proofs.YthkmbnkkohomeaaGreatDoor.Mem
open Go.RowKit Go.Maps Go.Sort

theorem infoFn0 : (Tryz.prog.info? 1).map (fun i => (i.zero, i.size, i.bytes)) = some (some .nilFunc, 1, 8) := by kernel_rfl

set_option maxRecDepth 100000 in
set_option maxHeartbeats 4000000 in
theorem extend_ok (ob sr q qc wm wb nn : Nat) (o : OR) (v : VB) (m : MR) (bs : List UInt8) (x dd rd : Nat) (rf : Fn) (rp rc : Array Value) (w : World) (h : OtS w ob sr q qc wm o v m bs x dd rd) (hrs : o.rs = .slice none 0 0)
    (hcw : FmP [([46], none), ([49], none)] w wm 200) (hm : FmB w wb nn) (hn : nn ≤ 1000) (hne : wb ≠ wm ∧ wb ≠ ob)
    (hlow : v.mb < wm ∧ v.sb < wm ∧ v.db < wm ∧ v.rb < wm ∧ v.p < wm ∧ v.g < wm ∧ v.cm < wm ∧ v.cd < wm) (hq : q ≠ wm) :
    Calls Tryz.prog 57 #[.pointer (some ⟨ob, 0, none⟩), .map (some wb), .func rf rp rc] w
      fun e w' => e = .returned (.tuple #[]) ∧ (∃ rs', OtS w' ob sr q qc wm { o with rs := rs' } v m bs x dd rd) ∧ Fr (fun j => j = ob ∨ j = wm) w w' := by
  have HK := Lib.hid (callsIn_wide.1 (Tryz.maps_Keys_91 (some wb) w))
  obtain ⟨W, hW, hS⟩ := sorted_ok wb nn w hm.fmp hn
  have FW : Fr (fun _ => False) w W := by rw [hW]; exact (Fr.refl _ _).alloc _
  rw [← hW] at HK
  have HS := Lib.hid hS
  have H := Lib.hid h
  have HCW := Lib.hid hcw
  have HM := Lib.hid hm
  have HFW := Lib.hid FW
  have n0 := h.ne
  have lwm := hcw.lt
  have HL := Lib.hid (And.intro hlow hq)
  have HRS := Lib.hid hrs
  have HWE := Lib.hid hW
  clear h hcw hm hS FW hlow hrs hq hW
  have hq1 : ∀ (f : Fn) (p c : Array Value) (w : World), (binOp BinOp.neq 1 (.func f p c) .nilFunc).run Tryz.prog w = .ok (.bool true) w := fun _ _ _ _ => by rfl
  have hq2 : ∀ (f : Fn) (p c : Array Value) (w : World), (binOp BinOp.neq 130 (.func f p c) .nilFunc).run Tryz.prog w = .ok (.bool true) w := fun _ _ _ _ => by rfl
  have hq3 : ∀ (w : World), (binOp BinOp.neq 130 .nilFunc .nilFunc).run Tryz.prog w = .ok (.bool false) w := fun _ => by rfl
  go_enter Tryz.func57, Tryz.ntmps57
  go_wp2_with (first | (go_at_call 91; refine HK.out.mono ?_; rintro e w' ⟨rfl, h0⟩; obtain rfl := h0.symm; clear h0) | (go_at_call 90; refine HS.out.mono ?_; rintro e w2 ⟨sv, ss, rfl, hnm, hsl, hrow, hf2⟩; obtain ⟨oo, cc, rfl, _, _, ho1, ho2⟩ := owns_form hrow))
  have HF2 := Lib.hid (HFW.out.trans hf2)
  have HO := Lib.hid hrow
  have HO1 := Lib.hid ho1
  have HO2 := Lib.hid ho2
  have HNM := Lib.hid hnm
  have hW1 := HFW.out.size
  clear hf2 hrow ho1 ho2 hnm
  have H2 := Lib.hid (H.out.nf HF2.out)
  have HM2 := Lib.hid (HM.out.fr HF2.out id)
  have HCW2 := Lib.hid (HCW.out.fr HF2.out id)
  have hlw2 := HCW2.out.lt
  go_loopw [15] (fun iv wr => ∃ k n : Nat, k ≤ ss.length ∧ iv = .int .i64 k ∧ FmP [([46], none), ([49], none)] wr wm n ∧ n ≤ 200 + k ∧ Fr (fun j => j = wm) w2 wr) (fun iv _ => ss.length - (intOf iv).toNat)
  case atStart => exact ⟨0, 200, Nat.zero_le _, rfl, HCW2.out, Nat.le_refl _, Fr.refl _ _⟩
  case round =>
    obtain ⟨k, n, hk, hiv, hmap, hnk, hF⟩ := hrel
    by_cases hlt : k < ss.length
    · obtain ⟨y, hy⟩ : ∃ y, ss[k]? = some y := ⟨_, List.getElem?_eq_getElem hlt⟩
      obtain ⟨ba, hba⟩ : ∃ ba, oo = some ba := by
        cases oo with
        | none => have := (HO1.out rfl).1; omega
        | some ba => exact ⟨ba, rfl⟩
      subst hba
      obtain ⟨o1, o2, o3, o4⟩ := HO2.out ba rfl
      obtain ⟨g, off, sp⟩ := ba
      dsimp only at o1 o2 o3 o4
      subst o1 o2
      have e0 : wr.cell? ⟨g, k, none⟩ = some (.string ⟨y.toArray⟩) := by
        have := owns_holds HO.out ⟨g, 0, none⟩ rfl k (.string ⟨y.toArray⟩) (by rw [List.getElem?_map, hy]; rfl)
        rw [addr_add0] at this
        exact hF.cell this (by dsimp only; omega)
      have hyn0 := HNM.out y (List.mem_of_getElem? hy)
      have hwm : ¬ (ob = wm) := n0.2.2.2.2.2.2.2.2.2.2
      have hrw := hF.obj H2.out.row hwm
      have c6 : wr.cell? ⟨ob, 6, none⟩ = some (.map (some wm)) := by rw [cell_of_row wr ob _ _ _ _ hrw]; rfl
      obtain ⟨F, hFM, kd⟩ := HM2.out.fr hF (show ¬ (wb = wm) from hne.1)
      have hfn := hFM
      obtain ⟨D, _, _, _, _, hfn⟩ := hfn
      have HMP := Lib.hid hmap
      have HFo := Lib.hid hF
      have HFM := Lib.hid hFM
      clear hmap hF hFM hrw hy
      subst hiv
      have hdl : (⟨y.toArray⟩ : ByteArray).data.toList = y := by simp
      have hszy : (⟨y.toArray⟩ : ByteArray).size = y.length := by simp [ByteArray.size]
      by_cases hv : F (.string y) = none
      · have hyl : y.length ≤ maxLen := hyn0.2.2
        have hkey := WideMaps.keyOf_string_mk (P := Tryz.prog) (k := 9) Tryz.underlying9 (s := ⟨y.toArray⟩) (by rw [hszy]; exact hyl)
        rw [hdl] at hkey
        go_wp2_with (at_lookup; refine wpList_look_fmap _ rfl _ _ 97 9 130 rfl strKey Tryz.underlying97 rfl wb nn F rfl HFM.out (.string ⟨y.toArray⟩) (.string y) rfl hkey ?_; rw [hv])
        go_roundw
        case rel => exact ⟨k + 1, n, by omega, by go_num, HMP.out, by omega, HFo.out⟩
        case measure => simp [intOf]; omega
      · have hko := kd y hv
        obtain ⟨u, hu⟩ := Option.ne_none_iff_exists'.1 hv
        obtain ⟨f, p, c, rfl⟩ := hfn _ _ hu
        have hsy : (⟨y.toArray⟩ : ByteArray).size ≤ 31 := by
          rw [hszy]
          exact hko.1
        have hkey := WideMaps.keyOf_string_mk (P := Tryz.prog) (k := 9) Tryz.underlying9 (s := ⟨y.toArray⟩) (by unfold maxLen; omega)
        rw [hdl] at hkey
        have HLW := Lib.hid (fun W => lower_any ⟨y.toArray⟩ W (by omega))
        rw [hdl] at HLW
        have hlm : lower y ∉ [(([46] : List UInt8), (none : Option Value)), ([49], none)].map (·.1) := by
          intro hm
          simp only [List.map_cons, List.map_nil, List.mem_cons, List.not_mem_nil, or_false] at hm
          rcases hm with hm | hm
          · exact hko.2.1 (low_46 y hm)
          · exact hko.2.2 (low_49 y hm)
        have hls : (lower y).length ≤ 31 := by have := hko.1; simpa [lower] using this
        obtain ⟨ly, hly⟩ : ∃ l, lower y = l := ⟨_, rfl⟩
        rw [hly] at HLW hlm hls
        have hlz : (⟨ly.toArray⟩ : ByteArray).size ≤ maxLen := by
          have : (⟨ly.toArray⟩ : ByteArray).size = ly.length := by simp [ByteArray.size]
          unfold maxLen
          omega
        have HLM := Lib.hid hlm
        have HLZ := Lib.hid hlz
        have hnmax : n < maxLen := by unfold maxLen; omega
        clear hlm hlz hls hly hko hfn kd hv
        go_wp2_with (at_lookup; refine wpList_look_fmap _ rfl _ _ 97 9 130 rfl strKey Tryz.underlying97 rfl wb nn F rfl HFM.out (.string ⟨y.toArray⟩) (.string y) rfl hkey ?_; rw [hu])
        go_region_held3 (fun W => W.cell? ⟨ob, 6, none⟩ = some (.map (some wm)) ∧ Fr (fun j => j = wm) wr W)
          ((go_split_ands; refine (fun hF => ⟨Fr.cell hF c6 hwm, hF⟩ : Fr (fun j => j = wm) wr _ → _) ?_; repeat' with_reducible first | exact Fr.refl _ _ | assumption | apply Fr.drew | apply Fr.alloc))
          (first | (go_at_call 92; go_split_ands; refine (HLW.out _).mono ?_; rintro e w6 ⟨rfl, hf6⟩; have g6 : Fr (fun _ => False) wr w6 := Fr.trans (by repeat' with_reducible first | exact Fr.refl _ _ | assumption | apply Fr.drew | apply Fr.alloc) hf6; have g6' : Fr (fun j => j = wm) wr w6 := g6.mono (fun _ _ e => e.elim); obtain ⟨w7, hrun, hm7, hf7⟩ := FmP.store (HMP.out.fr g6 id) 97 130 Tryz.underlying97 hnmax ⟨ly.toArray⟩ HLZ.out (by simpa using HLM.out) f p c; have g7 : Fr (fun j => j = wm) wr w7 := g6'.trans hf7) | fail)
        go_wp2_with fail
        go_roundw
        case rel => exact ⟨k + 1, n + 1, by omega, by go_num, hm7, by omega, HFo.out.trans g7⟩
        case measure => simp [intOf]; omega
    · obtain rfl : k = ss.length := by omega
      subst hiv
      have hrw := hF.obj H2.out.row (show ¬ (ob = wm) from n0.2.2.2.2.2.2.2.2.2.2)
      have c7 : wr.cell? ⟨ob, 7, none⟩ = some (.slice none 0 0) := by rw [← HRS.out, cell_of_row wr ob _ _ _ _ hrw]; rfl
      have z7 := frozen_of_row wr ob 7 _ _ hrw
      have HRW := Lib.hid hrw
      have HMP := Lib.hid hmap
      have HFo := Lib.hid hF
      clear hmap hF hrw
      obtain ⟨i0, hi, hz0, hz1, hz2⟩ := info_parts infoFn0
      go_wp2_with (at_builtin; refine wpList_append_own _ rfl (.tmp 38) (.tmp 40) 98 rfl wr.heap.size 1 i0 _ 1 8 Tryz.underlying98 hi hz0 hz1 hz2 rfl (by decide) (.slice none 0 0) 0 [] rfl (World.ownsRow_nil _ _ _ _) ⟨wr.heap.size, 0, none⟩ 1 1 [.func rf rp rc] rfl rfl (fun j u hu => by cases j with | zero => (simp at hu; subst hu; exact cell_of_one (heap_alloc_last wr _)) | succ j => simp at hu) (by simp [Value.oneCell']) (by unfold maxLen; omega) (by omega) (by simp) ?_; intro v2 w3 hown2 hgrow2 _; obtain ⟨o9, c9, rfl, _, _, _, _⟩ := owns_form hown2; have HFG := Lib.hid (Fr.grown (S := fun _ => False) ((Fr.refl _ wr).alloc _) hgrow2 (fun j hj => by cases hj)); have hr3 := HFG.out.obj HRW.out id; have c73 : w3.cell? ⟨ob, 7, none⟩ = some (.slice none 0 0) := (by rw [← HRS.out, cell_of_row w3 ob _ _ _ _ hr3]; rfl); have z73 := frozen_of_row w3 ob 7 _ _ hr3; have HR3 := Lib.hid hr3; clear hr3 hown2 hgrow2 c7 z7)
      have FS := (Fr.refl (fun j => j = ob) w3).setOne 7 (.slice o9 1 c9)
      obtain ⟨e1, e2, e3, e4, e5, e6, e7, e8, e9, e10, e11⟩ := n0
      have hl := HL.out.1
      have V3 := ((H2.out.vm.fr HFo.out (Nat.ne_of_lt hl.1) (Nat.ne_of_lt hl.2.1) (Nat.ne_of_lt hl.2.2.1) (Nat.ne_of_lt hl.2.2.2.1) (Nat.ne_of_lt hl.2.2.2.2.1) (Nat.ne_of_lt hl.2.2.2.2.2.1) (Nat.ne_of_lt hl.2.2.2.2.2.2.1) (Nat.ne_of_lt hl.2.2.2.2.2.2.2)).nf HFG.out).fr FS (fun e => e1 e.symm) (fun e => e2 e.symm) (fun e => e3 e.symm) (fun e => e4 e.symm) (fun e => e5 e.symm) (fun e => e6 e.symm) (fun e => e7 e.symm) (fun e => e8 e.symm)
      have L3 := FS.cell (HFG.out.cell (HFo.out.cell H2.out.lst HL.out.2) id) (fun e => e10 e.symm)
      have M3 := (HMP.out.fr HFG.out id).fr FS (fun e => e11 e.symm)
      have F3 : Fr (fun j => j = ob ∨ j = wm) w (w3.setCell ⟨ob, 7, none⟩ (.slice o9 1 c9)) := (((HF2.out.mono fun _ _ e => e.elim).trans (HFo.out.mono fun _ _ e => .inr e)).trans (HFG.out.mono fun _ _ e => e.elim)).trans (FS.mono fun _ _ e => .inl e)
      refine bodyPost_end (results_none rfl _ _ _) rfl ⟨rfl, ⟨.slice o9 1 c9, ⟨?_, L3, ⟨_, M3⟩, V3, H2.out.ne, H2.out.nq, H2.out.nw, H2.out.ns⟩⟩, F3⟩
      rw [heap_setCell_same w3 ob 7 _ _ _ HR3.out]
      rfl
end Go.Proofs.YthkmbnkkohomeaaGreatDoor.Mem

/- oop.New where the parts have sizes that fit. -/
namespace Go.Proofs.YthkmbnkkohomeaaGreatDoor.Mem
open Go.RowKit Go.Maps

set_option maxRecDepth 100000 in
set_option maxHeartbeats 8000000 in
theorem oopnew_ok (di da re he : Nat) (sl : Int) (inn : ByteArray) (w : World) (ht : Cod.Tab w) (h1 : di % 8 = 0) (h2 : he % 8 = 0) (h3 : 16 ≤ he) (h4 : 2832 ≤ di) (hs : di + (da + re) * 8 + he ≤ 1048576) :
    Calls Tryz.prog 41 #[.agg (cfgC di da re he sl), .string inn] w fun e w' => ∃ (fb ob sr q qc wm : Nat) (o : OR) (v : VB) (hp sels : Value), e = .returned (.tuple #[.pointer (some ⟨fb, 0, none⟩), .int .i64 0]) ∧
      w'.cell? ⟨fb, 0, none⟩ = some (.pointer (some ⟨ob, 0, none⟩)) ∧ OtS w' ob sr q qc wm o v ⟨.pointer (some ⟨v.sb, 0, none⟩), .pointer (some ⟨v.db, 0, none⟩), .pointer (some ⟨v.rb, 0, none⟩), hp, sels, 0, 0, 8, 24, sl, 0, ByteArray.empty, inn, false, 0, 16, 2824, .map (some v.cm)⟩ (vmB di da re he) 2832 0 0 ∧
      v.di = di ∧ v.da = da ∧ q < w'.heap.size ∧ w.heap.size ≤ v.mb ∧ w.heap.size ≤ ob ∧ (w.heap.size ≤ v.db ∧ w.heap.size ≤ v.g) ∧ (fb ≠ ob ∧ fb ≠ v.mb ∧ fb ≠ v.db ∧ fb ≠ v.g) ∧ w.heap.size ≤ fb ∧ Fr (fun _ => False) w w' := by
  have hmf : ∀ (fn : Fn) (first cap : Array Value) (w : World), (Instr.makeFunc fn first cap).run Tryz.prog w = .ok (.func fn first cap) w := fun _ _ _ _ => rfl
  have hmm := @run_makeMap Tryz.prog
  have hA := heap_alloc_last w (.cells (cfgC di da re he sl) 24)
  have FA := (Fr.refl (fun _ => False) w).alloc (.cells (cfgC di da re he sl) 24)
  obtain ⟨w1, hw1⟩ : ∃ w1, w.alloc (.cells (cfgC di da re he sl) 24) = w1 := ⟨_, rfl⟩
  rw [hw1] at hA FA
  obtain ⟨cb, hcb⟩ : ∃ cb, w.heap.size = cb := ⟨_, rfl⟩
  rw [hcb] at hA
  obtain ⟨c0, c1, c2, c3, c4⟩ := cfg_new _ _ _ _ _ _ _ _ hA
  have HV := Lib.hid (vmnew_ok di da re he sl inn w1 (Cod.tab_fr FA ht) h1 h2 h3 h4 hs)
  have HF1 := Lib.hid FA
  have HT := Lib.hid ht
  have hB := Lib.hid (vmB_ok di da re he h4 hs)
  unfold cfgC at hw1 HV ⊢
  clear hA FA ht
  go_enter Tryz.func41, Tryz.ntmps41
  go_wp2_with fail
  refine HV.out.mono ?_
  rintro e w2 ⟨v, hp, sels, rfl, hv, hvd, hva, hvr, hvm, hvg, hf2⟩
  obtain ⟨M, hM⟩ : ∃ M : MR, (⟨.pointer (some ⟨v.sb, 0, none⟩), .pointer (some ⟨v.db, 0, none⟩), .pointer (some ⟨v.rb, 0, none⟩), hp, sels, 0, 0, 8, 24, sl, 0, ByteArray.empty, inn, false, 0, 16, 2824, .map (some v.cm)⟩ : MR) = M := ⟨_, rfl⟩
  rw [hM] at hv
  have HO := Lib.hid (onew_ok v M _ 2832 0 0 w2 hv hB.out.1 (by rw [← hM]) (Cod.tab_fr (HF1.out.trans hf2) HT.out))
  have HV2 := Lib.hid hv
  have HF2 := Lib.hid (HF1.out.trans hf2)
  have HM := Lib.hid hM
  have HVD := Lib.hid (And.intro hvd (And.intro hva (And.intro hvm hvg)))
  clear hv hf2 hM hvd hva hvr c0 c1 c2 c3 c4
  go_wp2_with fail
  refine HO.out.mono ?_
  rintro e w3 ⟨ob, sr, q, qc, wm, o, rfl, ho, hob, hwm, hq, hrs, hcw, hqw, hf3⟩
  have HO3 := Lib.hid ho
  have HF3 := Lib.hid (HF2.out.trans hf3)
  clear ho hf3
  go_wp2_with fail
  obtain ⟨s, hsz⟩ : ∃ s, w3.heap.size = s := ⟨_, rfl⟩
  have t1 : (w3.alloc (.map #[] 0)).heap.size = s + 1 := by simp [hsz]
  have f1 := (Fr.refl (fun _ => False) w3).alloc (.map #[] 0)
  obtain ⟨a1, ha1⟩ : ∃ a, w3.alloc (.map #[] 0) = a := ⟨_, rfl⟩
  rw [ha1] at t1 f1
  have t2 : (a1.alloc (.map #[] 0)).heap.size = s + 1 + 1 := by simp [t1]
  have f2 := (Fr.refl (fun _ => False) a1).alloc (.map #[] 0)
  obtain ⟨a2, ha2⟩ : ∃ a, a1.alloc (.map #[] 0) = a := ⟨_, rfl⟩
  rw [ha2] at t2 f2
  have t3 : (a2.alloc (.cells #[.pointer (some ⟨ob, 0, none⟩), .map (some w3.heap.size), .map (some (w3.heap.size + 1)), .pointer none, .int .i64 0, .int .i64 0, .int .i64 0] 92)).heap.size = s + 1 + 1 + 1 := by simp [t2]
  have f3 := (Fr.refl (fun _ => False) a2).alloc (.cells #[.pointer (some ⟨ob, 0, none⟩), .map (some w3.heap.size), .map (some (w3.heap.size + 1)), .pointer none, .int .i64 0, .int .i64 0, .int .i64 0] 92)
  have g3 := heap_alloc_last a2 (.cells #[.pointer (some ⟨ob, 0, none⟩), .map (some w3.heap.size), .map (some (w3.heap.size + 1)), .pointer none, .int .i64 0, .int .i64 0, .int .i64 0] 92)
  obtain ⟨a3, ha3⟩ : ∃ a, a2.alloc (.cells #[.pointer (some ⟨ob, 0, none⟩), .map (some w3.heap.size), .map (some (w3.heap.size + 1)), .pointer none, .int .i64 0, .int .i64 0, .int .i64 0] 92) = a := ⟨_, rfl⟩
  rw [ha3] at t3 f3 g3
  have t4 : (a3.alloc (.cells #[.pointer (some ⟨w3.heap.size + 1 + 1, 0, none⟩)] 82)).heap.size = s + 1 + 1 + 1 + 1 := by simp [t3]
  have f4 := (Fr.refl (fun _ => False) a3).alloc (.cells #[.pointer (some ⟨w3.heap.size + 1 + 1, 0, none⟩)] 82)
  have g4 := cell_of_one (heap_alloc_last a3 (.cells #[.pointer (some ⟨w3.heap.size + 1 + 1, 0, none⟩)] 82))
  obtain ⟨a4, ha4⟩ : ∃ a, a3.alloc (.cells #[.pointer (some ⟨w3.heap.size + 1 + 1, 0, none⟩)] 82) = a := ⟨_, rfl⟩
  rw [ha4] at t4 f4 g4
  have f5 := (Fr.refl (fun _ => False) a4).alloc (.map #[] 0)
  have hmB := FmB.made a4
  obtain ⟨a5, ha5⟩ : ∃ a, a4.alloc (.map #[] 0) = a := ⟨_, rfl⟩
  rw [ha5] at f5 hmB
  rw [ha1, ha2, ha3, ha4, ha5]
  rw [t4] at hmB
  rw [t3, hsz] at g4
  rw [t2] at g3
  have HG3 := Lib.hid (f5.obj (f4.obj g3 id) id)
  have HG4 := Lib.hid (f5.cell g4 id)
  have F35 := ((((f1.trans f2).trans f3).trans f4).trans f5)
  have HO5 := Lib.hid (HO3.out.nf F35)
  have HCW5 := Lib.hid (hcw.fr F35 id)
  have HF5 := Lib.hid (HF3.out.trans F35)
  have HW := Lib.hid (And.intro hob (And.intro hwm (And.intro hq (And.intro hrs hqw))))
  clear f1 f2 f3 f4 f5 g3 g4 t1 t2 t3 t4 ha1 ha2 ha3 ha4 ha5 F35 hcw
  rw [hsz]
  obtain ⟨wb, hwb⟩ : ∃ b, s + 1 + 1 + 1 + 1 = b := ⟨_, rfl⟩
  rw [hwb] at hmB ⊢
  refine (ptable_b _).mono ?_
  rintro e w10 ⟨rfl, hmB1, hf10⟩
  have hmA1 : FmB w10 wb 0 := hmB.fr hf10 id
  have HF10 := Lib.hid hf10
  have hm9l := hmB.lt
  have h10 := hf10.size
  clear hf10 hmB
  obtain ⟨b2, hb2⟩ : ∃ b, a5.heap.size = b := ⟨_, rfl⟩
  rw [hb2] at hmB1 hm9l
  rw [hb2]
  have hlt1 := hmA1.lt
  have HA1 := Lib.hid hmA1
  obtain ⟨F1, ⟨D1, hown1, hi1, hU1, hh1, hfn1⟩, kd1⟩ := hmB1
  have hbl1 := hown1.lt
  have HU1 := Lib.hid hU1
  have HH1 := Lib.hid hh1
  have HFN1 := Lib.hid hfn1
  have HK1 := Lib.hid kd1
  have hszD1 := hown1.size_le
  clear hU1 hh1 hfn1 kd1 hmA1
  obtain ⟨rb1, hrb1⟩ : ∃ r, w10.heap.size = r := ⟨_, rfl⟩
  rw [hrb1] at hbl1 hlt1
  go_wp2_with (at_range; refine wpList_range_own _ rfl _ 127 rfl 9 129 strKey Tryz.underlying127 _ b2 200 _ rfl hown1 ?_; intro w01 hrg01 hg01 hs01)
  go_frame
  rw [hrb1] at hrg01
  rw [hrb1]
  have HG01 := Lib.hid hg01
  clear hg01 hs01
  go_loopw [10] (fun _ wo => ∃ (left : Lit → Bool) (cnt : Nat), wo.ranges Tryz.prog 9 fnElem b2 rb1 200 D1 left cnt ∧ cnt ≤ 200 ∧ FmB wo wb (0 + (200 - cnt)) ∧ Fr (fun j => j = wb) w10 wo)
    (fun _ wo => wo.rangeLeft b2 rb1)
  case atStart =>
    have hf : Fr (fun _ => False) w10 w01 := Fr.grown (Fr.refl _ _) HG01.out (fun k hk => by cases hk)
    exact ⟨_, _, hrg01, hszD1, (HA1.out.fr hf id).mono (by omega), hf.mono fun _ _ e => e.elim⟩
  case round =>
    obtain ⟨left, cnt, hrg, hcs, hout, hFo⟩ := hrel
    obtain ⟨wr1, hwr1⟩ : ∃ W, W = wr := ⟨_, rfl⟩
    subst hwr1
    have HOUT := Lib.hid hout
    have HFo1 := Lib.hid hFo
    have hge := hFo.size
    clear hout hFo
    go_wp2_with (at_next; refine wpList_next_ranges _ rfl _ rfl 9 strKey fnElem Value.string (fun v : Value => v) (fun key kl h => (by obtain ⟨s, e, _⟩ := WideMaps.string_of_keyOf Tryz.underlying9 h; exact ⟨s, e⟩)) (fun v _ _ => ⟨v, rfl⟩) b2 _ 200 _ _ _ rfl hrg ?_ ?_)
    · intro hc0 hl0
      have hv4 := HO3.out.vm
      have l1 := hv4.row.lt
      have l2 := hv4.sat.lt
      have l3 := lt_of_block hv4.ds
      have l4 := lt_of_block hv4.rs
      have l5 := lt_of_block hv4.dotc
      have l6 := lt_of_block HO3.out.row
      obtain ⟨nn3, ⟨G3, hG3, _⟩, _⟩ := hv4.dot
      have l7 := hG3.lt
      obtain ⟨n8, hn8⟩ := HO3.out.wds
      have l8 := hn8.lt
      rw [hsz] at l1 l2 l3 l4 l5 l6 l7 l8
      have lw := HF3.out.size
      rw [hsz] at lw
      have lq := HW.out.2.2.1
      rw [hsz] at lq
      have HLT := Lib.hid (show s + 1 + 1 ≠ ob ∧ s + 1 + 1 ≠ v.mb ∧ s + 1 + 1 ≠ v.db ∧ s + 1 + 1 ≠ v.g by omega)
      clear hv4 hG3 hn8
      have g4w := HFo1.out.cell (HF10.out.cell HG4.out id) (show ¬ (s + 1 + 1 + 1 = wb) by omega)
      have g3w := HFo1.out.obj (HF10.out.obj HG3.out id) (show ¬ (s + 1 + 1 = wb) by omega)
      have g30 := cell_of_row _ _ 0 _ _ _ g3w
      have hOw := (HO5.out.nf HF10.out).turn HFo1.out ((HO5.out.nf HF10.out).vm.fr HFo1.out (show ¬ (_ = wb) by omega) (show ¬ (_ = wb) by omega) (show ¬ (_ = wb) by omega) (show ¬ (_ = wb) by omega) (show ¬ (_ = wb) by omega) (show ¬ (_ = wb) by omega) (show ¬ (_ = wb) by omega) (show ¬ (_ = wb) by omega)) (show ¬ (_ = wb) by omega) (show ¬ (_ = wb) by omega) (show ¬ (_ = wb) by omega)
      have HOW := Lib.hid hOw
      have HCW9 := Lib.hid ((HCW5.out.fr HF10.out id).fr HFo1.out (show ¬ (wm = wb) by omega))
      have HG3W := Lib.hid g3w
      have HFW := Lib.hid (((HF5.out.trans HF10.out).after HFo1.out (fun k hk e => by omega)) : Fr (fun _ => False) w wr1)
      have g30' : wr1.cell? ⟨s + 1 + 1, 0, none⟩ = some (.pointer (some ⟨ob, 0, none⟩)) := by rw [g30]; rfl
      have HEX := Lib.hid (extend_ok ob sr q qc wm wb (0 + (200 - cnt)) o v M (vmB di da re he) 2832 0 0 (.func 58) #[.pointer (some ⟨s + 1 + 1, 0, none⟩)] #[] wr1.drew (HOW.out.nf (Fr.refl _ _).drew) HW.out.2.2.2.1 (HCW9.out.fr ((Fr.refl (fun _ => False) wr1).drew) id) (HOUT.out.fr ((Fr.refl (fun _ => False) wr1).drew) id) (by omega) ⟨by omega, by omega⟩ (by have h0 := HW.out.2.1; have := HV2.out.row.lt; have := HV2.out.sat.lt; have := lt_of_block HV2.out.ds; have := lt_of_block HV2.out.rs; have := lt_of_block HV2.out.dotc; obtain ⟨_, ⟨G9, hG9, _⟩, _⟩ := HV2.out.dot; have := hG9.lt; omega) HW.out.2.2.2.2)
      have HG4W := Lib.hid g4w
      have HG30 := Lib.hid g30'
      clear hOw g3w g30
      go_wp2_with fail
      go_still_tail 7, (by kernel_rfl)
      change wpList _ _ _ _ _ wr1.drew
      go_wp2_with fail
      refine HEX.out.mono ?_
      rintro e w20 ⟨rfl, ⟨rs', ho20⟩, hf20⟩
      have hf21 := Fr.undrew hf20
      have g420 := hf21.cell HG4W.out (show ¬ (s + 1 + 1 + 1 = ob ∨ s + 1 + 1 + 1 = wm) by omega)
      have g320 := hf21.cell HG30.out (show ¬ (s + 1 + 1 = ob ∨ s + 1 + 1 = wm) by omega)
      go_wp2_with fail
      go_ret2
      have hz20 := hf21.size
      exact ⟨s + 1 + 1, ob, sr, q, qc, wm, { o with rs := rs' }, v, hp, sels, rfl, g320, by rw [HM.out]; exact ho20, HVD.out.1, HVD.out.2.1, by omega, by have := HVD.out.2.2.1; have := HF1.out.size; omega, by have := HW.out.1; have := HF2.out.size; omega, ⟨by have := HVD.out.2.2.2.1; have := HF1.out.size; omega, by have := HVD.out.2.2.2.2; have := HF1.out.size; omega⟩, HLT.out, by have := HF3.out.size; omega, HFW.out.after hf21 (fun k hk e => by have := HF2.out.size; have := HW.out.1; have := HW.out.2.1; omega)⟩
    · intro x v' kl y yp w1' cnt1 hkx hlx hwc hat hrg1 hlt' hg1 hs1 hen
      have hkl : Maps.has D1 kl = true := has_true_of_atKey hat
      obtain ⟨hy0, _⟩ := fnElem_some hwc
      obtain ⟨hy, _⟩ := Prod.mk.inj hy0
      have hat0 := hat (.held .nilFunc)
      rw [HU1.out, hy] at hat0
      have hsm : (F1 kl).isSome = true := by rw [← HH1.out]; exact hkl
      obtain ⟨v, hv⟩ := Option.isSome_iff_exists.1 hsm
      rw [hv] at hat0
      obtain rfl : v = v' := by simpa using hat0
      obtain ⟨f, p, q, rfl⟩ := HFN1.out kl v hv
      obtain ⟨s, hsx, hskl, hss⟩ := WideMaps.string_of_keyOf Tryz.underlying9 hkx
      have hg1' : Fr (fun j => j = rb1) wr1 w1' := Fr.grown (S := fun j => j = rb1) (Fr.refl _ _) hg1 (fun k hk => .inr (Option.some.inj hk).symm)
      have HG1 := Lib.hid (hg1'.alloc (.cells #[.func f p q] 129))
      injection hsx with hsx
      subst hsx
      have hne : KeyOk x.data.toList := HK1.out _ (by rw [← hskl, hv]; simp)
      have hrgA := hrg1.kept (fr_grown ((Fr.refl (fun _ => False) w1').alloc (.cells #[.func f p q] 129))) (fun e => by cases e) (fun e => by cases e)
      have HS1 := Lib.hid hs1
      clear hat hat0 hsm hwc hy hy0 hv hg1' hs1
      go_wp2_with (at_mapUpdate; refine wpList_ins_fmb _ rfl _ _ _ 97 130 (.inl rfl) Tryz.underlying97 wb _ rfl (HOUT.out.fr (S := fun j => j = rb1) HG1.out (show ¬ (wb = rb1) from Nat.ne_of_lt hlt1)) (by unfold maxLen; omega) x rfl hne (.func 56) #[] _ rfl ?_; intro w2' hout2 ht2; go_frame)
      have hrg2 := hrgA.kept (fr_grown1 ht2) (fun e => by have := Option.some.inj e; omega) (fun e => by have := Option.some.inj e; omega)
      go_roundw
      case rel =>
        first
        | exact ⟨_, cnt1, hrg2, by omega, hout2.mono (by omega), (HFo1.out.after HG1.out (fun k hk e => by omega)).trans ht2⟩
        | refine ⟨_, _, _, _, _, _, _, _, _, ⟨_, cnt1, hrg2, by omega, hout2.mono (by omega), (HFo1.out.after HG1.out (fun k hk e => by omega)).trans ht2⟩, rfl⟩
      case measure => rw [hrg2.left_eq, hrg.left_eq]; exact hlt'
end Go.Proofs.YthkmbnkkohomeaaGreatDoor.Mem
