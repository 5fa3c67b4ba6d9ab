/- Several texts in one: VmD, LyA, LyB. -/
import Derived.Test.YthkmbnkkohomeaaGreatDoorSwas
import Derived.Test.YthkmbnkkohomeaaGreatDoorSwcr
import Derived.Test.YthkmbnkkohomeaaGreatDoorSwaq
import Derived.Deep.RegionWith
import Derived.BigQuiet
import Derived.Deep.RegionHeld3
set_option linter.unusedSimpArgs false
set_option linter.unusedVariables false
/- Contracts of package vm: what the primitives do, by their numbers. -/
namespace Go.Proofs.YthkmbnkkohomeaaGreatDoor.Mem
open Go.RowKit Go.Maps

theorem copyP (bd bs nd ns : Nat) (u v : Option Value) (w : World) (hd : FmP [([46], u)] w bd nd) (hs : FmP [([46], v)] w bs ns) (hne : bd ≠ bs) (hroom : nd + ns < maxLen) :
    Calls Tryz.prog 117 #[.map (some bd), .map (some bs)] w
      fun e w' => e = .returned (.tuple #[]) ∧ FmP [([46], if v.isSome = true then v else u)] w' bd (nd + ns) ∧ Fr (fun j => j = bd) w w' := by
  obtain ⟨Fd, hFd, kd⟩ := hd
  obtain ⟨Fs, hFs, ks⟩ := hs
  refine (copy_ok bd bs nd ns Fd Fs w hFd hFs hne hroom).mono ?_
  rintro e w' ⟨rfl, hF, hf⟩
  refine ⟨rfl, ⟨_, hF, fun y hy => ?_⟩, hf⟩
  obtain rfl := List.mem_singleton.1 hy
  have e1 := kd ([46], u) (List.mem_singleton.2 rfl)
  have e2 := ks ([46], v) (List.mem_singleton.2 rfl)
  dsimp only at e1 e2 ⊢
  rw [e1, e2]

theorem idxFrom_is (x : ByteArray) : ∀ (zs : List ByteArray) (i : Nat), Lib.idxFromS zs x i = -1 ∨ ∃ j : Nat, Lib.idxFromS zs x i = ((i + j : Nat) : Int) ∧ zs.getD j ByteArray.empty = x
  | [], _ => .inl rfl
  | z :: zs, i => by
    by_cases h : z = x
    · exact .inr ⟨0, by simp [Lib.idxFromS, h], by simpa using h⟩
    · rcases idxFrom_is x zs (i + 1) with h1 | ⟨j, h1, h2⟩
      · exact .inl (by simp only [Lib.idxFromS, if_neg h]; exact h1)
      · exact .inr ⟨j + 1, by simp only [Lib.idxFromS, if_neg h]; rw [h1]; congr 1; omega, by simpa using h2⟩
theorem dot_number : Lib.idxOfS Cod.nm ⟨#[46]⟩ = 67 := by decide +kernel
theorem dot_name : Cod.nm.getD 67 ByteArray.empty = ⟨#[46]⟩ := by decide +kernel
theorem dot_only (x : ByteArray) (h : Lib.idxOfS Cod.nm x = 67) : x = ⟨#[46]⟩ := by
  rcases idxFrom_is x Cod.nm 0 with h1 | ⟨j, h1, h2⟩
  · unfold Lib.idxOfS at h
    omega
  · unfold Lib.idxOfS at h
    obtain rfl : j = 67 := by omega
    rw [← h2, dot_name]

theorem fr_grown {w w' : World} (h : Fr (fun _ => False) w w') : w.grownBy w' none := ⟨h.os, h.tape, h.output, h.size, fun k hk _ => h.block k hk id⟩

theorem bytes_of_list (s : ByteArray) (l : List UInt8) (h : s.data.toList = l) : s = ⟨l.toArray⟩ := by
  subst h
  cases s
  simp

/-- A map by numbers holds this at a number. -/
def NumP (w : World) (b n : Nat) (k : Int) (v : Value) : Prop := ∃ G, FMap w 2 b n G ∧ G (.int .i64 k) = some v

theorem size_of_info2 {P : Program} {t : TypeId} {n : Nat} (hi : (P.types[t]?).map (·.size) = some n) : ∀ h : t < P.types.size, (P.types[t]'h).size = n := by
  intro h
  rw [Array.getElem?_eq_getElem h] at hi
  simpa using hi
theorem run_index6 (x0 x1 x2 x3 x4 x5 : Value) (i : Nat) (hi : i < 6) (w : World) : (Instr.index 190 (.agg #[x0, x1, x2, x3, x4, x5]) (.int .i64 (i : Int))).run Tryz.prog w = .ok (#[x0, x1, x2, x3, x4, x5][i]'hi) w := by
  have hsz := size_of_info2 (P := Tryz.prog) (t := 188) (n := 1) (by kernel_rfl)
  simp [Instr.index, run_underlying Tryz.underlying190, go_sem]
  rw [if_pos hi, List.getElem?_eq_getElem (by simpa using hi)]
  rfl

set_option maxRecDepth 100000 in
set_option maxHeartbeats 8000000 in
theorem primitives_is (w : World) (ht : Cod.Tab w) :
    Calls Tryz.prog 76 #[] w fun e w' => ∃ b c n, e = .returned (.map (some b)) ∧ w.heap.size ≤ b ∧ w.heap.size < c ∧ b < w'.heap.size ∧ NumP w' b n 68 (dotV c) ∧ n ≤ 1000 ∧ DotC w' c ∧ b ≠ c ∧ Fr (fun _ => False) w w' := by
  have hmf : ∀ (fn : Fn) (first cap : Array Value) (w : World), (Instr.makeFunc fn first cap).run Tryz.prog w = .ok (.func fn first cap) w := fun _ _ _ _ => rfl
  have hmm := @run_makeMap Tryz.prog
  go_enter Tryz.func76, Tryz.ntmps76
  go_wp2_with (go_at_call 110; refine (arithmetic_nd _ ht).mono ?_; rintro e w1 ⟨rfl, hm1, hF1⟩)
  go_wp2_with (first
    | (go_at_call 111; refine (flow_nd _).mono ?_; rintro e w2 ⟨rfl, hm2, hF2⟩)
    | (go_at_call 112; refine (shuffles_nd _).mono ?_; rintro e w3 ⟨rfl, hm3, hF3⟩)
    | (go_at_call 113; refine (memory_nd _).mono ?_; rintro e w4 ⟨rfl, hm4, hF4⟩)
    | (go_at_call 114; refine (output_is _).mono ?_; rintro e w5 ⟨rfl, ⟨c, hlc, hm5, hc5⟩, hF5⟩)
    | (go_at_call 115; refine (heaps_nd _).mono ?_; rintro e w6 ⟨rfl, hm6, hF6⟩)
    | (go_at_call 116; refine (objects_nd _).mono ?_; rintro e w7 ⟨rfl, hm7, hF7⟩))
  have z1 := hm1.lt
  have z2 := hm2.lt
  have z3 := hm3.lt
  have z4 := hm4.lt
  have z5 := hm5.lt
  have z6 := hm6.lt
  have z7 := hm7.lt
  have y5 := hF5.size
  have f2 := ((((hF2.trans hF3).trans hF4).trans hF5).trans hF6).trans hF7
  have f3 := (((hF3.trans hF4).trans hF5).trans hF6).trans hF7
  have f4 := ((hF4.trans hF5).trans hF6).trans hF7
  have f5 := (hF5.trans hF6).trans hF7
  have f6 := hF6.trans hF7
  have HA := Lib.hid (hm1.fr f2 id)
  have H1 := Lib.hid (hm2.fr f3 id)
  have H2 := Lib.hid (hm3.fr f4 id)
  have H3 := Lib.hid (hm4.fr f5 id)
  have H4 := Lib.hid (hm5.fr f6 id)
  have H5 := Lib.hid (hm6.fr hF7 id)
  have H6 := Lib.hid hm7
  have HC := Lib.hid (show DotC w7 c from f6.obj hc5 id)
  have HF := Lib.hid (hF1.trans f2)
  obtain ⟨b1, hb1⟩ : ∃ b, w1.heap.size = b := ⟨_, rfl⟩
  obtain ⟨b2, hb2⟩ : ∃ b, w2.heap.size = b := ⟨_, rfl⟩
  obtain ⟨b3, hb3⟩ : ∃ b, w3.heap.size = b := ⟨_, rfl⟩
  obtain ⟨b4, hb4⟩ : ∃ b, w4.heap.size = b := ⟨_, rfl⟩
  obtain ⟨b5, hb5⟩ : ∃ b, w5.heap.size = b := ⟨_, rfl⟩
  obtain ⟨b6, hb6⟩ : ∃ b, w6.heap.size = b := ⟨_, rfl⟩
  have hcl := lt_of_block HC.out
  rw [hb1] at H1 z1 z2
  rw [hb2] at H2 z2 z3
  rw [hb3] at H3 z3 z4
  rw [hb4] at H4 z4 z5 y5 hlc
  rw [hb5] at H5 z5 z6 y5
  rw [hb6] at H6 z6 z7
  simp only [hb1, hb2, hb3, hb4, hb5, hb6]
  clear hm1 hm2 hm3 hm4 hm5 hm6 hm7 hF1 hF2 hF3 hF4 hF5 hF6 hF7 f2 f3 f4 f5 f6 hb1 hb2 hb3 hb4 hb5 hb6 hc5
  have i0 : ∀ w, (Instr.index 190 (.agg #[.map (some b1), .map (some b2), .map (some b3), .map (some b4), .map (some b5), .map (some b6)]) (.int .i64 0)).run Tryz.prog w = .ok (.map (some b1)) w := fun w => run_index6 _ _ _ _ _ _ 0 (by decide) w
  have i1 : ∀ w, (Instr.index 190 (.agg #[.map (some b1), .map (some b2), .map (some b3), .map (some b4), .map (some b5), .map (some b6)]) (.int .i64 1)).run Tryz.prog w = .ok (.map (some b2)) w := fun w => run_index6 _ _ _ _ _ _ 1 (by decide) w
  have i2 : ∀ w, (Instr.index 190 (.agg #[.map (some b1), .map (some b2), .map (some b3), .map (some b4), .map (some b5), .map (some b6)]) (.int .i64 2)).run Tryz.prog w = .ok (.map (some b3)) w := fun w => run_index6 _ _ _ _ _ _ 2 (by decide) w
  have i3 : ∀ w, (Instr.index 190 (.agg #[.map (some b1), .map (some b2), .map (some b3), .map (some b4), .map (some b5), .map (some b6)]) (.int .i64 3)).run Tryz.prog w = .ok (.map (some b4)) w := fun w => run_index6 _ _ _ _ _ _ 3 (by decide) w
  have i4 : ∀ w, (Instr.index 190 (.agg #[.map (some b1), .map (some b2), .map (some b3), .map (some b4), .map (some b5), .map (some b6)]) (.int .i64 4)).run Tryz.prog w = .ok (.map (some b5)) w := fun w => run_index6 _ _ _ _ _ _ 4 (by decide) w
  have i5 : ∀ w, (Instr.index 190 (.agg #[.map (some b1), .map (some b2), .map (some b3), .map (some b4), .map (some b5), .map (some b6)]) (.int .i64 5)).run Tryz.prog w = .ok (.map (some b6)) w := fun w => run_index6 _ _ _ _ _ _ 5 (by decide) w
  go_loopw [15] (fun iv wr => ∃ k : Nat, k ≤ 6 ∧ iv = .int .i64 k ∧ FmP [([46], if 4 ≤ k then some (dotV c) else none)] wr w.heap.size (172 + 40 * k) ∧ Fr (fun j => j = w.heap.size) w7 wr) (fun iv _ => 6 - (intOf iv).toNat)
  case atStart => exact ⟨0, Nat.zero_le _, rfl, HA.out, Fr.refl _ _⟩
  case round =>
    obtain ⟨k, hk, hiv, hm, hF⟩ := hrel
    have hsz := hF.size
    by_cases hlt : k < 6
    · have q1 := H1.out.fr hF (by omega)
      have q2 := H2.out.fr hF (by omega)
      have q3 := H3.out.fr hF (by omega)
      have q4 := H4.out.fr hF (by omega)
      have q5 := H5.out.fr hF (by omega)
      have q6 := H6.out.fr hF (by omega)
      have HF1 := Lib.hid hF
      clear hF
      have hk6 : k = 0 ∨ k = 1 ∨ k = 2 ∨ k = 3 ∨ k = 4 ∨ k = 5 := by omega
      rcases hk6 with rfl | rfl | rfl | rfl | rfl | rfl
      · subst hiv
        go_wp2_with (go_at_call 117; refine (copyP _ _ _ _ _ _ _ hm q1 (by omega) (by unfold maxLen; omega)).mono ?_; rintro e w8 ⟨rfl, hm8, hf8⟩)
        go_roundw
        case rel => exact ⟨1, by omega, by go_num, by simpa using hm8, HF1.out.trans hf8⟩
        case measure => simp [intOf]
      · subst hiv
        go_wp2_with (go_at_call 117; refine (copyP _ _ _ _ _ _ _ hm q2 (by omega) (by unfold maxLen; omega)).mono ?_; rintro e w8 ⟨rfl, hm8, hf8⟩)
        go_roundw
        case rel => exact ⟨2, by omega, by go_num, by simpa using hm8, HF1.out.trans hf8⟩
        case measure => simp [intOf]
      · subst hiv
        go_wp2_with (go_at_call 117; refine (copyP _ _ _ _ _ _ _ hm q3 (by omega) (by unfold maxLen; omega)).mono ?_; rintro e w8 ⟨rfl, hm8, hf8⟩)
        go_roundw
        case rel => exact ⟨3, by omega, by go_num, by simpa using hm8, HF1.out.trans hf8⟩
        case measure => simp [intOf]
      · subst hiv
        go_wp2_with (go_at_call 117; refine (copyP _ _ _ _ _ _ _ hm q4 (by omega) (by unfold maxLen; omega)).mono ?_; rintro e w8 ⟨rfl, hm8, hf8⟩)
        go_roundw
        case rel => exact ⟨4, by omega, by go_num, by simpa using hm8, HF1.out.trans hf8⟩
        case measure => simp [intOf]
      · subst hiv
        go_wp2_with (go_at_call 117; refine (copyP _ _ _ _ _ _ _ hm q5 (by omega) (by unfold maxLen; omega)).mono ?_; rintro e w8 ⟨rfl, hm8, hf8⟩)
        go_roundw
        case rel => exact ⟨5, by omega, by go_num, by simpa using hm8, HF1.out.trans hf8⟩
        case measure => simp [intOf]
      · subst hiv
        go_wp2_with (go_at_call 117; refine (copyP _ _ _ _ _ _ _ hm q6 (by omega) (by unfold maxLen; omega)).mono ?_; rintro e w8 ⟨rfl, hm8, hf8⟩)
        go_roundw
        case rel => exact ⟨6, by omega, by go_num, by simpa using hm8, HF1.out.trans hf8⟩
        case measure => simp [intOf]
    · obtain rfl : k = 6 := by omega
      subst hiv
      obtain ⟨W, hWe⟩ : ∃ W : World, W = wr := ⟨_, rfl⟩
      subst hWe
      have hmk := (show FmP [([46], some (dotV c))] W w.heap.size 412 by simpa using hm)
      have hcw := hF.obj HC.out (by omega)
      have hFw : Fr (fun _ => False) w W := HF.out.after hF (fun k hk e => by omega)
      have fA := (Fr.refl (fun _ => False) W).alloc (.map #[] 0)
      have hmk2 := hmk.fr fA id
      obtain ⟨F, ⟨D, hown, hi, hU, hh, hfn⟩, kd⟩ := hmk2
      have hbl := hown.lt
      have kdot := kd ([46], some (dotV c)) (List.mem_singleton.2 rfl)
      dsimp only at kdot
      have hnew := FMap.made W 2
      have hcw2 := fA.obj hcw id
      have HFW := Lib.hid (hFw.trans fA)
      have hwr : w.heap.size < W.heap.size := by omega
      have hclr : c < W.heap.size := by omega
      have HU := Lib.hid hU
      have HH := Lib.hid hh
      have HFN := Lib.hid hfn
      have HK := Lib.hid kdot
      have HNW := Lib.hid hnew
      have HCW := Lib.hid hcw2
      have hszD := hown.size_le
      clear hU hh hfn kd kdot hnew hcw hcw2 hF hm hmk hFw fA
      go_wp2_with (at_range; refine wpList_range_own _ rfl _ 188 rfl 9 193 strKey Tryz.underlying188 _ w.heap.size 412 _ rfl hown ?_; intro w0 hrg0 hg0 hs0)
      go_frame
      have hr1 : (W.alloc (.map #[] 0)).heap.size = W.heap.size + 1 := by simp
      rw [hr1] at hrg0
      rw [hr1]
      have HG0 := Lib.hid hg0
      have HS0 := Lib.hid hs0
      clear hg0 hs0
      go_loopw [5] (fun _ wo => ∃ (left : Lit → Bool) (cnt : Nat) (G : Lit → Option Value), wo.ranges Tryz.prog 9 fnElem w.heap.size (W.heap.size + 1) 412 D left cnt ∧ cnt ≤ 412 ∧ FMap wo 2 W.heap.size (412 - cnt) G ∧ (left (.string [46]) = false → G (.int .i64 68) = some (dotV c)) ∧ Fr (fun j => j = W.heap.size) (W.alloc (.map #[] 0)) wo)
        (fun _ wo => wo.rangeLeft w.heap.size (W.heap.size + 1))
      case atStart =>
        have hf : Fr (fun _ => False) (W.alloc (.map #[] 0)) w0 := Fr.grown (Fr.refl _ _) HG0.out (fun k hk => by cases hk)
        refine ⟨_, _, fun _ => none, hrg0, hszD, (HNW.out.fr hf id).mono (Nat.zero_le _), fun h => ?_, hf.mono fun _ _ e => e.elim⟩
        rw [HH.out, HK.out] at h
        cases h
      case round =>
        obtain ⟨left, cnt, G, hrg, hcs, hout, hdot, hFo⟩ := hrel
        have HOUT := Lib.hid hout
        have HD := Lib.hid hdot
        have HFo := Lib.hid hFo
        clear hout hdot hFo
        go_wp2_with (at_next; refine wpList_next_ranges _ rfl _ rfl 9 strKey fnElem Value.string (fun v : Value => v) (fun key kl h => (by obtain ⟨s, e, _⟩ := WideMaps.string_of_keyOf Tryz.underlying9 h; exact ⟨s, e⟩)) (fun v _ _ => ⟨v, rfl⟩) w.heap.size _ 412 _ _ _ rfl hrg ?_ ?_)
        · intro hc0 hl0
          go_wp2_with fail
          go_ret
          have hfo := HFo.out
          exact ⟨W.heap.size, c, 412 - cnt, rfl, by omega, by omega, HOUT.out.lt, ⟨G, HOUT.out, HD.out (hl0 _)⟩, by omega, hfo.obj HCW.out (by omega), by omega, HFW.out.after hfo (fun k hk e => by omega)⟩
        · intro x v' kl y yp w1' cnt1 hkx hlx hwc hat hrg1 hlt' hg1 hs1 hen
          have hkl : Maps.has D kl = true := has_true_of_atKey hat
          obtain ⟨hy0, _⟩ := fnElem_some hwc
          obtain ⟨hy, _⟩ := Prod.mk.inj hy0
          have hat0 := hat (.held .nilFunc)
          rw [HU.out, hy] at hat0
          have hsm : (F kl).isSome = true := by rw [← HH.out]; exact hkl
          obtain ⟨v, hv⟩ := Option.isSome_iff_exists.1 hsm
          rw [hv] at hat0
          obtain rfl : v = v' := by simpa using hat0
          obtain ⟨f, p, q, rfl⟩ := HFN.out kl v hv
          obtain ⟨s, hsx, hskl, _⟩ := WideMaps.string_of_keyOf Tryz.underlying9 hkx
          have hFo1 := HFo.out
          have hge := hFo1.size
          have hg1' : Fr (fun j => j = W.heap.size + 1) wr w1' := Fr.grown (S := fun j => j = W.heap.size + 1) (Fr.refl _ _) hg1 (fun k hk => .inr (Option.some.inj hk).symm)
          have HG1 := Lib.hid hg1'
          have HFa := Lib.hid (hFo1.after hg1' (fun k hk e => by omega))
          have HFz : Fr (fun _ => False) w w1' := HFW.out.after HFa.out (fun k hk e => by omega)
          have hout1 := HOUT.out.fr hg1' (by omega)
          have HOUT1 := Lib.hid hout1
          have HNum := Lib.hid (Cod.number_any s w1' (Cod.tab_fr HFz ht))
          have hib := Cod.idx_bd s
          obtain ⟨num, hnum⟩ : ∃ m, Lib.idxOfS Cod.nm s = m := ⟨_, rfl⟩
          rw [hnum] at HNum hib
          have HNE := Lib.hid hnum
          have HV := Lib.hid hv
          have hkey := Maps.keyOf_int_mk (P := Tryz.prog) (k := 2) Tryz.underlying2 (a := num + 1) (q := .i64) (WalkArith.wf_i64 (by omega))
          injection hsx with hsx
          subst hsx
          clear hg1' hFo1 hout1 hat hat0 hsm hwc hy hy0 hv hnum HFz
          go_wp2_with (first
            | (go_at_call 118; refine HNum.out.mono ?_; rintro e w9 ⟨rfl, hf9⟩)
            | (at_mapUpdate; refine wpList_store_fmap _ rfl _ _ _ 110 2 193 (.inl rfl) intKey Tryz.underlying110 W.heap.size _ _ rfl (HOUT1.out.fr hf9 id) (by unfold maxLen; omega) _ (.int .i64 (num + 1)) rfl hkey trivial f p q rfl ?_; intro w2' hout2 ht2; go_frame))
          have hrg2 := (hrg1.kept (fr_grown hf9) (fun e => by cases e) (fun e => by cases e)).kept ht2.grown (fun e => by have := Option.some.inj e; omega) (fun e => by have := Option.some.inj e; omega)
          have hl8 := HD.out
          go_roundw
          case rel =>
            refine ⟨_, _, _, _, _, _, _, _, _, _, _, ⟨_, cnt1, _, hrg2, by omega, hout2.mono (by omega), fun h => ?_, HFa.out.trans ((hf9.mono fun _ _ e => e.elim).trans (fr_turnedF ht2))⟩, rfl⟩
            by_cases hz : (Lit.int .i64 68) = Lit.int .i64 (num + 1)
            · rw [if_pos hz]
              injection hz with _ hz
              have hx := dot_only x (HNE.out.trans (by omega))
              have hv := HV.out
              rw [hskl, hx] at hv
              rw [HK.out] at hv
              exact hv.symm
            · rw [if_neg hz]
              refine hl8 ?_
              cases hle : left (.string [46]) with
              | false => rfl
              | true =>
                exfalso
                try dsimp only at h
                rw [hle] at h
                have hsk : (Lit.string [46]).sameKey kl = true := by simpa using h
                have he := WideAt.sameKey_eq hsk
                rw [hskl] at he
                injection he with he
                have hx := bytes_of_list x [46] he.symm
                have := HNE.out
                rw [hx, dot_number] at this
                exact hz (by rw [← this]; rfl)
          case measure => rw [hrg2.left_eq, hrg.left_eq]; exact hlt'
end Go.Proofs.YthkmbnkkohomeaaGreatDoor.Mem

/- vm.lay, the parts: head.Create of the k-th name; what class.Root, Comma and head.List do there. -/
namespace Go.Proofs.YthkmbnkkohomeaaGreatDoor.Mem
open Go.RowKit

theorem Sat.own {w : World} {b p g a z x : Nat} {bs : List UInt8} (h : Sat w b p g a z x bs) {mb : Nat} (hne : mb ≠ b ∧ mb ≠ p ∧ mb ≠ g) (i : Nat) (v : Value) : Sat (w.setCell ⟨mb, i, none⟩ v) b p g a z x bs :=
  h.fr ((Fr.refl (fun j => j = mb) w).setOne i v) (fun e => hne.1 e.symm) (fun e => hne.2.1 e.symm) (fun e => hne.2.2 e.symm)

/-- The XT of the k-th name. -/
def xtN (k : Nat) : Nat := al8 (al8 (posN k) + 16 + (nmx k).length)
theorem posN_xt (k : Nat) : posN (k + 1) = xtN k + 8 := rfl
theorem xtC_xt : xtC = xtN 73 := rfl
theorem bsN_stepI (bs : List UInt8) (k : Nat) : bsN bs (k + 1) = hput (bsN bs k) (posN k) 24 (nmx k) 0 ((k : Int) + 1) := rfl

theorem create_nm (b p g a z : Nat) (bs : List UInt8) (hz : 2784 ≤ z) (k : Nat) (hk : k < 86) (w : World) (h : Sat w b p g a z (posN k) (bsN bs k)) :
    Calls Tryz.prog 127 #[.pointer (some ⟨b, 0, none⟩), .int .i64 24, .string (Cod.nm.getD k ByteArray.empty), .int .i64 0, .int .i64 ((k : Int) + 1)] w
      fun e w' => e = .returned (.tuple #[.agg #[.int .i64 (al8 (posN k) : Nat), .int .i64 (xtN k : Nat), .int .i64 0, .string ⟨(nmx k).toArray⟩], .int .i64 0]) ∧
        Sat w' b p g a z (posN (k + 1)) (bsN bs (k + 1)) ∧ Both b g w w' := by
  have h0 := posN_mono 0 k (Nat.zero_le _)
  have h1 := posN_mono (k + 1) 86 hk
  rw [posN_all, posN_xt] at h1
  rw [show posN 0 = 32 from rfl] at h0
  have e1 := nm_low ⟨k, hk⟩
  have e2 := nm_len ⟨k, hk⟩
  have e3 := nm_31 ⟨k, hk⟩
  have e4 := nm_ne ⟨k, hk⟩
  dsimp only at e1 e2 e3 e4
  have e5 : xtN k = al8 (al8 (posN k) + 16 + (Cod.nm.getD k ByteArray.empty).size) := by rw [e2]; rfl
  have hc := create_ok b p g a z (posN k) 24 (bsN bs k) (Cod.nm.getD k ByteArray.empty) 0 ((k : Int) + 1) w h (by omega) (by decide) e4 e3 (by rw [← e5]; omega) (by omega)
  rw [e1, ← e5, ← posN_xt] at hc
  exact hc

theorem create_base (b p g a z : Nat) (bs : List UInt8) (hz : 2832 ≤ z) (w : World) (h : Sat w b p g a z (posN 86) (bsN bs 86)) :
    Calls Tryz.prog 127 #[.pointer (some ⟨b, 0, none⟩), .int .i64 24, .string ⟨#[98, 97, 115, 101]⟩, .int .i64 0, .int .i64 1003] w
      fun e w' => e = .returned (.tuple #[.agg #[.int .i64 2784, .int .i64 2808, .int .i64 0, .string ⟨baseNm.toArray⟩], .int .i64 0]) ∧
        Sat w' b p g a z 2816 (bsB bs) ∧ Both b g w w' := by
  rw [posN_all] at h
  have e1 : lower (⟨#[98, 97, 115, 101]⟩ : ByteArray).data.toList = baseNm := by decide
  have hc := create_ok b p g a z 2784 24 (bsN bs 86) ⟨#[98, 97, 115, 101]⟩ 0 1003 w h (by omega) (by decide) (by decide +kernel) (by decide) (by show 2816 ≤ z; omega) (by omega)
  rw [e1] at hc
  exact hc

theorem lay_root (b p g a z : Nat) (bs : List UInt8) (hz : 2832 ≤ z) (w : World) (h : Sat w b p g a z 8 bs) :
    Calls Tryz.prog 123 #[.pointer (some ⟨b, 0, none⟩)] w
      fun e w' => e = .returned (.tuple #[.int .i64 8, .int .i64 0]) ∧ Sat w' b p g a z 16 (setv bs 8 0) ∧ Both b g w w' := by
  have hc := root_ok b p g a z 8 bs w h (by show 16 ≤ z; omega)
  rw [show al8 8 = 8 from rfl, put_none] at hc
  exact hc
theorem lay_list (b p g a z : Nat) (bs : List UInt8) (hz : 2832 ≤ z) (w : World) (h : Sat w b p g a z 24 bs) :
    Calls Tryz.prog 125 #[.pointer (some ⟨b, 0, none⟩)] w
      fun e w' => e = .returned (.tuple #[.int .i64 24, .int .i64 0]) ∧ Sat w' b p g a z 32 (setv bs 24 0) ∧ Both b g w w' := by
  have hc := list_ok b p g a z 24 bs w h (by show 32 ≤ z; omega)
  rw [show al8 24 = 24 from rfl, put_none] at hc
  exact hc
theorem nm_is_caught (k : Nat) (hk : k < 86) (h : k = 73) : Cod.nm.getD k ByteArray.empty = ⟨#[40, 99, 97, 117, 103, 104, 116, 41]⟩ := by
  subst h
  have := (nm_caught ⟨73, by decide⟩).2 rfl
  dsimp only at this
  exact bytes_of_list _ _ this
theorem nm_caughtL : ∀ k : Fin 86, ((Cod.nm.getD k.val ByteArray.empty).toList == [40, 99, 97, 117, 103, 104, 116, 41]) = decide (k.val = 73) := by decide +kernel
theorem nm_not_caught (k : Nat) (hk : k < 86) (h : k ≠ 73) : ((Cod.nm.getD k ByteArray.empty).toList == [40, 99, 97, 117, 103, 104, 116, 41]) = false := by
  have := nm_caughtL ⟨k, hk⟩
  dsimp only at this
  rw [this]
  exact decide_eq_false h
theorem nm_count : Cod.nm.length = 86 := by decide +kernel
theorem nm_at (k : Nat) (hk : k < 86) : (Cod.nm.map Value.string).toArray[k]? = some (.string (Cod.nm.getD k ByteArray.empty)) := by
  have hl : k < Cod.nm.length := by rw [nm_count]; exact hk
  rw [List.getElem?_toArray, List.getElem?_map, List.getD_eq_getElem?_getD, List.getElem?_eq_getElem hl]
  rfl
end Go.Proofs.YthkmbnkkohomeaaGreatDoor.Mem

/- vm.lay where there is room. -/
namespace Go.Proofs.YthkmbnkkohomeaaGreatDoor.Mem
open Go.RowKit

/-- Only the machine's own cells, the space's and the bytes may have been written. -/
abbrev Trio (mb b g : Nat) := Fr fun j => j = mb ∨ j = b ∨ j = g
theorem Trio.both {mb b g : Nat} {w w' : World} (h : Both b g w w') : Trio mb b g w w' := h.mono fun _ _ e => .inr e
theorem Trio.set {mb b g : Nat} {w w' : World} (h : Trio mb b g w w') (i : Nat) (v : Value) : Trio mb b g w (w'.setCell ⟨mb, i, none⟩ v) := Fr.setCell h (.inr (.inl rfl)) v

theorem Trio.pre {b g : Nat} {w W w' : World} (h : Fr (fun _ => False) w W) (k : Both b g W w') : Both b g w w' := Fr.trans (h.mono fun _ _ e => e.elim) k
theorem Fr.set4n {S : Nat → Prop} {a b : World} {p : Nat} {x0 x1 x2 x3 : Value} (h : Fr S a b) (hp : a.heap.size ≤ p) : Fr S a ((((b.setCell ⟨p, 0, none⟩ x0).setCell ⟨p, 1, none⟩ x1).setCell ⟨p, 2, none⟩ x2).setCell ⟨p, 3, none⟩ x3) :=
  Fr.setCell (Fr.setCell (Fr.setCell (Fr.setCell h (.inl hp) _) (.inl hp) _) (.inl hp) _) (.inl hp) _

set_option maxRecDepth 100000 in
set_option maxHeartbeats 4000000 in
theorem lay_ok (mb b p g a z : Nat) (bs : List UInt8) (m : MR) (w : World) (hs : Sat w b p g a z 8 bs) (hm : Mch w mb m) (hsp : m.sp = .pointer (some ⟨b, 0, none⟩)) (hz : 2832 ≤ z) (hne : mb ≠ b ∧ mb ≠ p ∧ mb ≠ g)
    (ht : ∀ w', Trio mb b g w w' → Cod.Tab w') :
    Calls Tryz.prog 78 #[.pointer (some ⟨mb, 0, none⟩)] w
      fun e w' => e = .returned (.int .i64 0) ∧ Sat w' b p g a z 2832 (layB bs) ∧ Mch w' mb { m with root := 8, list := 24, base := 16, caught := 2824 } ∧ Trio mb b g w w' := by
  have hbd := hs.bd
  have hMB := hm.lt
  have R1 := Lib.hid (lay_root b p g a z bs hz)
  have R2 := Lib.hid (fun W (h : Sat W b p g a z 16 (setv bs 8 0)) => comma_ok b p g a z 16 (setv bs 8 0) 10 W h rfl (by omega))
  have R3 := Lib.hid (lay_list b p g a z (setv (setv bs 8 0) 16 10) hz)
  obtain ⟨B, hB⟩ : ∃ B, layA bs = B := ⟨_, rfl⟩
  have HB := Lib.hid hB
  have R4 := Lib.hid (create_nm b p g a z B (by omega))
  have R5 := Lib.hid (create_base b p g a z B hz)
  have hl : (layA bs).length = bs.length := (layA_ok bs (by omega)).1
  obtain ⟨C, hC⟩ : ∃ C, bsB B = C := ⟨_, rfl⟩
  have HC := Lib.hid hC
  have R6 := Lib.hid (fun W (h : Sat W b p g a z 2816 C) => comma_ok b p g a z 2816 C 16 W h rfl (by omega))
  have R7 := Lib.hid (fun W (h : Sat W b p g a z 2824 (setv C 2816 16)) => comma_ok b p g a z 2824 (setv C 2816 16) (xtC : Nat) W h rfl (by omega))
  rw [hC] at R5
  unfold layB
  obtain ⟨XC, hXC⟩ : ∃ X, xtC = X := ⟨_, rfl⟩
  rw [hXC] at R7 ⊢
  have HXC := Lib.hid hXC
  rw [hB, hC]
  have hA : setv (setv (setv bs 8 0) 16 10) 24 0 = B := hB
  rw [hA] at R3
  have HS := Lib.hid hs
  have HM := Lib.hid hm
  have HT := Lib.hid ht
  have HSP := Lib.hid hsp
  have HNE := Lib.hid hne
  have q0 := hm.cells.1
  rw [hsp] at q0
  clear hs hm ht hB hC hA hl hsp hz hbd hXC
  go_enter Tryz.func78, Tryz.ntmps78
  go_wp2_with (go_at_call 123; refine (R1.out _ HS.out).mono ?_; rintro e w1 ⟨rfl, hs1, hf1⟩; have HM1 := Lib.hid (HM.out.fr hf1 (by omega)); have q1 : w1.cell? ⟨mb, 0, none⟩ = some (.pointer (some ⟨b, 0, none⟩)) := (by rw [← HSP.out]; exact HM1.out.cells.1); have c1 := HM1.out.cells.2.2.2.2.2.2.2.1; have c15 := HM1.out.cells.2.2.2.2.2.2.2.2.2.2.2.2.2.2.2.1; have c8 := HM1.out.cells.2.2.2.2.2.2.2.2.1; have fr7 := HM1.out.free 7; have fr8 := HM1.out.free 8; have fr15 := HM1.out.free 15; have HS1 := Lib.hid hs1; have HF1 := Lib.hid (Trio.both (mb := mb) hf1); clear hs1 hf1)
  have H2 := Lib.hid (here_any b p g a z 16 _ _ (Sat.own HS1.out hne 7 (.int .i64 8)))
  have H3 := Lib.hid (R2.out _ (Sat.own (Sat.own HS1.out hne 7 (.int .i64 8)) hne 15 (.int .i64 16)))
  go_wp2_with (go_at_call 61; refine H2.out.mono ?_; rintro e w2 ⟨rfl, h0⟩; obtain rfl := h0.symm; clear h0)
  go_wp2_with (go_at_call 124; refine H3.out.mono ?_; rintro e w3 ⟨rfl, hs3, hf3⟩; have HM3 := Lib.hid (((HM1.out.set7 8).set15 16).fr hf3 (by omega)); have q3 : w3.cell? ⟨mb, 0, none⟩ = some (.pointer (some ⟨b, 0, none⟩)) := (by rw [← HSP.out]; exact HM3.out.cells.1); have d8 := HM3.out.cells.2.2.2.2.2.2.2.2.1; have fs8 := HM3.out.free 8; have HS3 := Lib.hid hs3; have HF3 := Lib.hid (((HF1.out.set 7 (.int .i64 8)).set 15 (.int .i64 16)).trans (Trio.both (mb := mb) hf3)); clear hs3 hf3 q1 c1 c15 c8 fr7 fr8 fr15)
  have H4 := Lib.hid (R3.out _ HS3.out)
  go_wp2_with (go_at_call 125; refine H4.out.mono ?_; rintro e w4 ⟨rfl, hs4, hf4⟩; have HM4 := Lib.hid (HM3.out.fr hf4 (by omega)); have q4 : w4.cell? ⟨mb, 0, none⟩ = some (.pointer (some ⟨b, 0, none⟩)) := (by rw [← HSP.out]; exact HM4.out.cells.1); have e8 := HM4.out.cells.2.2.2.2.2.2.2.2.1; have ft8 := HM4.out.free 8; have HS4 := Lib.hid hs4; have HF4 := Lib.hid (HF3.out.trans (Trio.both (mb := mb) hf4)); clear hs4 hf4 q3 d8 fs8)
  have HF4' := Lib.hid (Trio.set HF4.out 8 (.int .i64 24))
  have HM4' := Lib.hid (HM4.out.set8 24)
  have HS4' := Lib.hid (Sat.own HS4.out hne 8 (.int .i64 24))
  have H5 := Lib.hid (Cod.names_any _ (HT.out _ HF4'.out))
  obtain ⟨nb, hnb⟩ : ∃ nb, (w4.setCell ⟨mb, 8, none⟩ (.int .i64 24)).heap.size = nb := ⟨_, rfl⟩
  have hnl := lt_of_block HM4'.out
  have hsl := HS4'.out.lt
  have hA5 := heap_alloc_last (w4.setCell ⟨mb, 8, none⟩ (.int .i64 24)) (.cells (Cod.nm.map Value.string).toArray 9)
  have F5 := (Fr.refl (fun _ => False) (w4.setCell ⟨mb, 8, none⟩ (.int .i64 24))).alloc (.cells (Cod.nm.map Value.string).toArray 9)
  rw [hnb] at hnl hsl hA5 H5
  obtain ⟨w5, hw5⟩ : ∃ w5, (w4.setCell ⟨mb, 8, none⟩ (.int .i64 24)).alloc (.cells (Cod.nm.map Value.string).toArray 9) = w5 := ⟨_, rfl⟩
  rw [hw5] at hA5 F5 H5
  obtain ⟨N, hN⟩ : ∃ N : Nat, N = 86 := ⟨_, rfl⟩
  rw [← hN] at H5
  have HN := Lib.hid hN
  have hNb : N ≤ 1048576 := by omega
  clear hN
  have HM5 := Lib.hid (HM4'.out.fr F5 id)
  have HS5 := Lib.hid (HS4'.out.fr F5 id id id)
  have HF5 := Lib.hid (HF4'.out.after F5 fun _ _ e => e.elim)
  have HA5 := Lib.hid hA5
  clear HF4' HM4' HS4' HF4 HM4 HS4 HM3 HS3 HF3 HM1 HS1 HF1 hw5 F5 hA5 H4 H3 H2
  go_wp2_with (go_at_call 126; refine H5.out.mono ?_; rintro e w' ⟨rfl, h5⟩; obtain rfl := h5.symm; clear h5)
  clear H5 q4 e8 ft8 hnb
  go_loopw [5, 59] (fun c iv wr => ∃ k : Nat, k ≤ N ∧ iv = .int .i64 k ∧ c = .int .i64 (if 74 ≤ k then (XC : Int) else 0) ∧ Sat wr b p g a z (posN k) (bsN B k) ∧ Both b g w5 wr) (fun _ iv _ => N - (intOf iv).toNat)
  case atStart => exact ⟨0, Nat.zero_le _, rfl, rfl, HS5.out, Fr.refl _ _⟩
  case round =>
    obtain ⟨k, hk, hiv, hc, hS, hF⟩ := hrel
    have hM := HM5.out.fr hF (by omega)
    have q0 : wr.cell? ⟨mb, 0, none⟩ = some (.pointer (some ⟨b, 0, none⟩)) := by rw [← HSP.out]; exact hM.cells.1
    have q8 : wr.cell? ⟨mb, 8, none⟩ = some (.int .i64 24) := hM.cells.2.2.2.2.2.2.2.2.1
    by_cases hlt : k < N
    · have qn : wr.cell? ⟨nb, k, none⟩ = some (.string (Cod.nm.getD k ByteArray.empty)) := by
        rw [cell_of_row wr nb k _ _ _ (hF.obj HA5.out (fun e => by rcases e with e | e <;> omega))]
        exact nm_at k (by rw [← HN.out]; exact hlt)
      have hlt' : k < 86 := by rw [← HN.out]; exact hlt
      have HCR := Lib.hid (R4.out k hlt')
      obtain ⟨A, hA⟩ : ∃ A : Nat, al8 (posN k) = A := ⟨_, rfl⟩
      obtain ⟨X, hX⟩ : ∃ X : Nat, xtN k = X := ⟨_, rfl⟩
      obtain ⟨nl, hnl'⟩ : ∃ l : List UInt8, nmx k = l := ⟨_, rfl⟩
      obtain ⟨P1, hP1⟩ : ∃ X : Nat, posN (k + 1) = X := ⟨_, rfl⟩
      obtain ⟨B1, hB1⟩ : ∃ X, bsN B (k + 1) = X := ⟨_, rfl⟩
      rw [hA, hX, hnl', hP1, hB1] at HCR
      have HX := Lib.hid hX
      have HP1 := Lib.hid hP1
      have HB1 := Lib.hid hB1
      clear hA hX hnl' hP1 hB1
      have hne73' := nm_not_caught k hlt'
      have he73 := nm_is_caught k hlt'
      clear hlt'
      have HS := Lib.hid hS
      have HF := Lib.hid hF
      have HMr := Lib.hid hM
      clear hS hF hM
      obtain ⟨cv, hcv⟩ : ∃ cv, (if 74 ≤ k then (XC : Int) else 0) = cv := ⟨_, rfl⟩
      rw [hcv] at hc
      have HCV := Lib.hid hcv
      clear hcv
      subst hiv hc
      obtain ⟨nm, hnm⟩ : ∃ nm, Cod.nm.getD k ByteArray.empty = nm := ⟨_, rfl⟩
      rw [hnm] at qn HCR hne73' he73
      go_wp2_with fail
      have hslt := HS.out.lt
      have hwr : IntKind.i64.wrap ((k : Int) + 1) = (k : Int) + 1 := wrap_i64_small2 _ (by omega) (by omega)
      go_region_held3 (fun W => W.cell? ⟨mb, 0, none⟩ = some (.pointer (some ⟨b, 0, none⟩)) ∧ W.cell? ⟨mb, 8, none⟩ = some (.int .i64 24) ∧ Both b g wr W)
        ((go_split_ands; refine (fun hF => ⟨Fr.cell hF q0 (by dsimp only; omega), Fr.cell hF q8 (by dsimp only; omega), hF⟩ : Both b g wr _ → _) ?_; repeat' with_reducible first | exact Fr.refl _ _ | assumption | apply Fr.drew | apply Fr.alloc | refine Fr.set4n ?_ (Nat.le_refl _) | refine Fr.set4n ?_ hg9.size))
        (first | (go_at_call 127; go_split_ands; refine (HCR.out _ (Sat.fr (S := fun _ => False) HS.out (by with_reducible exact Fr.drew (Fr.refl _ _)) id id id)).mono ?_; rintro e w9 ⟨rfl, hs9, hf9⟩; have hg9 : Both b g wr w9 := Trio.pre (Fr.drew (Fr.refl _ _)) hf9) | (go_at_call 127; go_split_ands; refine (HCR.out _ (Sat.fr (S := fun _ => False) HS.out (by with_reducible exact Fr.drew (Fr.alloc (Fr.refl _ _) _)) id id id)).mono ?_; rintro e w9 ⟨rfl, hs9, hf9⟩; have hg9 : Both b g wr w9 := Trio.pre (Fr.drew (Fr.alloc (Fr.refl _ _) _)) hf9; have hx4 := hf9.obj (show (wr.alloc (.cells #[.int .i64 0, .int .i64 0, .int .i64 0, .string ⟨#[]⟩] 101)).drew.heap[wr.heap.size]? = _ from heap_alloc_last wr _) (fun e => by rcases e with e | e <;> omega); obtain ⟨g0, g1, g2, g3, _⟩ := four_cells hx4; have z0 := frozen_of_row w9 wr.heap.size 0 _ _ hx4; have z1 := frozen_of_row w9 wr.heap.size 1 _ _ hx4; have z2 := frozen_of_row w9 wr.heap.size 2 _ _ hx4; have z3 := frozen_of_row w9 wr.heap.size 3 _ _ hx4) | fail)
      · rename_i hHeld
        have F9 := Lib.hid hHeld.2.2
        have S9 := Lib.hid (hs9.fr (S := fun _ => False) ((Fr.refl (fun _ => False) w9).alloc (.cells #[.int .i64 A, .int .i64 X, .int .i64 0, .string ⟨nl.toArray⟩] 101)) id id id)
        clear hHeld hs9 hf9 hg9 q0 q8 qn HCR HS
        by_cases h73 : k = 73
        · have e := he73 h73
          subst e
          clear he73 hne73'
          go_wp2_with fail
          go_roundw
          case rel =>
            refine ⟨k + 1, by omega, by go_num, ?_, ?_, HF.out.trans F9.out⟩
            · rw [if_pos (by omega), ← HX.out, ← HXC.out, h73]
              rfl
            · rw [HP1.out, HB1.out]
              exact S9.out
          case measure => simp [intOf]; omega
        · have e := hne73' h73
          clear he73 hne73'
          go_wp2_with fail
          go_roundw
          case rel =>
            refine ⟨k + 1, by omega, by go_num, ?_, ?_, HF.out.trans F9.out⟩
            · rw [← HCV.out]
              by_cases h74 : 74 ≤ k
              · rw [if_pos h74, if_pos (by omega)]
              · rw [if_neg h74, if_neg (by omega)]
            · rw [HP1.out, HB1.out]
              exact S9.out
          case measure => simp [intOf]; omega
      · rename_i hHeld
        have F9 := Lib.hid hHeld.2.2
        have S9 := Lib.hid (hs9.fr (S := fun j => j = wr.heap.size) (((((Fr.refl (fun j => j = wr.heap.size) w9).setOne 0 (.int .i64 A)).setOne 1 (.int .i64 X)).setOne 2 (.int .i64 0)).setOne 3 (.string ⟨nl.toArray⟩)) (by have := HS.out.lt; omega) (by have := HS.out.lt; omega) (by have := HS.out.lt; omega))
        clear hHeld hs9 hf9 hg9 q0 q8 qn HCR HS
        by_cases h73 : k = 73
        · have e := he73 h73
          subst e
          clear he73 hne73'
          go_wp2_with fail
          go_roundw
          case rel =>
            refine ⟨k + 1, by omega, by go_num, ?_, ?_, HF.out.trans F9.out⟩
            · rw [if_pos (by omega), ← HX.out, ← HXC.out, h73]
              rfl
            · rw [HP1.out, HB1.out]
              exact S9.out
          case measure => simp [intOf]; omega
        · have e := hne73' h73
          clear he73 hne73'
          go_wp2_with fail
          go_roundw
          case rel =>
            refine ⟨k + 1, by omega, by go_num, ?_, ?_, HF.out.trans F9.out⟩
            · rw [← HCV.out]
              by_cases h74 : 74 ≤ k
              · rw [if_pos h74, if_pos (by omega)]
              · rw [if_neg h74, if_neg (by omega)]
            · rw [HP1.out, HB1.out]
              exact S9.out
          case measure => simp [intOf]; omega
    · obtain rfl : k = N := by omega
      have HS := Lib.hid (show Sat wr b p g a z (posN 86) (bsN B 86) from by rw [← HN.out]; exact hS)
      rw [if_pos (by have := HN.out; omega)] at hc
      have HF := Lib.hid hF
      have HMr := Lib.hid hM
      have hslt := hS.lt
      clear hS hF hM
      subst hiv hc
      obtain ⟨nl, hnl'⟩ : ∃ l : List UInt8, baseNm = l := ⟨_, rfl⟩
      rw [hnl'] at R5
      clear hnl'
      go_wp2_with fail
      go_region_held3 (fun W => W.cell? ⟨mb, 0, none⟩ = some (.pointer (some ⟨b, 0, none⟩)) ∧ W.cell? ⟨mb, 8, none⟩ = some (.int .i64 24) ∧ Both b g wr W)
        ((go_split_ands; refine (fun hF => ⟨Fr.cell hF q0 (by dsimp only; omega), Fr.cell hF q8 (by dsimp only; omega), hF⟩ : Both b g wr _ → _) ?_; repeat' with_reducible first | exact Fr.refl _ _ | assumption | apply Fr.drew | apply Fr.alloc | refine Fr.set4n ?_ (Nat.le_refl _) | refine Fr.set4n ?_ hg9.size))
        (first | (go_at_call 127; go_split_ands; refine (R5.out _ (Sat.fr (S := fun _ => False) HS.out (by with_reducible exact Fr.drew (Fr.refl _ _)) id id id)).mono ?_; rintro e w9 ⟨rfl, hs9, hf9⟩; have hg9 : Both b g wr w9 := Trio.pre (Fr.drew (Fr.refl _ _)) hf9) | (go_at_call 127; go_split_ands; refine (R5.out _ (Sat.fr (S := fun _ => False) HS.out (by with_reducible exact Fr.drew (Fr.alloc (Fr.refl _ _) _)) id id id)).mono ?_; rintro e w9 ⟨rfl, hs9, hf9⟩; have hg9 : Both b g wr w9 := Trio.pre (Fr.drew (Fr.alloc (Fr.refl _ _) _)) hf9; have hx4 := hf9.obj (show (wr.alloc (.cells #[.int .i64 0, .int .i64 0, .int .i64 0, .string ⟨#[]⟩] 101)).drew.heap[wr.heap.size]? = _ from heap_alloc_last wr _) (fun e => by rcases e with e | e <;> omega); obtain ⟨g0, g1, g2, g3, _⟩ := four_cells hx4; have z0 := frozen_of_row w9 wr.heap.size 0 _ _ hx4; have z1 := frozen_of_row w9 wr.heap.size 1 _ _ hx4; have z2 := frozen_of_row w9 wr.heap.size 2 _ _ hx4; have z3 := frozen_of_row w9 wr.heap.size 3 _ _ hx4) | fail)
      · rename_i hHeld
        have F9 := Lib.hid hHeld.2.2
        have S9 := Lib.hid (hs9.fr (S := fun _ => False) ((Fr.refl (fun _ => False) w9).alloc (.cells #[.int .i64 2784, .int .i64 2808, .int .i64 0, .string ⟨nl.toArray⟩] 101)) id id id)
        obtain ⟨E, hE⟩ : ∃ E, w9.alloc (.cells #[.int .i64 2784, .int .i64 2808, .int .i64 0, .string ⟨nl.toArray⟩] 101) = E := ⟨_, rfl⟩
        rw [hE] at F9 S9 ⊢
        clear hHeld hs9 hf9 hg9 q0 q8 HS hE
        have HME := Lib.hid (HMr.out.fr F9.out (by omega))
        have q0 : E.cell? ⟨mb, 0, none⟩ = some (.pointer (some ⟨b, 0, none⟩)) := by rw [← HSP.out]; exact HME.out.cells.1
        have q15 : E.cell? ⟨mb, 15, none⟩ = some (.int .i64 16) := HME.out.cells.2.2.2.2.2.2.2.2.2.2.2.2.2.2.2.1
        have H6 := Lib.hid (R6.out _ (Sat.drew S9.out))
        go_wp2_with fail
        go_still_tail 8, (by kernel_rfl)
        change wpList _ _ _ _ _ E.drew
        go_wp2_with (go_at_call 124; refine H6.out.mono ?_; rintro e w10 ⟨rfl, hs10, hf10⟩; have hf10' := Fr.undrew hf10; have HM10 := Lib.hid (HME.out.fr hf10' (by omega)); have HS10 := Lib.hid hs10; have HF10 := Lib.hid (HF5.out.trans (Trio.both (mb := mb) (HF.out.trans (F9.out.trans hf10')))); clear hs10 hf10 hf10' q0 q15; have q10 : w10.cell? ⟨mb, 0, none⟩ = some (.pointer (some ⟨b, 0, none⟩)) := (by rw [← HSP.out]; exact HM10.out.cells.1); have p16 := HM10.out.cells.2.2.2.2.2.2.2.2.2.2.2.2.2.2.2.2.1; have z16 := HM10.out.free 16)
        have H7 := Lib.hid (here_any b p g a z (2816 + 8) _ _ HS10.out)
        have H8 := Lib.hid (R7.out _ (Sat.own HS10.out HNE.out 16 (.int .i64 2824)))
        go_wp2_with (go_at_call 61; refine H7.out.mono ?_; rintro e w11 ⟨rfl, h0⟩; obtain rfl := h0.symm; clear h0)
        go_wp2_with (go_at_call 124; refine H8.out.mono ?_; rintro e w12 ⟨rfl, hs12, hf12⟩)
        go_ret
        exact ⟨rfl, hs12, (HM10.out.set16 2824).fr hf12 (by omega), (Trio.set HF10.out 16 (.int .i64 2824)).trans (Trio.both (mb := mb) hf12)⟩
      · rename_i hHeld
        have F9 := Lib.hid hHeld.2.2
        have S9 := Lib.hid (hs9.fr (S := fun j => j = wr.heap.size) (((((Fr.refl (fun j => j = wr.heap.size) w9).setOne 0 (.int .i64 2784)).setOne 1 (.int .i64 2808)).setOne 2 (.int .i64 0)).setOne 3 (.string ⟨nl.toArray⟩)) (by have := HS.out.lt; omega) (by have := HS.out.lt; omega) (by have := HS.out.lt; omega))
        obtain ⟨E, hE⟩ : ∃ E, (((w9.setCell ⟨wr.heap.size, 0, none⟩ (.int .i64 2784)).setCell ⟨wr.heap.size, 1, none⟩ (.int .i64 2808)).setCell ⟨wr.heap.size, 2, none⟩ (.int .i64 0)).setCell ⟨wr.heap.size, 3, none⟩ (.string ⟨nl.toArray⟩) = E := ⟨_, rfl⟩
        rw [hE] at F9 S9 ⊢
        clear hHeld hs9 hf9 hg9 q0 q8 HS hE
        have HME := Lib.hid (HMr.out.fr F9.out (by omega))
        have q0 : E.cell? ⟨mb, 0, none⟩ = some (.pointer (some ⟨b, 0, none⟩)) := by rw [← HSP.out]; exact HME.out.cells.1
        have q15 : E.cell? ⟨mb, 15, none⟩ = some (.int .i64 16) := HME.out.cells.2.2.2.2.2.2.2.2.2.2.2.2.2.2.2.1
        have H6 := Lib.hid (R6.out _ (Sat.drew S9.out))
        go_wp2_with fail
        go_still_tail 8, (by kernel_rfl)
        change wpList _ _ _ _ _ E.drew
        go_wp2_with (go_at_call 124; refine H6.out.mono ?_; rintro e w10 ⟨rfl, hs10, hf10⟩; have hf10' := Fr.undrew hf10; have HM10 := Lib.hid (HME.out.fr hf10' (by omega)); have HS10 := Lib.hid hs10; have HF10 := Lib.hid (HF5.out.trans (Trio.both (mb := mb) (HF.out.trans (F9.out.trans hf10')))); clear hs10 hf10 hf10' q0 q15; have q10 : w10.cell? ⟨mb, 0, none⟩ = some (.pointer (some ⟨b, 0, none⟩)) := (by rw [← HSP.out]; exact HM10.out.cells.1); have p16 := HM10.out.cells.2.2.2.2.2.2.2.2.2.2.2.2.2.2.2.2.1; have z16 := HM10.out.free 16)
        have H7 := Lib.hid (here_any b p g a z (2816 + 8) _ _ HS10.out)
        have H8 := Lib.hid (R7.out _ (Sat.own HS10.out HNE.out 16 (.int .i64 2824)))
        go_wp2_with (go_at_call 61; refine H7.out.mono ?_; rintro e w11 ⟨rfl, h0⟩; obtain rfl := h0.symm; clear h0)
        go_wp2_with (go_at_call 124; refine H8.out.mono ?_; rintro e w12 ⟨rfl, hs12, hf12⟩)
        go_ret
        exact ⟨rfl, hs12, (HM10.out.set16 2824).fr hf12 (by omega), (Trio.set HF10.out 16 (.int .i64 2824)).trans (Trio.both (mb := mb) hf12)⟩
end Go.Proofs.YthkmbnkkohomeaaGreatDoor.Mem
