/- Contracts of the statement ObjectSends: holds. -/
import Derived.Test.YtajeiccfgnpbpaaQn
import Derived.Deep.DeepCutAuto
import Derived.Deep.DrawnRows
set_option linter.unusedSimpArgs false
set_option linter.unusedVariables false

namespace Go.Proofs.Ytajeiccfgnpbpaa.Mem
open Go.RowKit
attribute [local go_sem ↓] Go.wp_at_zero Go.wp_at_succ

/-- Objects, as cells of a slice. -/
def thcells (T : List Th) : List Value := T.flatMap fun t => [.int .i64 (t.at' : Nat), .int .i64 (t.cls : Nat), .string ⟨t.txt.toArray⟩]
theorem thcells_get (T : List Th) (i : Nat) (t : Th) (h : T[i]? = some t) : (thcells T)[i * 3]? = some (.int .i64 (t.at' : Nat)) ∧ (thcells T)[i * 3 + 1]? = some (.int .i64 (t.cls : Nat)) ∧ (thcells T)[i * 3 + 2]? = some (.string ⟨t.txt.toArray⟩) := by
  induction T generalizing i with
  | nil => simp at h
  | cons u T ih =>
    have e : thcells (u :: T) = [.int .i64 (u.at' : Nat), .int .i64 (u.cls : Nat), .string ⟨u.txt.toArray⟩] ++ thcells T := by simp [thcells]
    rw [e]
    cases i with
    | zero =>
      have : u = t := by simpa using h
      subst this
      exact ⟨rfl, rfl, rfl⟩
    | succ i =>
      obtain ⟨h0, h1, h2⟩ := ih i (by simpa using h)
      have ef : ∀ j, ([.int .i64 (u.at' : Nat), .int .i64 (u.cls : Nat), .string ⟨u.txt.toArray⟩] ++ thcells T)[(i + 1) * 3 + j]? = (thcells T)[i * 3 + j]? := fun j => by
        rw [List.getElem?_append_right (by simp; omega)]
        congr 1
        simp
        omega
      exact ⟨(ef 0).trans h0, (ef 1).trans h1, (ef 2).trans h2⟩


theorem thcells_len (T : List Th) : (thcells T).length = T.length * 3 := by
  induction T with
  | nil => rfl
  | cons u T ih =>
    have e : thcells (u :: T) = [.int .i64 (u.at' : Nat), .int .i64 (u.cls : Nat), .string ⟨u.txt.toArray⟩] ++ thcells T := by simp [thcells]
    rw [e, List.length_append, ih]
    simp
    omega

set_option maxRecDepth 100000 in
set_option maxHeartbeats 8000000 in
theorem holds_any {wb B p g b k x : Nat} {A : Nat → Nat} {L : List RC} {l : List Bk} {T : List Th} {bs : List UInt8} (gT cT : Nat) (sel : Int) (w : World) (h : OW wb B p g b k A L l T bs x w)
    (hT : ∀ i t, T[i]? = some t → w.cell? ⟨gT, i * 3, none⟩ = some (.int .i64 (t.at' : Nat)) ∧ w.cell? ⟨gT, i * 3 + 1, none⟩ = some (.int .i64 (t.cls : Nat)) ∧ w.cell? ⟨gT, i * 3 + 2, none⟩ = some (.string ⟨t.txt.toArray⟩)) (hn : T.length ≤ 64) (hcT : T.length ≤ cT) (hcM : cT ≤ maxLen)
    (hfew : ∀ j (h : j < L.length), L[j].own.length ≤ 64) (hk64 : k ≤ 64) :
    Calls Try.prog 45 #[.pointer (some ⟨wb, 0, none⟩), .slice (some ⟨gT, 0, none⟩) T.length cT, .int .i64 sel] w fun e w' => e = .returned (.bool true) ∧ Fr (fun _ => False) w w' := by
  obtain ⟨vs, vA, vL, hob, hs, hst, hone, hown, hv⟩ := h
  have HOB := Lib.hid hob
  have HS := Lib.hid hs
  have HST := Lib.hid hst
  have HT := Lib.hid hT
  have HV := Lib.hid hv
  have HOWN := Lib.hid hown
  have HFEW := Lib.hid hfew
  obtain ⟨n, hN⟩ : ∃ n, T.length = n := ⟨_, rfl⟩
  have HN := Lib.hid hN
  rw [hN] at hn hcT ⊢
  unfold maxLen at hcM
  clear hT hob hs hst hN hv hown hone hfew
  go_enter Try.func45, Try.ntmps45
  go_wp2_with fail
  go_loopw [23] (fun iv wr => ∃ i : Nat, i ≤ n ∧ iv = .int .i64 i ∧ Fr (fun _ => False) w wr) (fun iv _ => n - (intOf iv).toNat)
  case atStart => exact ⟨0, Nat.zero_le _, rfl, Fr.refl _ _⟩
  case round =>
    obtain ⟨i, hi, rfl, hF⟩ := hrel
    obtain ⟨wo, hwo⟩ : ∃ wo, wo = wr := ⟨_, rfl⟩
    subst hwo
    have HF := Lib.hid hF
    by_cases hlt : i < n
    · have hil : i < T.length := by rw [HN.out]; exact hlt
      obtain ⟨t, ht⟩ : ∃ t, T[i]? = some t := ⟨_, List.getElem?_eq_getElem hil⟩
      have htm := List.mem_of_getElem? ht
      obtain ⟨d0, d1, d2⟩ := HT.out i t ht
      have c0 := hF.cell d0 id
      have c1 := hF.cell d1 id
      have c2 := hF.cell d2 id
      have hoc := HST.out.ocls htm
      have hot := HST.out.otxt htm
      have hin := HST.out.inside htm
      have hbl := HST.out.cst.big
      have htk := HST.out.cls t htm
      have hklen := HST.out.cst.klen
      have hsend := HST.out.osend htm sel
      obtain ⟨hk0, gA, cA, gL, cL, rfl, rfl, hne, hoA, hoL⟩ := HV.out.resolve_left (fun e => by omega)
      have hat : w.cell? ⟨gA, t.cls, none⟩ = some (.int .i64 ((A t.cls : Nat) : Int)) := by
        have := owns_holds hoA ⟨gA, 0, none⟩ rfl t.cls (.int .i64 ((A t.cls : Nat) : Int)) (by rw [List.getElem?_map, ats_get A k t.cls htk]; rfl)
        rwa [addr_add'] at this
      have hRL : RLat w gL vs L := rlat_of hoL (fun j hj => HOWN.out j hj) (fun j hj => HFEW.out j hj)
      have htL : t.cls < L.length := by omega
      have hsl : w.cell? ⟨gL, t.cls * 4 + 2, none⟩ = some (.int .i64 5) := by
        have := hRL.c2 t.cls htL
        rwa [HST.out.cst.slots t.cls _ (List.getElem?_eq_getElem htL)] at this
      have hwlk : ∀ W, Fr (fun _ => False) w W → Calls Try.prog 36 #[.slice (some ⟨gL, 0, none⟩) k cL, .int .i64 ((t.cls : Nat) : Int), .int .i64 sel] W fun e w' => e = .returned (.tuple #[.int .i64 (wres (walkN L sel t.cls)).1, .int .i64 (wres (walkN L sel t.cls)).2.1, .bool (wres (walkN L sel t.cls)).2.2]) ∧ Fr (fun _ => False) W w' := fun W hW => by
        have h := rwalk_any gL cL vs L t.cls sel W (hRL.old hW) HST.out.cst.wf (by omega) (by omega)
        rw [hklen, show walkI L sel (t.cls : Int) = walkN L sel t.cls by unfold walkI; rw [if_pos (by omega), Int.toNat_natCast]] at h
        exact h
      have HTI := Lib.hid ht
      have HTM := Lib.hid htm
      obtain ⟨⟨ta, tc, tt⟩, hte⟩ : ∃ t', t = t' := ⟨_, rfl⟩
      subst hte
      dsimp only at c0 c1 c2 hoc hot hin htk hat hsl hwlk hsend
      have FT := HF.out.alloc (.cells #[.int .i64 (ta : Nat), .int .i64 (tc : Nat), .string ⟨tt.toArray⟩] 95)
      obtain ⟨b0, b1, b2, _, _, _, _⟩ := three_cells (heap_alloc_last wo (.cells #[.int .i64 (ta : Nat), .int .i64 (tc : Nat), .string ⟨tt.toArray⟩] 95))
      obtain ⟨q0, q1, q2, q3, q4, _⟩ := five_cells (FT.obj HOB.out id)
      have hat1 := FT.cell hat id
      have hsl1 := FT.cell hsl id
      have HC := Lib.hid (fun (W : World) (hW : Fr (fun _ => False) w W) => (by have := ocls_any p g bs 8 ((ta : Nat) : Int) W (HS.out.mat.fr hW id id); rw [hoc] at this; exact this : Calls Try.prog 47 #[.pointer (some ⟨p, 0, none⟩), .int .i64 8, .int .i64 (ta : Nat)] W fun e w' => e = .returned (.tuple #[.int .i64 ((A tc : Nat) : Int), .int .i64 0]) ∧ Fr (fun _ => False) W w'))
      have HX := Lib.hid (fun (W : World) (hW : Fr (fun _ => False) w W) => (by
        have := text_any p g bs ((ta : Nat) + 8 : Int) ((tt.length : Nat) : Int) W (HS.out.mat.fr hW id id) (by omega) (by omega)
        rw [hot] at this
        exact this.mono fun e w' h => ⟨h.1, by rw [h.2]; exact Fr.refl _ _⟩ : Calls Try.prog 52 #[.pointer (some ⟨p, 0, none⟩), .int .i64 ((ta : Nat) + 8 : Int), .int .i64 (tt.length : Nat)] W fun e w' => e = .returned (.tuple #[.string ⟨tt.toArray⟩, .int .i64 0]) ∧ Fr (fun _ => False) W w'))
      obtain ⟨⟨sx, sn, sc⟩, hsr⟩ : ∃ r, osend bs 8 ((ta : Nat) : Int) sel = r := ⟨_, rfl⟩
      obtain ⟨⟨wx, wj, wbo⟩, hwr⟩ : ∃ r, wres (walkN L sel tc) = r := ⟨_, rfl⟩
      have HD := Lib.hid (fun (W : World) (hW : Fr (fun _ => False) w W) => (by have := osend_any p g bs 8 ((ta : Nat) : Int) sel W (HS.out.mat.fr hW id id); rw [hsr] at this; exact this : Calls Try.prog 48 #[.pointer (some ⟨p, 0, none⟩), .int .i64 8, .int .i64 (ta : Nat), .int .i64 sel] W fun e w' => e = .returned (.tuple #[.int .i64 sx, .int .i64 sn, .int .i64 sc]) ∧ Fr (fun _ => False) W w'))
      rw [hwr] at hwlk
      have HWK := Lib.hid hwlk
      have hsw : sn ≤ 5 ∧ ((wbo = true ∧ sx = wx ∧ sc = 0) ∨ (wbo = false ∧ sx = 0 ∧ sc = -2049)) := by
        obtain ⟨m, hm, hsw⟩ := hsend
        rw [hsr] at hsw
        rcases hsw with ⟨xt, j, e1, e2⟩ | ⟨e1, e2⟩
        · rw [e1] at hwr
          simp only [wres, Prod.mk.injEq] at hwr e2
          obtain ⟨rfl, rfl, rfl⟩ := hwr
          obtain ⟨rfl, rfl, rfl⟩ := e2
          exact ⟨hm, .inl ⟨rfl, rfl, rfl⟩⟩
        · rw [e1] at hwr
          simp only [wres, Prod.mk.injEq] at hwr e2
          obtain ⟨rfl, rfl, rfl⟩ := hwr
          obtain ⟨rfl, rfl, rfl⟩ := e2
          exact ⟨by omega, .inr ⟨rfl, rfl, rfl⟩⟩
      have HSW := Lib.hid hsw
      have hts : (ByteArray.mk tt.toArray).size = tt.length := by simp [ByteArray.size]
      have hta : ta ≤ 1048576 ∧ tt.length ≤ 1048576 ∧ ta + 8 + tt.length ≤ 1048576 := by omega
      obtain ⟨wt, hwt⟩ : ∃ wt, wo.alloc (.cells #[.int .i64 (ta : Nat), .int .i64 (tc : Nat), .string ⟨tt.toArray⟩] 95) = wt := ⟨_, rfl⟩
      rw [hwt] at FT b0 b1 b2 q0 q1 q2 q3 q4 hat1 hsl1
      obtain ⟨tb, htb⟩ : ∃ tb, wo.heap.size = tb := ⟨_, rfl⟩
      rw [htb] at b0 b1 b2
      have HFT := Lib.hid FT
      have HTB := Lib.hid htb
      have HWT := Lib.hid hwt
      have HRL := Lib.hid hRL
      have hclt : (tc : Int) < k := by omega
      clear hil ht htm d0 d1 d2 hin hbl hoc hot hF FT htb hwt hoA hoL hne hat hsl hRL htL hwlk hsend hsr hwr hsw hklen
      go_wp2_with fail
      rw [HTB.out, HWT.out]
      clear c0 c1 c2
      go_region_held3 (fun W => W.cell? ⟨wb, 0, none⟩ = some (.pointer (some ⟨p, 0, none⟩)) ∧ W.cell? ⟨wb, 2, none⟩ = some (.int .i64 8) ∧ W.cell? ⟨tb, 0, none⟩ = some (.int .i64 (ta : Nat)) ∧ Fr (fun _ => False) wt W)
        ((go_split_ands; refine (fun hF => ⟨Fr.cell hF q0 id, Fr.cell hF q2 id, Fr.cell hF b0 id, hF⟩ : Fr (fun _ => False) wt _ → _) ?_; repeat' first | exact Fr.refl _ _ | assumption | apply Fr.drew | apply Fr.alloc))
        (first | (go_at_call 47; go_split_ands; (with_reducible refine (HC.out _ ?_).mono ?_); (exact Fr.trans HFT.out (by assumption)); rintro e w4 ⟨rfl, hq⟩; have hq4 : Fr (fun _ => False) wt w4 := Fr.trans (by assumption) hq; clear hq) | fail)
      go_wp2_with fail
      have hwr : IntKind.i64.wrap ((ta : Int) + 8) = (ta : Int) + 8 := wrap_i64_small _ (by omega) (by omega)
      go_region_held3 (fun W => W.cell? ⟨wb, 0, none⟩ = some (.pointer (some ⟨p, 0, none⟩)) ∧ W.cell? ⟨tb, 0, none⟩ = some (.int .i64 (ta : Nat)) ∧ W.cell? ⟨tb, 2, none⟩ = some (.string ⟨tt.toArray⟩) ∧ Fr (fun _ => False) wt W)
        ((go_split_ands; refine (fun hF => ⟨Fr.cell hF q0 id, Fr.cell hF b0 id, Fr.cell hF b2 id, hF⟩ : Fr (fun _ => False) wt _ → _) ?_; repeat' first | exact Fr.refl _ _ | assumption | apply Fr.drew | apply Fr.alloc))
        (first | (go_at_call 52; go_split_ands; (with_reducible refine (HX.out _ ?_).mono ?_); (exact Fr.trans HFT.out (by assumption)); rintro e w5 ⟨rfl, hq⟩; have hq5 : Fr (fun _ => False) wt w5 := Fr.trans (by assumption) hq; clear hq) | fail)
      clear hwr
      have v1 := hq5.cell b1 id
      have v2 := hq5.cell b2 id
      have v3 := hq5.cell q3 id
      have va := hq5.cell hat1 id
      have HQ5 := Lib.hid hq5
      clear hq5 hq4
      go_wp2_with fail
      go_quiet (fail)
      clear v1 v2 v3 va
      have HQ6 := Lib.hid (HQ5.out.drewN nq)
      obtain ⟨w6, hw6⟩ : ∃ w6, w5.drewN nq = w6 := ⟨_, rfl⟩
      rw [hw6] at HQ6
      have HW6 := Lib.hid hw6
      clear hw6
      have hq6 := HQ6.out
      go_wp2_with fail
      rw [HW6.out]
      go_region_held3 (fun W => W.cell? ⟨wb, 0, none⟩ = some (.pointer (some ⟨p, 0, none⟩)) ∧ W.cell? ⟨wb, 2, none⟩ = some (.int .i64 8) ∧ W.cell? ⟨tb, 0, none⟩ = some (.int .i64 (ta : Nat)) ∧ Fr (fun _ => False) wt W)
        ((go_split_ands; refine (fun hF => ⟨Fr.cell hF q0 id, Fr.cell hF q2 id, Fr.cell hF b0 id, hF⟩ : Fr (fun _ => False) wt _ → _) ?_; repeat' first | exact Fr.refl _ _ | assumption | apply Fr.drew | apply Fr.alloc))
        (first | (go_at_call 48; go_split_ands; (with_reducible refine (HD.out _ ?_).mono ?_); (exact Fr.trans HFT.out (by assumption)); rintro e w7 ⟨rfl, hq⟩; have hq7 : Fr (fun _ => False) wt w7 := Fr.trans (by assumption) hq; clear hq) | fail)
      go_wp2_with fail
      go_region_held3 (fun W => W.cell? ⟨wb, 4, none⟩ = some (.slice (some ⟨gL, 0, none⟩) k cL) ∧ W.cell? ⟨tb, 1, none⟩ = some (.int .i64 (tc : Nat)) ∧ Fr (fun _ => False) wt W)
        ((go_split_ands; refine (fun hF => ⟨Fr.cell hF q4 id, Fr.cell hF b1 id, hF⟩ : Fr (fun _ => False) wt _ → _) ?_; repeat' first | exact Fr.refl _ _ | assumption | apply Fr.drew | apply Fr.alloc))
        (first | (go_at_call 36; go_split_ands; (with_reducible refine (HWK.out _ ?_).mono ?_); (exact Fr.trans HFT.out (by assumption)); rintro e w8 ⟨rfl, hq⟩; have hq8 : Fr (fun _ => False) wt w8 := Fr.trans (by assumption) hq; clear hq) | fail)
      have v1 := hq8.cell b1 id
      have v4 := hq8.cell q4 id
      have vl := hq8.cell hsl1 id
      have HQ8 := Lib.hid hq8
      clear hq6 hq7 hq8
      go_wp2_with fail
      obtain ⟨hsn, hsw⟩ := HSW.out
      have hsn' : ¬ (5 : Int) < sn := by omega
      have hsd : decide ((5 : Int) < sn) = false := decide_eq_false hsn'
      rcases hsw with ⟨rfl, rfl, rfl⟩ | ⟨rfl, rfl, rfl⟩
      all_goals
        go_quiet (fail)
        clear v1 v4 vl
        have HQ9 := Lib.hid (HQ8.out.drewN nq)
        obtain ⟨w9, hw9⟩ : ∃ w9, w8.drewN nq = w9 := ⟨_, rfl⟩
        rw [hw9] at HQ9
        have HW9 := Lib.hid hw9
        clear hw9
        go_wp2_with fail
        rw [HW9.out]
        go_loopw [147] (fun jv wj => ∃ j : Nat, j ≤ i ∧ jv = .int .i64 j ∧ Fr (fun _ => False) w9 wj) (fun jv _ => i - (intOf jv).toNat)
        case atStart => exact ⟨0, Nat.zero_le _, rfl, Fr.refl _ _⟩
        case round =>
          obtain ⟨j, hj, rfl, hG⟩ := hrel
          have HG := Lib.hid hG
          by_cases hlj : j < i
          · have hjl : j < T.length := by rw [HN.out]; omega
            obtain ⟨u, hu⟩ : ∃ u, T[j]? = some u := ⟨_, List.getElem?_eq_getElem hjl⟩
            obtain ⟨e0, e1, e2⟩ := HT.out j u hu
            have hF2 := HFT.out.trans (HQ9.out.trans hG)
            have c0 := hF2.cell e0 id
            have c1 := hF2.cell e1 id
            have c2 := hF2.cell e2 id
            have hap := HST.out.apart j i u _ hlj hu HTI.out
            have hui := HST.out.inside (List.mem_of_getElem? hu)
            have hbl := HST.out.cst.big
            obtain ⟨⟨ua, uc, ut⟩, hue⟩ : ∃ t', u = t' := ⟨_, rfl⟩
            subst hue
            dsimp only at c0 c1 c2 hap hui
            have y0 := ((HQ9.out.trans hG).alloc (.cells #[.int .i64 (ua : Nat), .int .i64 (uc : Nat), .string ⟨ut.toArray⟩] 95)).cell b0 id
            have y2 := ((HQ9.out.trans hG).alloc (.cells #[.int .i64 (ua : Nat), .int .i64 (uc : Nat), .string ⟨ut.toArray⟩] 95)).cell b2 id
            have HG2 := Lib.hid (hG.alloc (.cells #[.int .i64 (ua : Nat), .int .i64 (uc : Nat), .string ⟨ut.toArray⟩] 95))
            have hus : (ByteArray.mk ut.toArray).size = ut.length := by simp [ByteArray.size]
            have hub : ua ≤ 1048576 ∧ ut.length ≤ 1048576 := by omega
            clear hjl hu e0 e1 e2 hF2 hbl hui hG
            by_cases hc1 : (ta : Int) < (ua : Int) + 8 + (ut.length : Nat)
            · have hc2 : ¬ (ua : Int) < (ta : Int) + 8 + (tt.length : Nat) := by omega
              have hd1 : decide ((ta : Int) < (ua : Int) + 8 + (ut.length : Nat)) = true := decide_eq_true hc1
              have hd2 : decide ((ua : Int) < (ta : Int) + 8 + (tt.length : Nat)) = false := decide_eq_false hc2
              clear hap
              go_wp2_with fail
              go_roundw
              case rel => exact ⟨j + 1, by omega, by go_num, HG2.out⟩
              case measure => simp [intOf]; omega
            · have hd1 : decide ((ta : Int) < (ua : Int) + 8 + (ut.length : Nat)) = false := decide_eq_false hc1
              clear hap
              go_wp2_with fail
              go_roundw
              case rel => exact ⟨j + 1, by omega, by go_num, HG2.out⟩
              case measure => simp [intOf]; omega
          · obtain rfl : i = j := by omega
            clear hG
            go_wp2_with fail
            go_roundw
            case rel => exact ⟨i + 1, by omega, by go_num, HFT.out.trans (HQ9.out.trans HG.out)⟩
            case measure => simp [intOf]; omega
    · have hke : i = n := by omega
      subst hke
      go_wp2_with fail
      go_ret
      exact ⟨rfl, HF.out⟩
end Go.Proofs.Ytajeiccfgnpbpaa.Mem
