/- The statement IfaceKeeps: its walk, where there are few selectors. -/
import Derived.Test.YtajeiccfgnpbpaaIfkP
import Derived.Test.YtajeiccfgnpbpaaIfcL
import Derived.Deep.AppendLies
namespace Go.Proofs.Ytajeiccfgnpbpaa.Mem
open Go.RowKit

theorem infoSl : (Try.prog.info? 36).map (fun i => (i.zero, i.size, i.bytes)) = some (some (.slice none 0 0), 1, 24) := by kernel_rfl

/-- What holds at a round's head. -/
def Ifk (w : World) (B b p g z j : Nat) (vA vK : Value) (wr : World) : Prop :=
  ∃ (x : Nat) (bs : List UInt8) (K : List (Nat × Value × List Int)), Sat wr b p g 0 z x bs ∧ bs.length = z ∧ x % 8 = 0 ∧ Laid bs x K ∧ Two wr B vA vK K ∧ B ≤ wr.heap.size ∧ (∀ r ∈ K, Ints w (fun k => w.heap.size ≤ k) r.2.1 r.2.2) ∧ K.length ≤ j ∧ Fr (fun _ => False) w wr

/-- The two lists behind one more entry. -/
theorem two_app {W w1 w2 : World} {B gA cA gK cK x : Nat} {vA vK u : Value} {l : List Int} {K : List (Nat × Value × List Int)} {o1 o2 : Obj} (h : Two W B vA vK K) (hB : B ≤ W.heap.size)
    (ho1 : w1.ownsRow B 2 1 (.slice (some ⟨gA, 0, none⟩) (K.length + 1) cA) (K.length + 1) ((K.map fun r => Value.int .i64 (r.1 : Int)) ++ [.int .i64 (x : Int)])) (hg1 : (W.alloc o1).grownBy w1 vA.ownBlock) (hd1 : vA.ownBlock = some gA ∨ gA = W.heap.size + 1) (hl1 : gA < w1.heap.size)
    (ho2 : w2.ownsRow B 36 1 (.slice (some ⟨gK, 0, none⟩) (K.length + 1) cK) (K.length + 1) ((K.map fun r => r.2.1) ++ [u])) (hg2 : (w1.alloc o2).grownBy w2 vK.ownBlock) (hd2 : vK.ownBlock = some gK ∨ gK = w1.heap.size + 1) :
    Two w2 B (.slice (some ⟨gA, 0, none⟩) (K.length + 1) cA) (.slice (some ⟨gK, 0, none⟩) (K.length + 1) cK) (K ++ [(x, u, l)]) ∧ Fr (fun k => B ≤ k) W w2 := by
  have hs0 : W.heap.size + 1 ≤ w1.heap.size := by have := hg1.size; simpa using this
  have F1 : Fr (fun k => B ≤ k) W w1 := Fr.grown ((Fr.refl _ _).alloc _) hg1 (fun k hk => .inr (h.at_.lt k hk).1)
  have F2 : Fr (fun k => vK.ownBlock = some k) w1 w2 := Fr.grown ((Fr.refl _ _).alloc _) hg2 (fun k hk => .inr hk)
  refine ⟨⟨?_, ?_, ?_⟩, F1.trans (F2.mono fun k _ e => (h.kept.lt k e).1)⟩
  · have := F2.owns ho1 (fun k hk => by
      simp only [Value.ownBlock, Option.some.injEq] at hk
      subst hk
      rcases hd1 with e | rfl
      · exact h.ne _ e
      · intro e2
        have := (h.kept.lt _ e2).2
        omega)
    simpa using this
  · simpa using ho2
  · intro k hk hk2
    simp only [Value.ownBlock, Option.some.injEq] at hk hk2
    subst hk
    subst hk2
    rcases hd2 with e | e
    · rcases hd1 with e1 | rfl
      · exact h.ne _ e1 e
      · have := (h.kept.lt _ e).2
        omega
    · omega

set_option maxRecDepth 100000 in
set_option maxHeartbeats 4000000 in
theorem keepsLoop_any (a : Option Addr) (n c : Nat) (V : Nat → Value) (L : Nat → List Int) (r : Nat) (w : World) (h : IsRows w a n V L) (ht : tot L n ≤ 1000) (hr : r ≤ 65535) :
    Calls Try.prog 5 #[.slice a n c, .int .u16 r] w fun e w' => e = .returned (.bool true) ∧ Fr (fun _ => False) w w' := by
  obtain ⟨i0, hi, hz0, hz1, hz2⟩ := info_parts infoI64'
  have HI := Lib.hid hi
  have HZ := Lib.hid (And.intro hz0 (And.intro hz1 hz2))
  obtain ⟨i1, hi1, hy0, hy1, hy2⟩ := info_parts infoSl
  have HI1 := Lib.hid hi1
  have HY := Lib.hid (And.intro hy0 (And.intro hy1 hy2))
  have hn : n ≤ 1000 := Nat.le_trans (tot_ge L n) ht
  have HT := Lib.hid ht
  clear hi hz0 hz1 hz2 hi1 hy0 hy1 hy2 ht
  go_enter Try.func5, Try.ntmps5
  go_wp2_with fail
  go_loop [5, 37] (fun v iv => ∃ k : Nat, k ≤ n ∧ iv = .int .i64 k ∧ v = .int .i64 (tot L k : Nat)) (fun _ iv => n - (intOf iv).toNat)
  case atStart => exact ⟨0, Nat.zero_le _, rfl, rfl⟩
  case round =>
    obtain ⟨k, hk, rfl, rfl⟩ := hrel
    by_cases hlt : k < n
    · obtain ⟨bb, o, rfl, hbb, hc⟩ := h.resolve_left (by omega)
      obtain ⟨hc1, o2, c2, hv2, _, _⟩ := hc k hlt
      have hts : tot L (k + 1) = tot L k + (1 + (L k).length) := rfl
      have htk : tot L (k + 1) ≤ 1000 := Nat.le_trans (tot_le L (by omega)) HT.out
      rw [hts] at htk
      rw [hv2] at hc1
      obtain ⟨m, hm⟩ : ∃ m, (L k).length = m := ⟨_, rfl⟩
      obtain ⟨T, hT⟩ : ∃ T, tot L k = T := ⟨_, rfl⟩
      rw [hm] at hc1 htk hts
      rw [hT] at htk hts ⊢
      have HTS := Lib.hid hts
      clear hc hv2 hm hts hT
      go_wp2_with fail
      go_round
      case rel => exact ⟨k + 1, by omega, by go_num, by rw [HTS.out]; go_num⟩
      case measure => simp [intOf]; omega
    · obtain rfl : n = k := by omega
      obtain ⟨T, hT⟩ : ∃ T, tot L n = T := ⟨_, rfl⟩
      have hT1 : T ≤ 1000 := by rw [← hT]; exact HT.out
      rw [hT]
      clear hT
      have d1 : decide ((1000 : Int) < (T : Int)) = false := by simp; omega
      go_wp2_with fail
      refine (lives12_any w).mono ?_
      rintro e w1 ⟨rfl, hf⟩
      have F1 := Lib.hid hf
      clear hf
      go_wp2_with fail
      obtain ⟨z, hz⟩ : ∃ z : Nat, (r : Int) % 4096 / 8 * 8 = z := ⟨r % 4096 / 8 * 8, by omega⟩
      have hz1 : z ≤ 4096 := by omega
      have hz8 : z % 8 = 0 := by omega
      rw [hz]
      clear hz
      refine (new_ok z _ (by omega) (by omega)).mono ?_
      rintro e w2 ⟨rfl, hm, hf⟩
      have M2 := Lib.hid hm
      have F2 := Lib.hid (F1.out.trans hf)
      have hg0 : w.heap.size ≤ w1.heap.size := F1.out.size
      obtain ⟨g, hg⟩ : ∃ g, w1.heap.size = g := ⟨_, rfl⟩
      rw [hg] at M2 hg0 ⊢
      clear hm hf hg
      go_wp2_with fail
      refine (snew_ok (g + 1) g 0 z _ _ M2.out (by omega) (by simp)).mono ?_
      rintro e w3 ⟨rfl, hs, hf⟩
      have S3 := Lib.hid hs
      have F3 := Lib.hid (F2.out.trans hf)
      have hb0 : w.heap.size ≤ w2.heap.size := F2.out.size
      have hB := hs.lt
      obtain ⟨b, hb⟩ : ∃ b, w2.heap.size = b := ⟨_, rfl⟩
      rw [hb] at S3 hb0 hB ⊢
      obtain ⟨B, hBB⟩ : ∃ B, w3.heap.size = B := ⟨_, rfl⟩
      have HBB := Lib.hid hBB
      rw [hBB] at hB
      have HL0 := Lib.hid (show Ifk w B b (g + 1) g z 0 (.slice none 0 0) (.slice none 0 0) w3 from ⟨0, _, [], S3.out, by simp, rfl, fun r hr => by simp at hr, ⟨World.ownsRow_nil _ _ _ _, World.ownsRow_nil _ _ _ _, fun k hk => by simp [Value.ownBlock] at hk⟩, by rw [hBB]; exact Nat.le_refl _, fun r hr => by simp at hr, Nat.le_refl _, F3.out⟩)
      clear hs hf hb hBB
      go_wp2_with fail
      go_loopw [13, 14, 74] (fun a1 a2 iv wr => ∃ (vA vK : Value) (j : Nat), vA = a1 ∧ vK = a2 ∧ j ≤ n ∧ iv = .int .i64 j ∧ Ifk w B b (g + 1) g z j vA vK wr) (fun _ _ iv _ => n - (intOf iv).toNat)
      case atStart => exact ⟨_, _, 0, rfl, rfl, Nat.zero_le _, rfl, HL0.out⟩
      case round =>
        obtain ⟨vA, vK, j, rfl, rfl, hj, rfl, x, bs, K, hS, hlen, hx8, hLa, hTw, hBs, hIn, hKj, hF⟩ := hrel
        have HS := Lib.hid hS
        have HLEN := Lib.hid hlen
        have HX8 := Lib.hid hx8
        have HLA := Lib.hid hLa
        have HTW := Lib.hid hTw
        have HBS := Lib.hid hBs
        have HIN := Lib.hid hIn
        have HF := Lib.hid hF
        have hxz : x ≤ z := hS.bd.2.1
        clear hS hlen hx8 hLa hTw hBs hIn hF
        by_cases hjn : j < n
        · obtain ⟨bb, o, rfl, hbb, hc⟩ := h.resolve_left (by omega)
          obtain ⟨hc1, hints⟩ := hc j hjn
          obtain ⟨o2, c2, hv2, hbnd, _⟩ := id hints
          have hml : (L j).length < tot L n := tot_len L hjn
          have hm1000 : (L j).length < 1000 := Nat.lt_of_lt_of_le hml HT.out
          have hcw := HF.out.cell hc1 id
          have HINT := Lib.hid ((hints.fr HF.out (fun _ _ e => e.elim)).mono (T := fun k => k = b ∨ k = g) (fun k e => by omega))
          have HINT0 := Lib.hid hints
          rw [hv2] at hcw HINT HINT0
          have HH := Lib.hid (here_any b (g + 1) g 0 z x bs wr HS.out)
          have hin := inew_any b (g + 1) g 0 z x bs _ (L j) wr HS.out HX8.out HINT.out (by omega)
          by_cases hfit : x + 8 * ((L j).length + 1) ≤ z
          · obtain ⟨bs', hnew, hl', hc', hn', hs'⟩ := inewv_fit z x bs (L j) (by rw [HLEN.out]; exact Nat.le_refl _) hbnd (by omega) hfit
            rw [hnew] at hin
            have HNEW := Lib.hid hin
            have HL' := Lib.hid hl'
            have HLA' := Lib.hid ((HLA.out.keep (y := x + 8 * ((L j).length + 1)) (Nat.le_add_right _ _) hc').snoc (v := .slice o2 (L j).length c2) HX8.out (Nat.le_refl _) hn' hs')
            obtain ⟨m, hm⟩ : ∃ m, (L j).length = m := ⟨_, rfl⟩
            rw [hm] at hcw hfit HNEW HLA' hm1000
            rw [hm] at HINT0
            have HM := Lib.hid hm
            have d1 : decide ((x : Int) + 8 * ((m : Int) + 1) ≤ (z : Int)) = true := by simp; omega
            clear hc hc1 hints hv2 hbnd hml hin hnew hl' hc' hn' hs' hm
            go_wp2_with fail
            refine HH.out.mono ?_
            rintro e w' ⟨rfl, h0⟩
            obtain rfl := h0.symm
            go_wp2_with fail
            refine HNEW.out.mono ?_
            rintro e w4 ⟨rfl, hs, hf⟩
            have S4 := Lib.hid hs
            have T4 := Lib.hid (HTW.out.fr hf (fun k hk => by omega))
            have F4 := Lib.hid (HF.out.after hf (S := fun _ => False) (fun k hk e => by omega))
            have B4 := Lib.hid (Nat.le_trans HBS.out hf.size)
            have hKl : K.length ≤ 1000 := by omega
            obtain ⟨q, hq⟩ : ∃ q, K.length = q := ⟨_, rfl⟩
            have HQ := Lib.hid hq
            have hA := T4.out.at_
            have hK := T4.out.kept
            rw [hq] at hA hK hKl
            have HA := Lib.hid hA
            have HK := Lib.hid hK
            clear hs hf hq hA hK
            go_wp2_with (first | (at_builtin; refine wpList_append_lies _ rfl (.tmp 125) (.tmp 127) 36 rfl B 2 i0 _ 1 8 Try.underlying36 HI.out HZ.out.1 HZ.out.2.1 HZ.out.2.2 rfl (by decide) vA q _ rfl (HA.out.alloc _) ⟨_, 0, none⟩ 1 1 [.int .i64 (x : Int)] rfl rfl (cell_one_new' _ _ _) (by simp [Value.oneCell']) (by decide) (by unfold maxLen; omega) (by omega) (by have := B4.out; simp; omega) (w4.heap.size + 1) (by simp) ?_; intro gA cA w5 ho1 hg1 hd1 hl1; have HO1 := Lib.hid ho1; have HG1 := Lib.hid hg1; have HD1 := Lib.hid hd1; have HL1 := Lib.hid hl1; have HK5 := Lib.hid ((Fr.grown (S := fun k => vA.ownBlock = some k) ((Fr.refl _ _).alloc _) hg1 (fun k hk => .inr hk)).owns HK.out (fun k hk e => T4.out.ne k e hk)); have HS5 := Lib.hid hg1.size; clear ho1 hg1 hd1 hl1) | (at_builtin; refine wpList_append_lies _ rfl (.tmp 129) (.tmp 131) 62 rfl B 36 i1 _ 1 24 Try.underlying62 HI1.out HY.out.1 HY.out.2.1 HY.out.2.2 rfl (by decide) vK q _ rfl (HK5.out.alloc _) ⟨_, 0, none⟩ 1 1 [.slice o2 m c2] rfl rfl (cell_one_new' _ _ _) (by simp [Value.oneCell']) (by decide) (by unfold maxLen; omega) (by omega) (by have := B4.out; have := HS5.out; simp at this ⊢; omega) (w5.heap.size + 1) (by simp) ?_; intro gK cK w6 ho2 hg2 hd2 hl2; have HO2 := Lib.hid ho2; have HG2 := Lib.hid hg2; have HD2 := Lib.hid hd2; clear ho2 hg2 hd2 hl2))
            go_roundw
            case rel =>
              have hq := HQ.out
              have ho1 := HO1.out
              have ho2 := HO2.out
              rw [← hq] at ho1 ho2 ⊢
              obtain ⟨hT6, hF6⟩ := two_app (l := L j) T4.out B4.out ho1 HG1.out HD1.out HL1.out ho2 HG2.out HD2.out
              refine ⟨_, _, j + 1, rfl, rfl, by omega, by go_num, x + 8 * (m + 1), _, K ++ [(x, .slice o2 m c2, L j)], S4.out.fr hF6 (by omega) (by omega) (by omega), by rw [HL'.out, HLEN.out], by have := HX8.out; omega, HLA'.out, hT6, Nat.le_trans B4.out hF6.size, fun r hr => ?_, by simp; omega, F4.out.after hF6 (fun k hk e => by omega)⟩
              rcases List.mem_append.1 hr with hr | hr
              · exact HIN.out r hr
              · obtain rfl : r = (x, .slice o2 m c2, L j) := by simpa using hr
                exact HINT0.out
            case measure => simp [intOf]; omega
          · obtain ⟨bs', hnew, hl', hc'⟩ := inewv_full z x bs (L j) (by rw [HLEN.out]; exact Nat.le_refl _) hxz hbnd (by omega) hfit
            rw [hnew] at hin
            have HNEW := Lib.hid hin
            have HL' := Lib.hid hl'
            have HLA' := Lib.hid (HLA.out.keep (y := x) (Nat.le_refl _) hc')
            obtain ⟨m, hm⟩ : ∃ m, (L j).length = m := ⟨_, rfl⟩
            rw [hm] at hcw hfit HNEW hm1000
            have d1 : decide ((x : Int) + 8 * ((m : Int) + 1) ≤ (z : Int)) = false := by simp; omega
            clear hc hc1 hints hv2 hbnd hml hin hnew hl' hc' hm
            go_wp2_with fail
            refine HH.out.mono ?_
            rintro e w' ⟨rfl, h0⟩
            obtain rfl := h0.symm
            go_wp2_with fail
            refine HNEW.out.mono ?_
            rintro e w4 ⟨rfl, hs, hf⟩
            have S4 := Lib.hid hs
            have T4 := Lib.hid (HTW.out.fr hf (fun k hk => by omega))
            have F4 := Lib.hid (HF.out.after hf (S := fun _ => False) (fun k hk e => by omega))
            have B4 := Lib.hid (Nat.le_trans HBS.out hf.size)
            have HH4 := Lib.hid (here_any b (g + 1) g 0 z x bs' w4 hs)
            clear hs hf
            go_wp2_with fail
            refine HH4.out.mono ?_
            rintro e w' ⟨rfl, h0⟩
            obtain rfl := h0.symm
            go_wp2_with fail
            go_roundw
            case rel => exact ⟨_, _, j + 1, rfl, rfl, by omega, by go_num, x, _, K, S4.out, by rw [HL'.out, HLEN.out], HX8.out, HLA'.out, T4.out, B4.out, HIN.out, by omega, F4.out⟩
            case measure => simp [intOf]; omega
        · obtain rfl : n = j := by omega
          obtain ⟨o1, c1, rfl, _, _, hn1, hb1⟩ := owns_form HTW.out.at_
          obtain ⟨o2, c2, rfl, _, _, hn2, hb2⟩ := owns_form HTW.out.kept
          have HA := Lib.hid (owns_holds HTW.out.at_)
          have HK := Lib.hid (owns_holds HTW.out.kept)
          have HN1 := Lib.hid (fun h => owns_some HTW.out.at_ h)
          have HN2 := Lib.hid (fun h => owns_some HTW.out.kept h)
          have HSL := Lib.hid (fun (q m : Nat) (W : World) h8 hin hv hn (hW : Fr (fun _ => False) wr W) => sels_ok (g + 1) g q m bs W (HS.out.mat.fr hW id id) h8 hin hv hn)
          have HGET := Lib.hid (fun q v l hm => HLA.out.get (z := z) hxz HLEN.out hz1 (q := q) (v := v) (l := l) hm)
          obtain ⟨m, hm⟩ : ∃ m, K.length = m := ⟨_, rfl⟩
          have HM := Lib.hid hm
          rw [hm] at hKj HN1 HN2 ⊢
          have hml : m ≤ 1000 := Nat.le_trans hKj hn
          clear hn1 hn2 hb1 hb2 hm hxz
          obtain ⟨wo, hwo⟩ : ∃ wo, wo = wr := ⟨_, rfl⟩
          subst hwo
          go_wp2_with fail
          go_loopw [136] (fun iv ws => ∃ k : Nat, k ≤ m ∧ iv = .int .i64 k ∧ Fr (fun _ => False) wo ws) (fun iv _ => m - (intOf iv).toNat)
          case atStart => exact ⟨0, Nat.zero_le _, rfl, Fr.refl _ _⟩
          case round =>
            obtain ⟨k, hk, rfl, hG⟩ := hrel
            have HG := Lib.hid hG
            clear hG
            by_cases hkm : k < m
            · obtain ⟨gA, rfl⟩ := HN1.out (Nat.lt_of_le_of_lt (Nat.zero_le _) hkm)
              obtain ⟨gK, rfl⟩ := HN2.out (Nat.lt_of_le_of_lt (Nat.zero_le _) hkm)
              have hkl : k < K.length := by rw [HM.out]; exact hkm
              obtain ⟨⟨q, v, l⟩, hq⟩ : ∃ r, K[k] = r := ⟨_, rfl⟩
              have hmem : (q, v, l) ∈ K := by rw [← hq]; exact List.getElem_mem _
              have hca := HA.out ⟨gA, 0, none⟩ rfl k (.int .i64 (q : Int)) (by simp [List.getElem?_eq_getElem hkl, hq])
              have hck := HK.out ⟨gK, 0, none⟩ rfl k v (by simp [List.getElem?_eq_getElem hkl, hq])
              rw [addr_add'] at hca hck
              obtain ⟨l1, l2, l3, l5, l4⟩ := HGET.out q v l hmem
              have ra := HG.out.cell hca id
              have HSS := Lib.hid (HSL.out q l.length wr l1 l2 l3 l5 HG.out)
              obtain ⟨ov, cv, hv, hbnd, hcells⟩ := HIN.out _ hmem
              dsimp only at hv hbnd hcells
              subst hv
              have HI0 := Lib.hid (show Ints w (fun k => w.heap.size ≤ k) (.slice ov l.length cv) l from ⟨_, _, rfl, hbnd, hcells⟩)
              have HB := Lib.hid (show ∀ n ∈ l, InI64 n from hbnd)
              have HCK := Lib.hid hck
              have HL4 := Lib.hid l4
              have HL5 := Lib.hid l5
              obtain ⟨wk, hwk⟩ : ∃ wk, wk = wr := ⟨_, rfl⟩
              subst hwk
              have hgw : ∀ W, Fr (fun _ => False) w W → ¬ w.heap.size ≤ wk.heap.size → False := fun W _ h => h (Nat.le_trans HF.out.size HG.out.size)
              have HGW := Lib.hid hgw
              clear hq hmem hca hck l1 l2 l3 l4 l5 hbnd hcells hkl hgw
              go_wp2_with fail
              refine HSS.out.mono ?_
              rintro e ws ⟨rfl, hrow, hf⟩
              have HG2 := Lib.hid (HG.out.trans hf)
              have HE := Lib.hid (fun W (hW : Fr (fun _ => False) ws W) => equalI_any _ _ l (fun _ => False) (fun k => w.heap.size ≤ k) W ((row_ints (S := fun _ => False) hrow HB.out id HL4.out).fr hW (fun _ _ e => e)) (HI0.out.fr ((HF.out.trans HG2.out).trans hW) (fun _ _ e => e.elim)) (Nat.le_trans HL5.out (by decide)))
              have rk := HG2.out.cell HCK.out id
              have hk0 : (0 : Int) ≤ (k : Int) := Int.natCast_nonneg k
              have hkm2 : (k : Int) < (m : Int) := Int.ofNat_lt.2 hkm
              clear hrow hf
              go_wp2_with fail
              refine (HE.out _ (Fr.refl _ _)).mono ?_
              rintro e wt ⟨rfl, hf⟩
              have HG3 := Lib.hid (HG2.out.trans hf)
              clear hf
              go_wp2_with fail
              go_roundw
              case rel => exact ⟨k + 1, hkm, by go_num, HG3.out⟩
              case measure => simp [intOf]; omega
            · obtain rfl : m = k := Nat.le_antisymm (Nat.not_lt.1 hkm) hk
              have hmk : ∀ W, (Instr.makeSlice 36 (.int .i64 1025) (.int .i64 1025)).run Try.prog W = .ok (.slice (some ⟨W.heap.size, 0, none⟩) 1025 1025) (W.alloc (.cells (madeCells #[.int .i64 0] 1025) 2)) :=
                run_make_row' (P := Try.prog) 36 2 (.int .i64 0) 8 Try.underlying36 (by kernel_rfl) rfl .i64 .i64 1025 (by decide) (by decide)
              obtain ⟨mc, hmc⟩ : ∃ mc, madeCells #[.int .i64 0] 1025 = mc := ⟨_, rfl⟩
              rw [hmc] at hmk
              have HS3 := Lib.hid (fun W (hW : Fr (fun _ => False) wo W) => sels_bad (g + 1) g 3 bs W (HS.out.mat.fr hW id id) (cell_three bs))
              have HSZ := Lib.hid (fun W (hW : Fr (fun _ => False) wo W) => sels_bad (g + 1) g z bs W (HS.out.mat.fr hW id id) (cell_end HLEN.out))
              have HMB := Lib.hid (fun W (hW : Fr (fun _ => False) wo W) => missing_bad (g + 1) g 3 0 bs W (HS.out.mat.fr hW id id) (cell_three bs))
              have HNM := Lib.hid (fun o W (hW : Fr (fun _ => False) wo W) => inew_many b _ _ _ o 1025 1025 W (hW.obj HS.out.2.2.1 id) (by decide))
              clear hmc
              go_wp2_with fail
              refine (HS3.out _ HG.out).mono ?_
              rintro e w' ⟨rfl, h0⟩
              obtain rfl := h0.symm
              go_wp2_with fail
              refine (HSZ.out _ HG.out).mono ?_
              rintro e w' ⟨rfl, h0⟩
              obtain rfl := h0.symm
              go_wp2_with fail
              refine (inew_nil _ _).mono ?_
              rintro e w' ⟨rfl, h0⟩
              obtain rfl := h0.symm
              go_wp2_with fail
              refine (HNM.out _ _ (HG.out.alloc _)).mono ?_
              rintro e w' ⟨rfl, h0⟩
              obtain rfl := h0.symm
              go_wp2_with fail
              refine (HMB.out _ (HG.out.alloc _)).mono ?_
              rintro e w' ⟨rfl, h0⟩
              obtain rfl := h0.symm
              go_wp2_with fail
              go_ret
              exact ⟨rfl, HF.out.trans (HG.out.alloc _)⟩
end Go.Proofs.Ytajeiccfgnpbpaa.Mem
