/- The statement ObjectSends: a round of its walk: an object is freed. -/
import Derived.Test.YtajeiccfgnpbpaaQo
import Derived.BigRegion
import Derived.RegionTactic
import Derived.Maps.OwnSet
import Derived.Test.YtajeiccfgnpbpaaQq
set_option linter.unusedSimpArgs false
set_option linter.unusedVariables false

namespace Go.Proofs.Ytajeiccfgnpbpaa.Mem
open Go.RowKit
attribute [local go_sem ↓] Go.wp_at_zero Go.wp_at_succ

set_option maxRecDepth 1000000 in
set_option maxHeartbeats 16000000 in
theorem os_free : OsRoundT (fun T => T ≠ []) (fun kind k => kind % 7 = 5 ∧ k ≠ 0) := by
  intro w wr wb B p g b hb mb j n bb o c q vT k A L l T bs x nn U c0 c1 c5 c21 c22 c23 c24 c25 c26 c27 c28 c29 c30 c31 c32 c33 c34 c35 c36 c37 c38 c39 c40 c41 c42 c43 c44 c45 c46 c47 c48 u2 u8 u9 u10 u11 u12 u13 u14 u15 u16 u17 u18 u19 u20 u52 u53 u54 u55 u56 u57 u58 u59 u60 u61 u62 u63 u64 u65 u66 u67 u68 u69 u70 u71 u72 u73 u74 u75 u76 u77 u78 u79 u80 u81 u82 u83 u84 u85 u86 u87 u88 u89 u90 u91 u92 u93 u94 u95 u96 u97 u98 u99 u100 u101 u102 u103 u104 u105 u106 u107 u108 u109 u110 u111 u112 u113 u114 u115 u116 u117 u118 u119 u120 u121 u122 u123 u124 u125 u126 u127 u128 u129 u130 u131 u132 u133 u134 u135 u136 u137 u138 u139 u140 u141 u142 u143 u144 u145 u146 u147 u148 u149 u150 u151 u152 u153 u154 u155 u156 u157 u158 u159 u160 u161 u162 u163 u164 u165 u166 u167 u168 u169 u170 u171 u172 u173 u174 u175 u176 u177 u178 u179 u180 u181 u182 u183 u184 u185 u186 u187 u188 u189 u190 u191 u192 u193 u194 u195 u196 u197 u198 u199 u200 u201 u202 u203 u204 u205 u206 u207 u208 u209 u210 u211 u212 u213 u214 u215 u216 u217 u218 u219 u220 u221 u222 u223 u224 u225 u226 u227 u228 u229 u230 u231 u232 u233 u234 u235 u236 u237 u238 u239 u240 u241 u242 u243 u244 u245 u246 u247 u248 u249 u250 u251 u252 u253 u254 u255 u256 u257 u258 u259 u260 u261 u262 u263 u264 u265 u266 u267 u268 u269 u270 u271 u272 u273 u274 u275 u276 u277 u278 u279 u280 u281 u282 u283 u284 u285 u286 u287 u288 u289 u290 u291 u292 u293 u294 u295 u296 u297 u298 u299 u300 u301 u302 u303 u304 u305 u306 u307 u308 u309 u310 u311 u312 u313 u314 u315 u316 u317 u318 u319 u320 u321 u322 u323 u324 u325 u326 u327 Q hx hi hkind hT0 hQ
  have HQ := Lib.hid hQ
  clear hQ
  try dsimp only at hkind
  obtain ⟨qk, qp, qc, qs, qx⟩ := q
  obtain ⟨hW, hh, hmp, hin, hoT, ⟨hkj, hnj, hTj⟩, hfew, hx0, hF, hact, hok, ⟨hlt, hn⟩⟩ := hi
  obtain ⟨d0, d1, d2, d3, d4⟩ := hact
  unfold ActS.ok at hok
  try dsimp only at hkind
  dsimp only at d0 d1 d2 d3 d4 hok
  obtain ⟨k1, k2, k3, k4, k5⟩ := hok
  have HX := Lib.hid hx
  have HIN := Lib.hid hin
  have HFEW := Lib.hid hfew
  have HX0 := Lib.hid hx0
  have HF := Lib.hid hF
  have fA := (Fr.refl (fun _ => False) wr).alloc (.cells #[.int .u8 qk, .int .u8 qp, .int .u8 qc, .int .u8 qs, .int .u8 qx] 87)
  have OAC := heap_alloc_last wr (.cells #[.int .u8 qk, .int .u8 qp, .int .u8 qc, .int .u8 qs, .int .u8 qx] 87)
  obtain ⟨wA, hwA⟩ : ∃ wA, wr.alloc (.cells #[.int .u8 qk, .int .u8 qp, .int .u8 qc, .int .u8 qs, .int .u8 qx] 87) = wA := ⟨_, rfl⟩
  rw [hwA] at fA OAC
  obtain ⟨ab, hab⟩ : ∃ ab, wr.heap.size = ab := ⟨_, rfl⟩
  rw [hab] at OAC
  have HAB := Lib.hid hab
  have HWA := Lib.hid hwA
  have HOAC := Lib.hid OAC
  have HW2 := Lib.hid (hW.old fA ⟨id, id, id, id⟩ (fun _ _ _ e => e.elim))
  have HH2 := Lib.hid (show Heap wA hb p 16384 32768 from fA.obj hh id)
  have HM2 := Lib.hid (hmp.fr fA id)
  have HO2 := Lib.hid (fA.owns hoT (fun _ _ => id))
  have HF2 := Lib.hid (hF.trans fA)
  have HS2 := Lib.hid (show B ≤ wA.heap.size from by have h1 := HM2.out.lt; have h2 := hx.mB; omega)
  have HLT := Lib.hid (show wb < ab ∧ b < ab ∧ g < ab ∧ hb < ab ∧ mb < ab ∧ B ≤ ab from by
    rw [← hab]
    have h1 := hmp.lt
    have h2 := hx.mB
    have h3 := hx.lt
    have h4 := hx.hd
    omega)
  clear fA OAC hwA hab hW hh hmp hin hoT hfew hx0 hF hx
  obtain ⟨hkind, hk0⟩ := hkind
  have e0 : ((qk : Int) % 7 == 0) = false := by simp; omega
  have e1 : ((qk : Int) % 7 == 1) = false := by simp; omega
  have e6 : ((qk : Int) % 7 == 6) = false := by simp; omega
  have el : decide ((qk : Int) % 7 < 4) = false := by simp; omega
  have e4 : ((qk : Int) % 7 == 4) = false := by simp; omega
  have e3 : ((qk : Int) % 7 == 3) = false := by simp; omega
  have hkn : ((k : Int) == 0) = false := by simp; omega
  have hkz : ¬ (k : Int) = 0 := by omega
  obtain ⟨vs, vA, vL, hob, hs, hst, hone, hown, hv⟩ := HW2.out
  obtain ⟨hkp, gA, cA, gL, cL, rfl, rfl, hne, hoA, hoL⟩ := hv.resolve_left (by omega)
  obtain ⟨q0, q1, q2, q3, q4, z0, z1, z2, z3, z4, _⟩ := five_cells hob
  obtain ⟨a0, a1, a2, a3, a4, _, _, _, _, _, _⟩ := five_cells HOAC.out
  obtain ⟨cq, hcq⟩ : ∃ cq : Nat, (qc : Int).tmod (k : Int) = cq := ⟨qc % k, by rw [Int.tmod_eq_emod_of_nonneg (by omega), Int.natCast_emod]⟩
  have hcq' : (qc : Int) % (k : Int) = cq := by rw [← hcq, Int.tmod_eq_emod_of_nonneg (by omega)]
  have hcqk : cq < k := by have := Int.emod_lt_of_pos (qc : Int) (show (0 : Int) < k by omega); omega
  obtain ⟨sq, hsq⟩ : ∃ sq : Nat, (qs : Int).tmod 8 = sq := ⟨qs % 8, by rw [Int.tmod_eq_emod_of_nonneg (by omega)]; omega⟩
  have hsq' : (qs : Int) % 8 = sq := by rw [← hsq, Int.tmod_eq_emod_of_nonneg (by omega)]
  have hsq8 : sq < 8 := by omega
  have HOB := Lib.hid hob
  have HSS := Lib.hid hs
  have HST := Lib.hid hst
  have HONE := Lib.hid hone
  have HOWN := Lib.hid hown
  have HNE := Lib.hid hne
  have HOA := Lib.hid hoA
  have HOL := Lib.hid hoL
  have hat : wA.cell? ⟨gA, cq, none⟩ = some (.int .i64 ((A cq : Nat) : Int)) := by
    have := owns_holds hoA ⟨gA, 0, none⟩ rfl cq (.int .i64 ((A cq : Nat) : Int)) (by rw [List.getElem?_map, ats_get A k cq hcqk]; rfl)
    rwa [addr_add'] at this
  have HAT := Lib.hid hat
  have HLK := Lib.hid hst.cst.klen
  have HGA := Lib.hid (show B ≤ gA ∧ gA < ab ∧ B ≤ gL ∧ gL < ab from by
    have h1 := hoA.lt gA rfl
    have h2 := hoL.lt gL rfl
    have h3 := own_obj hoA
    have h4 := own_obj hoL
    have h5 := HOAC.out
    have h6 := HW2.out
    refine ⟨h1.1, ?_, h2.1, ?_⟩
    · have : gA ≠ ab := fun e => by obtain ⟨cs, h⟩ := h3; rw [e, h5] at h; simp at h
      have h7 : wA.heap.size = ab + 1 := by rw [← HWA.out, ← HAB.out]; simp
      omega
    · have : gL ≠ ab := fun e => by obtain ⟨cs, h⟩ := h4; rw [e, h5] at h; simp at h
      have h7 : wA.heap.size = ab + 1 := by rw [← HWA.out, ← HAB.out]; simp
      omega)
  clear hob hs hst hone hown hv hne hoA hoL hat hkind hcq' hsq'
  have HQ0 := Lib.hid (And.intro q0 (And.intro q1 (And.intro q2 (And.intro q3 q4))))
  have HA0 := Lib.hid (And.intro a0 (And.intro a1 (And.intro a2 (And.intro a3 a4))))
  conv => arg 2; whnf
  rw [← HWA.out] at q0 q1 q2 q3 q4 a0 a1 a2 a3 a4
  rw [← HAB.out] at a0 a1 a2 a3 a4
  go_wp2_with fail
  rw [HWA.out, HAB.out]
  rw [HWA.out] at q0 q1 q2 q3 q4 a0 a1 a2 a3 a4
  rw [HAB.out] at a0 a1 a2 a3 a4
  have w1' : IntKind.i64.wrap (qc : Int) = qc := wrap_i64_small _ (by omega) (by omega)
  have w2' : IntKind.i64.wrap (sq : Int) = sq := wrap_i64_small _ (by omega) (by omega)
  have w3' : IntKind.i64.wrap ((sq : Int) + 1) = (sq : Int) + 1 := wrap_i64_small _ (by omega) (by omega)
  go_quiet (fail)
  clear w1' w2' w3' hcq hsq
  clear q0 q1 q2 q3 q4 a1 a2 a3
  have HFB := Lib.hid (HF2.out.drewN nq)
  have fB := (Fr.refl (fun _ => False) wA).drewN nq
  obtain ⟨wB, hwB⟩ : ∃ wB, wA.drewN nq = wB := ⟨_, rfl⟩
  rw [hwB] at HFB fB ⊢
  have HWB := Lib.hid hwB
  have HBA := Lib.hid fB
  have HSB := Lib.hid (HSS.out.fr fB id id id)
  have HOBB := Lib.hid (fB.obj HOB.out id)
  have HACB := Lib.hid (fB.obj HOAC.out id)
  have HHB := Lib.hid (show Heap wB hb p 16384 32768 from fB.obj HH2.out id)
  have HMB := Lib.hid (HM2.out.fr fB id)
  have HOTB := Lib.hid (fB.owns HO2.out (fun _ _ => id))
  have HOWB := Lib.hid (HW2.out.old fB ⟨id, id, id, id⟩ (fun _ _ _ e => e.elim))
  have HATB := Lib.hid (fB.cell HAT.out id)
  have HOAB := Lib.hid (fB.owns HOA.out (fun _ _ => id))
  have HOLB := Lib.hid (fB.owns HOL.out (fun _ _ => id))
  have HOWNB := Lib.hid (fun i (hi : i < L.length) => (HOWN.out i hi).old fB)
  have a0 := fB.cell HA0.out.1 id
  have a1 := fB.cell HA0.out.2.1 id
  have a4 := fB.cell HA0.out.2.2.2.2 id
  have q4 := fB.cell HQ0.out.2.2.2.2 id
  clear hwB fB
  have hkc : (k : Int) ≤ 60 := by omega
  obtain ⟨oT, cT, rfl, _, _, _, _⟩ := owns_form HOTB.out
  rcases things_read HOTB.out with ⟨e, _⟩ | ⟨gT, rfl, hgT, hcT, hcM, hgo, hcells⟩
  · exact absurd e hT0
  unfold maxLen at hcM
  obtain ⟨nT, hnT⟩ : ∃ nT, T.length = nT := ⟨_, rfl⟩
  have hn0 : 0 < nT := by
    rw [← hnT]
    exact List.length_pos_iff.2 hT0
  have hnT60 : nT ≤ 60 := by omega
  have hnTj : nT ≤ j := by omega
  obtain ⟨kq, hkq⟩ : ∃ kq : Nat, (qp : Int) % (nT : Int) = kq := ⟨qp % nT, by rw [Int.natCast_emod]⟩
  have hkqn : kq < nT := by have := Int.emod_lt_of_pos (qp : Int) (show (0 : Int) < nT by omega); omega
  obtain ⟨t, ht⟩ : ∃ t, T[kq]? = some t := ⟨_, List.getElem?_eq_getElem (by omega)⟩
  obtain ⟨f0, f1, f2⟩ := hcells kq t ht
  have hin := HST.out.inside (List.mem_of_getElem? ht)
  have hbig := HST.out.cst.big
  obtain ⟨⟨ta, tc, tt⟩, hte⟩ : ∃ t', t = t' := ⟨_, rfl⟩
  subst hte
  dsimp only at f0 f1 f2 hin
  have htb : ta ≤ 1048576 ∧ tt.length ≤ 1048576 := by omega
  have HTI := Lib.hid ht
  have HNT := Lib.hid hnT
  have HGO := Lib.hid hgo
  have HKQ := Lib.hid hkq
  have hkq0 : (0 : Int) ≤ kq := by omega
  have hkqn' : (kq : Int) < nT := by omega
  have hkqc : kq ≤ cT := by omega
  rw [hnT] at hcT
  rw [hnT] at HOTB ⊢
  have HNG := Lib.hid (show wb ≠ g ∧ ab ≠ g ∧ gT ≠ g ∧ gT ≠ wb ∧ gT ≠ b ∧ gT ≠ p ∧ gT ≠ hb ∧ gT ≠ mb ∧ gT ≠ ab ∧ hb ≠ g ∧ mb ≠ g from by
    have h1 := HX.out.lt
    have h3 := HLT.out
    have h4 := HX.out.wd
    have h5 := HX.out.mB
    have h6 := HX.out.md
    have h7 := HX.out.hd
    have h8 : gT ≠ ab := fun e => by
      obtain ⟨cs, h⟩ := hgo
      rw [e, HACB.out] at h
      simp at h
    omega)
  clear ht hnT hgo hin hbig hcells
  have d0' : decide ((0 : Int) < nT) = true := decide_eq_true (by omega)
  have d0'' : (0 : Int) < nT := by omega
  have HWF := Lib.hid (wf_nat ta (by omega))
  have fC := (Fr.refl (fun _ => False) wB).alloc (.cells #[.int .i64 (ta : Nat), .int .i64 (tc : Nat), .string ⟨tt.toArray⟩] 95)
  obtain ⟨b0', b1', b2', _, _, _, _⟩ := three_cells (heap_alloc_last wB (.cells #[.int .i64 (ta : Nat), .int .i64 (tc : Nat), .string ⟨tt.toArray⟩] 95))
  obtain ⟨wC, hwC⟩ : ∃ wC, wB.alloc (.cells #[.int .i64 (ta : Nat), .int .i64 (tc : Nat), .string ⟨tt.toArray⟩] 95) = wC := ⟨_, rfl⟩
  rw [hwC] at fC b0' b1' b2'
  obtain ⟨xb, hxb⟩ : ∃ xb, wB.heap.size = xb := ⟨_, rfl⟩
  rw [hxb] at b0' b1' b2'
  have HXB := Lib.hid hxb
  have HWC := Lib.hid hwC
  have HFC := Lib.hid fC
  have HMC := Lib.hid (HMB.out.fr fC id)
  have HHC := Lib.hid (show Heap wC hb p 16384 32768 from fC.obj HHB.out id)
  have HSC := Lib.hid (HSB.out.fr fC id id id)
  have HOTC := Lib.hid (fC.owns HOTB.out (fun _ _ => id))
  have HXG := Lib.hid (show xb ≠ g ∧ xb ≠ mb from by
    rw [← hxb]
    have h1 := HSB.out.mat.lt
    have h2 := HMB.out.lt
    omega)
  have HFREE := Lib.hid (fun W (h : Mat 108 W p g bs) (hh : Heap W hb p 16384 32768) => hfree_any hb p g bs 16384 32768 l ((ta : Nat) : Int) W h hh HST.out.blks (by omega) (by rw [HST.out.len]; exact Nat.le_refl _) HST.out.lt HX.out.hd.2.2.2.1)
  have HRUN := Lib.hid (fun W (hF : Fr (fun j => j = g) wC W) => (HMC.out.fr hF HNG.out.2.2.2.2.2.2.2.2.2.2).run ((ta : Nat) : Int) HWF.out)
  obtain ⟨ub, hub⟩ : ∃ ub, U ((ta : Nat) : Int) = ub := ⟨_, rfl⟩
  have HUB := Lib.hid hub
  rw [hub] at HRUN
  clear hub fC hwC hxb b1' b2'
  go_wp2_with fail
  rw [HKQ.out]
  go_wp2_with fail
  rw [HXB.out, HWC.out]
  clear hkq
  go_region_held3 (fun W => W.cell? ⟨xb, 0, none⟩ = some (.int .i64 (ta : Nat)) ∧ (Instr.lookup 85 (.map (some mb)) (.int .i64 (ta : Nat)) false).run Try.prog W = .ok (.bool ub) W ∧ Fr (fun j => j = g) wC W)
    ((go_split_ands; refine (fun hF => ⟨Fr.cell hF b0' HXG.out.1, HRUN.out _ hF, hF⟩ : Fr (fun j => j = g) wC _ → _) ?_; repeat' first | exact Fr.refl _ _ | assumption | apply Fr.drew | apply Fr.alloc))
    (first | (go_at_call 41; go_split_ands; refine (HFREE.out _ (Mat.drew HSC.out.mat) HHC.out).mono ?_; rintro e w9 ⟨hp, hf⟩; obtain ⟨fv, rfl, hfg⟩ := free_got HST.out HIN.out hp; have hf9 := Fr.undrew hf) | fail)
  all_goals
    have HF9 := Lib.hid hf9
    have HFG := Lib.hid hfg
    have HM9 := Lib.hid (HMC.out.fr hf9 HNG.out.2.2.2.2.2.2.2.2.2.2)
    have HH9 := Lib.hid (show Heap w9 hb p 16384 32768 from hf9.obj HHC.out HNG.out.2.2.2.2.2.2.2.2.2.1)
    have HOT9 := Lib.hid (hf9.owns HOTC.out (fun i hi e => HNG.out.2.2.1 (by
      have : gT = i := by simpa [Value.ownBlock] using hi
      rw [this, e])))
    have x0' := hf9.cell b0' HXG.out.1
    have HFR9 := Lib.hid ((HFB.out.trans HFC.out).after hf9 (S := fun _ => False) (fun i hi e => by have := HX.out.old; omega))
    clear hp hf hf9 hfg b0'
    rcases HFG.out with ⟨rfl, hu, hm⟩ | ⟨rfl, hu, l', bs', hm, hbl, hfd⟩
    · have hub : ub = false := HUB.out.symm.trans hu
      subst hub
      have HOW9 := Lib.hid ((HOWB.out.old HFC.out ⟨id, id, id, id⟩ (fun _ _ _ e => e.elim)).turn (HF9.out.mono (T := fun j => j = b ∨ j = g) fun _ _ e => .inr e) (HSC.out.wrote HF9.out hm rfl) HST.out (by have h1 := HX.out.wd; have h2 := HX.out.lt; omega))
      clear hu hm
      go_wp2_with (at_lookup; refine wpList_lookup_bmap _ rfl _ _ rfl mb nn U rfl HM9.out _ rfl HWF.out ?_; rw [HUB.out])
      have HOS := Lib.hid (show OSL wb B p g b hb mb (j + 1) _ w9 from ⟨k, A, L, l, T, bs, x, nn, U, HOW9.out, HH9.out, HM9.out, HIN.out, by rw [HNT.out]; exact HOT9.out, by have := HNT.out; omega, HFEW.out.mono (Nat.le_succ j), fun e => absurd e hk0⟩)
      have HFR := Lib.hid HFR9.out
      obtain ⟨w5, hw5⟩ : ∃ w5, w9 = w5 := ⟨_, rfl⟩
      rw [hw5] at HOS HFR ⊢
      clear hw5
      obtain ⟨k', A', L', l', T', bs', x', nn', U', t1, t2, t3, t4, t5, ⟨t6, t7, t8⟩, t9, t10⟩ := HOS.out
      have HQ1 := Lib.hid (fun sel W (hW : Fr (fun _ => False) w5 W) => holds_own sel W (t1.old hW ⟨id, id, id, id⟩ (fun _ _ _ e => e.elim)) (hW.owns t5 (fun _ _ => id)) (by omega) (fun i hi => by have := t9 L'[i] (List.getElem_mem _); omega) (by omega))
      clear t1 t2 t3 t4 t5 t6 t7 t8 t9 t10
      refine (HQ1.out _ _ (Fr.refl _ _)).mono ?_
      rintro e w6 ⟨rfl, hf⟩
      have F6 := Lib.hid hf
      clear hf
      go_wp2_with fail
      refine (HQ1.out _ _ F6.out).mono ?_
      rintro e w7 ⟨rfl, hf⟩
      have HOS7 := Lib.hid (HOS.out.old (F6.out.trans hf))
      have HFR7 := Lib.hid (HFR.out.trans (F6.out.trans hf))
      clear hf
      go_wp2_with fail
      exact HQ.out _ _ _ _ _ _ _ _ _ _ _ _ _ _ _ _ _ _ _ _ _ _ _ _ _ _ _ _ _ _ _ _ _ _ _ _ _ _ _ _ _ _ _ _ _ _ _ _ _ _ _ _ _ _ _ _ _ _ _ _ _ _ _ _ _ _ _ _ _ _ _ _ _ _ _ _ _ _ _ _ _ _ _ _ _ _ _ _ _ _ _ _ _ _ _ _ _ _ _ _ _ _ _ _ _ _ _ _ _ _ _ _ _ _ _ _ _ _ _ _ _ _ _ _ _ _ _ _ _ _ _ _ _ _ _ _ _ _ _ _ _ _ _ _ _ _ _ _ _ _ _ _ _ _ _ _ _ _ _ _ _ _ _ _ _ _ _ _ _ _ _ _ _ _ _ _ _ _ _ _ _ _ _ _ _ _ _ _ _ _ _ _ _ _ _ _ _ _ _ _ _ _ _ _ _ _ _ _ _ _ _ _ _ _ _ _ _ _ _ _ _ _ _ _ _ _ _ _ _ _ _ _ _ _ _ _ _ _ _ _ _ _ _ _ _ _ _ _ _ _ _ _ _ _ _ _ _ _ _ _ _ _ _ _ _ _ _ _ _ _ _ _ _ _ _ _ _ _ _ _ _ _ _ _ _ _ _ _ _ _ _ _ HOS7.out HFR7.out
    · have hub : ub = true := HUB.out.symm.trans hu
      subst hub
      have hst' := HST.out.freeAt HTI.out hfd
      have HOW9 := Lib.hid ((HOWB.out.old HFC.out ⟨id, id, id, id⟩ (fun _ _ _ e => e.elim)).turn (HF9.out.mono (T := fun j => j = b ∨ j = g) fun _ _ e => .inr e) (HSC.out.wrote HF9.out hm hbl) hst' (by have h1 := HX.out.wd; have h2 := HX.out.lt; omega))
      have HINP := Lib.hid (HIN.out.del (l' := l') (a := ta) hfd.used)
      clear hu hm hbl hfd hst'
      go_wp2_with (first | (at_lookup; refine wpList_lookup_bmap _ rfl _ _ rfl mb nn U rfl HM9.out _ rfl HWF.out ?_; rw [HUB.out]) | (at_delete; refine wpList_delete_bmap _ rfl _ _ rfl mb nn U rfl HM9.out _ rfl HWF.out ?_; intro wP hbm hfm; have HMP := Lib.hid hbm; have HFP := Lib.hid hfm; clear hbm hfm))
      have HOTP := Lib.hid (HFP.out.owns HOT9.out (fun i hi e => by
        have h1 : gT = i := by simpa [Value.ownBlock] using hi
        have h2 := HNG.out.2.2.2.2.2.2.2.1
        omega))
      have HBP := Lib.hid (show B ≤ wP.heap.size from by have h1 := (HOTP.out.lt gT rfl); omega)
      have HOWP := Lib.hid (HOW9.out.old HFP.out ⟨fun e => HX.out.md.1 e.symm, fun e => HX.out.md.2.2.2 e.symm, fun e => HX.out.md.2.2.1 e.symm, fun e => HX.out.md.2.1 e.symm⟩ (fun i cs t e hi => by
        subst e
        obtain ⟨es, ck, hmb⟩ := HM9.out.obj
        rw [hmb] at hi
        simp at hi))
      have HHP := Lib.hid (show Heap wP hb p 16384 32768 from HFP.out.obj HH9.out (fun e => by
        obtain ⟨es, ck, hmb⟩ := HM9.out.obj
        have hh := HH9.out
        unfold Heap at hh
        have e' : hb = mb := e
        rw [e', hmb] at hh
        simp at hh))
      have HFRP := Lib.hid (HFR9.out.after HFP.out (S := fun _ => False) (fun i hi e => by have := HX.out.old; omega))
      clear x0'
      have fin : ∀ (v' : Value) (w' : World), w'.ownsRow B 95 3 v' (nT - 1) (thcells (T.take kq ++ T.drop (kq + 1))) → Fr (fun _ => False) wP w' → OSL wb B p g b hb mb (j + 1) v' w' ∧ Fr (fun _ => False) w w' := fun v' w' ho hf => by
        have hl : (T.take kq ++ T.drop (kq + 1)).length = nT - 1 := by
          have := HNT.out
          rw [List.length_append, List.length_take, List.length_drop]
          omega
        refine ⟨⟨k, A, L, l', T.take kq ++ T.drop (kq + 1), bs', x, nn, _, HOWP.out.old hf ⟨id, id, id, id⟩ (fun _ _ _ e => e.elim), hf.obj HHP.out id, HMP.out.fr hf id, HINP.out, by rw [hl]; exact ho, by omega, HFEW.out.mono (Nat.le_succ j), fun e => absurd e hk0⟩, HFRP.out.trans hf⟩
      have FIN := Lib.hid fin
      have HCAP := Lib.hid (show nT ≤ cT ∧ cT ≤ maxLen from ⟨by omega, by unfold maxLen; omega⟩)
      clear fin
      have step : ∀ Q0 : Exit → Act → World → Prop, True := fun _ => trivial
      clear step
      by_cases hcap : kq + 1 < cT
      · refine reg50_lt B gT nT cT kq qp T wP _ _ _ _ _ _ _ _ _ _ _ _ _ _ _ _ _ _ _ _ _ _ _ _ _ _ _ _ _ _ _ _ _ _ _ _ _ _ _ _ _ _ _ _ _ _ _ _ _ _ _ _ _ _ _ _ _ _ _ _ _ _ _ _ _ _ _ _ _ _ _ _ _ _ _ _ _ _ _ _ _ _ _ _ _ _ _ _ _ _ _ _ _ _ _ _ _ _ _ _ _ _ _ _ _ _ _ _ _ _ _ _ _ _ _ _ _ _ _ _ _ _ _ _ _ _ _ _ _ _ _ _ _ _ _ _ _ _ _ _ _ _ _ _ _ _ _ _ _ _ _ _ _ _ _ _ _ _ _ _ _ _ _ _ _ _ _ _ _ _ _ _ _ _ _ _ _ _ _ _ _ _ _ _ _ _ _ _ _ _ _ _ _ _ _ _ _ _ _ _ _ _ _ _ _ _ _ _ _ _ _ _ _ _ _ _ _ _ _ _ _ _ _ _ _ _ _ _ _ _ _ _ _ _ _ _ _ _ _ _ _ _ _ _ _ _ _ _ _ _ _ _ _ _ _ _ _ _ _ _ _ _ _ _ _ _ _ _ _ _ _ _ _ _ _ _ _ _ _ _ _ _ _ _ _ _ _ _ _ _ _ _ _ _ _ _ _ _ _ _ _ _ _ _ _ _ _ _ _ _ _ _ _ _ _ _ _ _ _ _ _ _ _ _ _ _ _ HOTP.out HNT.out hnT60 HCAP.out.2 HCAP.out.1 k2 HKQ.out hkqn HBP.out ⟨hcap, by omega, by omega, by omega⟩ ?_
        intro v' w' y299 y300 y301 y302 y303 y304 y305 y306 y307 y308 y309 y310 y311 y312 y313 y314 ho hf
        have HOS := Lib.hid (FIN.out v' w' ho hf).1
        have HFR := Lib.hid (FIN.out v' w' ho hf).2
        clear ho hf
        obtain ⟨w5, hw5⟩ : ∃ w5, w' = w5 := ⟨_, rfl⟩
        rw [hw5] at HOS HFR ⊢
        clear hw5
        go_wp2_with fail
        obtain ⟨k', A', L', l', T', bs', x', nn', U', t1, t2, t3, t4, t5, ⟨t6, t7, t8⟩, t9, t10⟩ := HOS.out
        have HQ1 := Lib.hid (fun sel W (hW : Fr (fun _ => False) w5 W) => holds_own sel W (t1.old hW ⟨id, id, id, id⟩ (fun _ _ _ e => e.elim)) (hW.owns t5 (fun _ _ => id)) (by omega) (fun i hi => by have := t9 L'[i] (List.getElem_mem _); omega) (by omega))
        clear t1 t2 t3 t4 t5 t6 t7 t8 t9 t10
        refine (HQ1.out _ _ (Fr.refl _ _)).mono ?_
        rintro e w6 ⟨rfl, hf⟩
        have F6 := Lib.hid hf
        clear hf
        go_wp2_with fail
        refine (HQ1.out _ _ F6.out).mono ?_
        rintro e w7 ⟨rfl, hf⟩
        have HOS7 := Lib.hid (HOS.out.old (F6.out.trans hf))
        have HFR7 := Lib.hid (HFR.out.trans (F6.out.trans hf))
        clear hf
        go_wp2_with fail
        exact HQ.out _ _ _ _ _ _ _ _ _ _ _ _ _ _ _ _ _ _ _ _ _ _ _ _ _ _ _ _ _ _ _ _ _ _ _ _ _ _ _ _ _ _ _ _ _ _ _ _ _ _ _ _ _ _ _ _ _ _ _ _ _ _ _ _ _ _ _ _ _ _ _ _ _ _ _ _ _ _ _ _ _ _ _ _ _ _ _ _ _ _ _ _ _ _ _ _ _ _ _ _ _ _ _ _ _ _ _ _ _ _ _ _ _ _ _ _ _ _ _ _ _ _ _ _ _ _ _ _ _ _ _ _ _ _ _ _ _ _ _ _ _ _ _ _ _ _ _ _ _ _ _ _ _ _ _ _ _ _ _ _ _ _ _ _ _ _ _ _ _ _ _ _ _ _ _ _ _ _ _ _ _ _ _ _ _ _ _ _ _ _ _ _ _ _ _ _ _ _ _ _ _ _ _ _ _ _ _ _ _ _ _ _ _ _ _ _ _ _ _ _ _ _ _ _ _ _ _ _ _ _ _ _ _ _ _ _ _ _ _ _ _ _ _ _ _ _ _ _ _ _ _ _ _ _ _ _ _ _ _ _ _ _ _ _ _ _ _ _ _ _ _ _ _ _ _ _ _ _ _ _ _ _ _ _ _ _ _ _ _ _ _ _ HOS7.out HFR7.out
      · refine reg50_eq B gT nT cT kq qp T wP _ _ _ _ _ _ _ _ _ _ _ _ _ _ _ _ _ _ _ _ _ _ _ _ _ _ _ _ _ _ _ _ _ _ _ _ _ _ _ _ _ _ _ _ _ _ _ _ _ _ _ _ _ _ _ _ _ _ _ _ _ _ _ _ _ _ _ _ _ _ _ _ _ _ _ _ _ _ _ _ _ _ _ _ _ _ _ _ _ _ _ _ _ _ _ _ _ _ _ _ _ _ _ _ _ _ _ _ _ _ _ _ _ _ _ _ _ _ _ _ _ _ _ _ _ _ _ _ _ _ _ _ _ _ _ _ _ _ _ _ _ _ _ _ _ _ _ _ _ _ _ _ _ _ _ _ _ _ _ _ _ _ _ _ _ _ _ _ _ _ _ _ _ _ _ _ _ _ _ _ _ _ _ _ _ _ _ _ _ _ _ _ _ _ _ _ _ _ _ _ _ _ _ _ _ _ _ _ _ _ _ _ _ _ _ _ _ _ _ _ _ _ _ _ _ _ _ _ _ _ _ _ _ _ _ _ _ _ _ _ _ _ _ _ _ _ _ _ _ _ _ _ _ _ _ _ _ _ _ _ _ _ _ _ _ _ _ _ _ _ _ _ _ _ _ _ _ _ _ _ _ _ _ _ _ _ _ _ _ _ _ _ _ _ _ _ _ _ _ _ _ _ _ _ _ _ _ _ _ _ _ _ _ _ _ _ _ _ _ _ _ _ _ _ _ _ _ HOTP.out HNT.out hnT60 HCAP.out.2 HCAP.out.1 k2 HKQ.out hkqn HBP.out (by omega) ?_
        intro v' w' y299 y300 y301 y302 y303 y304 y305 y306 y307 y308 y309 y310 y311 y312 y313 y314 ho hf
        have HOS := Lib.hid (FIN.out v' w' ho hf).1
        have HFR := Lib.hid (FIN.out v' w' ho hf).2
        clear ho hf
        obtain ⟨w5, hw5⟩ : ∃ w5, w' = w5 := ⟨_, rfl⟩
        rw [hw5] at HOS HFR ⊢
        clear hw5
        go_wp2_with fail
        obtain ⟨k', A', L', l', T', bs', x', nn', U', t1, t2, t3, t4, t5, ⟨t6, t7, t8⟩, t9, t10⟩ := HOS.out
        have HQ1 := Lib.hid (fun sel W (hW : Fr (fun _ => False) w5 W) => holds_own sel W (t1.old hW ⟨id, id, id, id⟩ (fun _ _ _ e => e.elim)) (hW.owns t5 (fun _ _ => id)) (by omega) (fun i hi => by have := t9 L'[i] (List.getElem_mem _); omega) (by omega))
        clear t1 t2 t3 t4 t5 t6 t7 t8 t9 t10
        refine (HQ1.out _ _ (Fr.refl _ _)).mono ?_
        rintro e w6 ⟨rfl, hf⟩
        have F6 := Lib.hid hf
        clear hf
        go_wp2_with fail
        refine (HQ1.out _ _ F6.out).mono ?_
        rintro e w7 ⟨rfl, hf⟩
        have HOS7 := Lib.hid (HOS.out.old (F6.out.trans hf))
        have HFR7 := Lib.hid (HFR.out.trans (F6.out.trans hf))
        clear hf
        go_wp2_with fail
        exact HQ.out _ _ _ _ _ _ _ _ _ _ _ _ _ _ _ _ _ _ _ _ _ _ _ _ _ _ _ _ _ _ _ _ _ _ _ _ _ _ _ _ _ _ _ _ _ _ _ _ _ _ _ _ _ _ _ _ _ _ _ _ _ _ _ _ _ _ _ _ _ _ _ _ _ _ _ _ _ _ _ _ _ _ _ _ _ _ _ _ _ _ _ _ _ _ _ _ _ _ _ _ _ _ _ _ _ _ _ _ _ _ _ _ _ _ _ _ _ _ _ _ _ _ _ _ _ _ _ _ _ _ _ _ _ _ _ _ _ _ _ _ _ _ _ _ _ _ _ _ _ _ _ _ _ _ _ _ _ _ _ _ _ _ _ _ _ _ _ _ _ _ _ _ _ _ _ _ _ _ _ _ _ _ _ _ _ _ _ _ _ _ _ _ _ _ _ _ _ _ _ _ _ _ _ _ _ _ _ _ _ _ _ _ _ _ _ _ _ _ _ _ _ _ _ _ _ _ _ _ _ _ _ _ _ _ _ _ _ _ _ _ _ _ _ _ _ _ _ _ _ _ _ _ _ _ _ _ _ _ _ _ _ _ _ _ _ _ _ _ _ _ _ _ _ _ _ _ _ _ _ _ _ _ _ _ _ _ _ _ _ _ _ _ HOS7.out HFR7.out
end Go.Proofs.Ytajeiccfgnpbpaa.Mem
