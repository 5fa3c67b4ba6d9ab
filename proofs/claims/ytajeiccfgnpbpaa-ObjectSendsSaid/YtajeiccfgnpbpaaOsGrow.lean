/- The statement ObjectSends: a round of its walk: Grow. -/
import Derived.Test.YtajeiccfgnpbpaaQo
import Derived.BigRegion
import Derived.RegionTactic
import Derived.StillTailTactics
set_option linter.unusedSimpArgs false
set_option linter.unusedVariables false

namespace Go.Proofs.Ytajeiccfgnpbpaa.Mem
open Go.RowKit
attribute [local go_sem ↓] Go.wp_at_zero Go.wp_at_succ

set_option maxRecDepth 1000000 in
set_option maxHeartbeats 16000000 in
theorem os_grow : OsRound (fun kind k => kind % 7 = 6 ∧ k ≠ 0) := by
  intro w wr wb B p g b hb mb j n bb o c q vT k A L l T bs x nn U c0 c1 c5 c21 c22 c23 c24 c25 c26 c27 c28 c29 c30 c31 c32 c33 c34 c35 c36 c37 c38 c39 c40 c41 c42 c43 c44 c45 c46 c47 c48 u2 u8 u9 u10 u11 u12 u13 u14 u15 u16 u17 u18 u19 u20 u52 u53 u54 u55 u56 u57 u58 u59 u60 u61 u62 u63 u64 u65 u66 u67 u68 u69 u70 u71 u72 u73 u74 u75 u76 u77 u78 u79 u80 u81 u82 u83 u84 u85 u86 u87 u88 u89 u90 u91 u92 u93 u94 u95 u96 u97 u98 u99 u100 u101 u102 u103 u104 u105 u106 u107 u108 u109 u110 u111 u112 u113 u114 u115 u116 u117 u118 u119 u120 u121 u122 u123 u124 u125 u126 u127 u128 u129 u130 u131 u132 u133 u134 u135 u136 u137 u138 u139 u140 u141 u142 u143 u144 u145 u146 u147 u148 u149 u150 u151 u152 u153 u154 u155 u156 u157 u158 u159 u160 u161 u162 u163 u164 u165 u166 u167 u168 u169 u170 u171 u172 u173 u174 u175 u176 u177 u178 u179 u180 u181 u182 u183 u184 u185 u186 u187 u188 u189 u190 u191 u192 u193 u194 u195 u196 u197 u198 u199 u200 u201 u202 u203 u204 u205 u206 u207 u208 u209 u210 u211 u212 u213 u214 u215 u216 u217 u218 u219 u220 u221 u222 u223 u224 u225 u226 u227 u228 u229 u230 u231 u232 u233 u234 u235 u236 u237 u238 u239 u240 u241 u242 u243 u244 u245 u246 u247 u248 u249 u250 u251 u252 u253 u254 u255 u256 u257 u258 u259 u260 u261 u262 u263 u264 u265 u266 u267 u268 u269 u270 u271 u272 u273 u274 u275 u276 u277 u278 u279 u280 u281 u282 u283 u284 u285 u286 u287 u288 u289 u290 u291 u292 u293 u294 u295 u296 u297 u298 u299 u300 u301 u302 u303 u304 u305 u306 u307 u308 u309 u310 u311 u312 u313 u314 u315 u316 u317 u318 u319 u320 u321 u322 u323 u324 u325 u326 u327 Q hx hi hkind hQ
  have HQ := Lib.hid hQ
  clear hQ
  try dsimp only at hkind
  obtain ⟨qk, qp, qc, qs, qx⟩ := q
  obtain ⟨hW, hh, hmp, hin, hoT, ⟨hkj, hnj, hTj⟩, hfew, hx0, hF, hact, hok, ⟨hlt, hn⟩⟩ := hi
  obtain ⟨d0, d1, d2, d3, d4⟩ := hact
  unfold ActS.ok at hok
  try dsimp only at hkind
  dsimp only at d0 d1 d2 d3 d4 hok
  obtain ⟨k1, k2, k3, k4, k5⟩ := hok
  have HX := Lib.hid hx
  have HIN := Lib.hid hin
  have HFEW := Lib.hid hfew
  have HX0 := Lib.hid hx0
  have HF := Lib.hid hF
  have fA := (Fr.refl (fun _ => False) wr).alloc (.cells #[.int .u8 qk, .int .u8 qp, .int .u8 qc, .int .u8 qs, .int .u8 qx] 87)
  have OAC := heap_alloc_last wr (.cells #[.int .u8 qk, .int .u8 qp, .int .u8 qc, .int .u8 qs, .int .u8 qx] 87)
  obtain ⟨wA, hwA⟩ : ∃ wA, wr.alloc (.cells #[.int .u8 qk, .int .u8 qp, .int .u8 qc, .int .u8 qs, .int .u8 qx] 87) = wA := ⟨_, rfl⟩
  rw [hwA] at fA OAC
  obtain ⟨ab, hab⟩ : ∃ ab, wr.heap.size = ab := ⟨_, rfl⟩
  rw [hab] at OAC
  have HAB := Lib.hid hab
  have HWA := Lib.hid hwA
  have HOAC := Lib.hid OAC
  have HW2 := Lib.hid (hW.old fA ⟨id, id, id, id⟩ (fun _ _ _ e => e.elim))
  have HH2 := Lib.hid (show Heap wA hb p 16384 32768 from fA.obj hh id)
  have HM2 := Lib.hid (hmp.fr fA id)
  have HO2 := Lib.hid (fA.owns hoT (fun _ _ => id))
  have HF2 := Lib.hid (hF.trans fA)
  have HS2 := Lib.hid (show B ≤ wA.heap.size from by have h1 := HM2.out.lt; have h2 := hx.mB; omega)
  have HLT := Lib.hid (show wb < ab ∧ b < ab ∧ g < ab ∧ hb < ab ∧ mb < ab ∧ B ≤ ab from by
    rw [← hab]
    have h1 := hmp.lt
    have h2 := hx.mB
    have h3 := hx.lt
    have h4 := hx.hd
    omega)
  clear fA OAC hwA hab hW hh hmp hin hoT hfew hx0 hF hx
  obtain ⟨hkind, hk0⟩ := hkind
  have e0 : ((qk : Int) % 7 == 0) = false := by simp; omega
  have e1 : ((qk : Int) % 7 == 1) = false := by simp; omega
  have e6 : ((qk : Int) % 7 == 6) = true := by simp; omega
  have e3 : ((qk : Int) % 7 == 3) = false := by simp; omega
  have e4 : ((qk : Int) % 7 == 4) = false := by simp; omega
  have el : decide ((qk : Int) % 7 < 4) = false := by simp; omega
  have hkn : ((k : Int) == 0) = false := by simp; omega
  have hkz : ¬ (k : Int) = 0 := by omega
  obtain ⟨vs, vA, vL, hob, hs, hst, hone, hown, hv⟩ := HW2.out
  obtain ⟨hkp, gA, cA, gL, cL, rfl, rfl, hne, hoA, hoL⟩ := hv.resolve_left (by omega)
  obtain ⟨q0, q1, q2, q3, q4, z0, z1, z2, z3, z4, _⟩ := five_cells hob
  obtain ⟨a0, a1, a2, a3, a4, _, _, _, _, _, _⟩ := five_cells HOAC.out
  obtain ⟨cq, hcq⟩ : ∃ cq : Nat, (qc : Int).tmod (k : Int) = cq := ⟨qc % k, by rw [Int.tmod_eq_emod_of_nonneg (by omega), Int.natCast_emod]⟩
  have hcq' : (qc : Int) % (k : Int) = cq := by rw [← hcq, Int.tmod_eq_emod_of_nonneg (by omega)]
  have hcqk : cq < k := by have := Int.emod_lt_of_pos (qc : Int) (show (0 : Int) < k by omega); omega
  obtain ⟨sq, hsq⟩ : ∃ sq : Nat, (qs : Int).tmod 8 = sq := ⟨qs % 8, by rw [Int.tmod_eq_emod_of_nonneg (by omega)]; omega⟩
  have hsq' : (qs : Int) % 8 = sq := by rw [← hsq, Int.tmod_eq_emod_of_nonneg (by omega)]
  have hsq8 : sq < 8 := by omega
  have HOB := Lib.hid hob
  have HSS := Lib.hid hs
  have HST := Lib.hid hst
  have HONE := Lib.hid hone
  have HOWN := Lib.hid hown
  have HNE := Lib.hid hne
  have HOA := Lib.hid hoA
  have HOL := Lib.hid hoL
  have hat : wA.cell? ⟨gA, cq, none⟩ = some (.int .i64 ((A cq : Nat) : Int)) := by
    have := owns_holds hoA ⟨gA, 0, none⟩ rfl cq (.int .i64 ((A cq : Nat) : Int)) (by rw [List.getElem?_map, ats_get A k cq hcqk]; rfl)
    rwa [addr_add'] at this
  have HAT := Lib.hid hat
  have HLK := Lib.hid hst.cst.klen
  have HGA := Lib.hid (show B ≤ gA ∧ gA < ab ∧ B ≤ gL ∧ gL < ab from by
    have h1 := hoA.lt gA rfl
    have h2 := hoL.lt gL rfl
    have h3 := own_obj hoA
    have h4 := own_obj hoL
    have h5 := HOAC.out
    have h6 := HW2.out
    refine ⟨h1.1, ?_, h2.1, ?_⟩
    · have : gA ≠ ab := fun e => by obtain ⟨cs, h⟩ := h3; rw [e, h5] at h; simp at h
      have h7 : wA.heap.size = ab + 1 := by rw [← HWA.out, ← HAB.out]; simp
      omega
    · have : gL ≠ ab := fun e => by obtain ⟨cs, h⟩ := h4; rw [e, h5] at h; simp at h
      have h7 : wA.heap.size = ab + 1 := by rw [← HWA.out, ← HAB.out]; simp
      omega)
  clear hob hs hst hone hown hv hne hoA hoL hat hkind hcq' hsq'
  have HQ0 := Lib.hid (And.intro q0 (And.intro q1 (And.intro q2 (And.intro q3 q4))))
  have HA0 := Lib.hid (And.intro a0 (And.intro a1 (And.intro a2 (And.intro a3 a4))))
  conv => arg 2; whnf
  rw [← HWA.out] at q0 q1 q2 q3 q4 a0 a1 a2 a3 a4
  rw [← HAB.out] at a0 a1 a2 a3 a4
  go_wp2_with fail
  rw [HWA.out, HAB.out]
  rw [HWA.out] at q0 q1 q2 q3 q4 a0 a1 a2 a3 a4
  rw [HAB.out] at a0 a1 a2 a3 a4
  have w1' : IntKind.i64.wrap (qc : Int) = qc := wrap_i64_small _ (by omega) (by omega)
  have w2' : IntKind.i64.wrap (sq : Int) = sq := wrap_i64_small _ (by omega) (by omega)
  have w3' : IntKind.i64.wrap ((sq : Int) + 1) = (sq : Int) + 1 := wrap_i64_small _ (by omega) (by omega)
  go_quiet (fail)
  clear w1' w2' w3' hcq hsq
  clear q0 q1 q2 q3 q4 a1 a2 a3
  have HFB := Lib.hid (HF2.out.drewN nq)
  have fB := (Fr.refl (fun _ => False) wA).drewN nq
  obtain ⟨wB, hwB⟩ : ∃ wB, wA.drewN nq = wB := ⟨_, rfl⟩
  rw [hwB] at HFB fB ⊢
  have HWB := Lib.hid hwB
  have HBA := Lib.hid fB
  have HSB := Lib.hid (HSS.out.fr fB id id id)
  have HOBB := Lib.hid (fB.obj HOB.out id)
  have HACB := Lib.hid (fB.obj HOAC.out id)
  have HHB := Lib.hid (show Heap wB hb p 16384 32768 from fB.obj HH2.out id)
  have HMB := Lib.hid (HM2.out.fr fB id)
  have HOTB := Lib.hid (fB.owns HO2.out (fun _ _ => id))
  have HOWB := Lib.hid (HW2.out.old fB ⟨id, id, id, id⟩ (fun _ _ _ e => e.elim))
  have HATB := Lib.hid (fB.cell HAT.out id)
  have HOAB := Lib.hid (fB.owns HOA.out (fun _ _ => id))
  have HOLB := Lib.hid (fB.owns HOL.out (fun _ _ => id))
  have HOWNB := Lib.hid (fun i (hi : i < L.length) => (HOWN.out i hi).old fB)
  have a0 := fB.cell HA0.out.1 id
  have a1 := fB.cell HA0.out.2.1 id
  have a4 := fB.cell HA0.out.2.2.2.2 id
  have q4 := fB.cell HQ0.out.2.2.2.2 id
  clear hwB fB
  have hkc : (k : Int) ≤ 60 := by omega
  have hcl := HST.out.cst.sizeAt hcqk (by rw [HLK.out]; exact hcqk)
  have hfw := HFEW.out (L[cq]'(by rw [HLK.out]; exact hcqk)) (List.getElem_mem _)
  obtain ⟨sz0, hsz0⟩ : ∃ s0, (L[cq]'(by rw [HLK.out]; exact hcqk)).size = s0 := ⟨_, rfl⟩
  rw [hsz0] at hcl hfw
  obtain ⟨sz, hsz1⟩ : ∃ sz : Nat, sz0 = (sz : Int) := ⟨sz0.toNat, by omega⟩
  have hsz := hsz0.trans hsz1
  subst hsz1
  clear hsz0
  have hgr := fun W h => cgrow_ok p g bs ((A cq : Nat) : Int) (qx : Int) W h hcl.1 (by omega) (by rw [hcl.2]; omega)
  rw [hcl.2] at hgr
  have HGR := Lib.hid hgr
  have HSZ := Lib.hid hsz
  obtain ⟨y, hy⟩ : ∃ y : Nat, ((sz : Int) + (qx : Int) + 7).tdiv 8 = (y : Int) := ⟨(sz + qx + 7) / 8, by rw [Int.tdiv_eq_ediv_of_nonneg (by omega)]; omega⟩
  have hy2 : (sz : Int) + (qx : Int) + 7 - 7 ≤ y * 8 ∧ (y : Int) * 8 ≤ sz + qx + 7 := by
    rw [Int.tdiv_eq_ediv_of_nonneg (by omega)] at hy
    omega
  have HY := Lib.hid hy
  have hcq0 : (0 : Int) ≤ cq := by omega
  have hcqk' : (cq : Int) < k := by omega
  have hszb : sz ≤ 16000 := by omega
  obtain ⟨u0', u1', u2', u3', u4', _, _, _, _, _, _⟩ := five_cells HOBB.out
  have hat := HATB.out
  have HNG := Lib.hid (show wb ≠ g ∧ gA ≠ g ∧ ab ≠ g ∧ gL ≠ g from by have h1 := HX.out.lt; have h2 := HGA.out; have h3 := HLT.out; have h4 := HX.out.wd; omega)
  clear hcl hfw hgr hsz hy
  have hw2 : IntKind.i64.wrap (qx : Int) = qx := wrap_i64_small _ (by omega) (by omega)
  go_wp2_with fail
  go_region_held3 (fun W => W.cell? ⟨wb, 0, none⟩ = some (.pointer (some ⟨p, 0, none⟩)) ∧ W.cell? ⟨wb, 3, none⟩ = some (.slice (some ⟨gA, 0, none⟩) k cA) ∧ W.cell? ⟨gA, cq, none⟩ = some (.int .i64 ((A cq : Nat) : Int)) ∧ W.cell? ⟨ab, 4, none⟩ = some (.int .u8 qx) ∧ Fr (fun j => j = g) wB W)
    ((go_split_ands; refine (fun hF => ⟨Fr.cell hF u0' HNG.out.1, Fr.cell hF u3' HNG.out.1, Fr.cell hF hat HNG.out.2.1, Fr.cell hF a4 HNG.out.2.2.1, hF⟩ : Fr (fun j => j = g) wB _ → _) ?_; repeat' first | exact Fr.refl _ _ | assumption | apply Fr.drew | apply Fr.alloc))
    (first | (go_at_call 39; go_split_ands; (with_reducible refine (HGR.out _ (Mat.drew HSB.out.mat)).mono ?_); rintro e w9 ⟨rfl, hm, hf⟩; have hf9 := Fr.undrew hf) | fail)
  have HM9 := Lib.hid hm
  have HF9 := Lib.hid hf9
  have v4 := hf9.cell u4' HNG.out.1
  have va := hf9.cell a4 HNG.out.2.2.1
  have hoL9 := hf9.owns HOLB.out (fun i hi e => by have := (HOLB.out.lt i hi).1; have := HX.out.lt; omega)
  have hfz := fun i => hoL9.frozenAt i
  have hfz1 := hfz (cq * 4 + 1)
  have vl : w9.cell? ⟨gL, cq * 4 + 1, none⟩ = some (.int .i64 (sz : Int)) := by
    have := owns_holds hoL9 ⟨gL, 0, none⟩ rfl (cq * 4 + 1) (.int .i64 (sz : Int)) (by rw [rows4_get _ _ _ _ (r4_get L vs cq (by rw [HLK.out]; exact hcqk)) (by omega), ← HSZ.out]; rfl)
    rwa [addr_add'] at this
  have HOL9 := Lib.hid hoL9
  clear hm hf hf9 u0' u1' u2' u3' u4' a0 a1 a4 q4 hat hfz hoL9
  go_wp2_with fail
  have s1 : IntKind.i64.wrap ((sz : Int) + qx) = (sz : Int) + qx := wrap_i64_small _ (by omega) (by omega)
  have s2 : IntKind.i64.wrap ((sz : Int) + qx + 7) = (sz : Int) + qx + 7 := wrap_i64_small _ (by omega) (by omega)
  have s3 : IntKind.i64.wrap ((y : Int) * 8) = (y : Int) * 8 := wrap_i64_small _ (by omega) (by omega)
  have s4 : IntKind.i64.wrap (y : Int) = (y : Int) := wrap_i64_small _ (by omega) (by omega)
  have s5 := HY.out
  obtain ⟨wd, hwd⟩ : ∃ wd, w9.drew = wd := ⟨_, rfl⟩
  have v4' : wd.cell? ⟨wb, 4, none⟩ = some (.slice (some ⟨gL, 0, none⟩) k cL) := by rw [← hwd]; exact v4
  have va' : wd.cell? ⟨ab, 4, none⟩ = some (.int .u8 qx) := by rw [← hwd]; exact va
  have vl' : wd.cell? ⟨gL, cq * 4 + 1, none⟩ = some (.int .i64 (sz : Int)) := by rw [← hwd]; exact vl
  have hfz' : wd.frozen? ⟨gL, cq * 4 + 1, none⟩ = false := by rw [← hwd]; exact hfz1
  refine wp_region_still_tail 18 (by kernel_rfl) (by kernel_rfl) ?_
  have hwd' : { w9 with drawn := w9.drawn + 1 } = wd := hwd
  rw [hwd']
  simp only [List.take_succ_cons, List.take_zero, List.drop_succ_cons, List.drop_zero]
  repeat still_step
  refine wpStill_nil ?_
  go_wp2_with fail
  clear v4' va' vl' hfz' v4 va vl hfz1 s1 s2 s3 s4 s5 hw2
  have hv : ((sz : Int) + (qx : Int) + 8 - 1) / 8 * 8 = (y : Int) * 8 := by
    have := HY.out
    rw [Int.tdiv_eq_ediv_of_nonneg (by omega)] at this
    omega
  have hm9 := HM9.out
  have hApl := HST.out.cst.pl cq hcqk
  have hAx := HST.out.cst.xb
  rw [hv, show ((A cq : Nat) : Int) + 16 = ((A cq + 16 : Nat) : Int) by omega, setc_nat _ _ _ (by omega) (by omega)] at hm9
  have fd : Fr (fun _ => False) w9 wd := by rw [← hwd]; exact (Fr.refl _ _).drew
  have f9 : Fr (fun j => j = g) wB wd := HF9.out.trans (Fr.some fd fun _ e => e.elim)
  have fT : Fr (fun i => i = g ∨ i = gL) wB (wd.setCell ⟨gL, cq * 4 + 1, none⟩ (.int .i64 ((y : Int) * 8))) := (f9.mono (T := fun i => i = g ∨ i = gL) fun _ _ e => .inl e).setCell (.inr (.inr rfl)) _
  obtain ⟨hd1, hd2, hd3, hd4, hd5, hd6⟩ := HX.out
  have hga := HGA.out
  have hgL := own_obj HOLB.out
  have rest := rest_fr fT (by omega) (by omega) (fun i cs e hi => by
    rcases e with rfl | rfl
    · rw [HSB.out.mat.2.2.1] at hi; simp at hi
    · obtain ⟨lc, hgL⟩ := hgL
      rw [hgL] at hi; simp at hi) HHB.out HMB.out HOTB.out
  have hclL : cq < L.length := by rw [HLK.out]; exact hcqk
  have HOS := Lib.hid (show OSL wb B p g b hb mb (j + 1) vT _ from ⟨k, A, setSz L cq ((y : Int) * 8), l, T, _, x, nn, U, ow_sized (f9.obj HOBB.out HNG.out.1) ((HSB.out.wrote HF9.out hm9 (setv_length _ _ _)).fr fd id id id) (HST.out.grow hcqk (by unfold I64; omega)) HONE.out (fun i hi => (HOWNB.out i hi).fr f9 (fun k cs hk e => by
      subst e
      rw [HSB.out.mat.2.2.1] at hk; simp at hk)) hclL hkp HNE.out (f9.owns HOAB.out (fun i hi e => by have := (HOAB.out.lt i hi).1; omega)) (fd.owns HOL9.out (fun _ _ => id)) hd2, rest.1, rest.2.1, HIN.out, rest.2.2, by omega, HFEW.out.grow (n := (qx : Int)) (by omega) (fun hc => by rw [HSZ.out]; omega), fun e => absurd e hk0⟩)
  have HFR := Lib.hid (HFB.out.after fT (S := fun _ => False) (fun i hi e => by omega))
  obtain ⟨w5, hw5⟩ : ∃ w5, wd.setCell ⟨gL, cq * 4 + 1, none⟩ (.int .i64 ((y : Int) * 8)) = w5 := ⟨_, rfl⟩
  rw [hw5] at HOS HFR ⊢
  clear hw5 f9 fT rest hd1 hd2 hd3 hd4 hd5 hd6 hv hm9 fd hwd hwd'
  obtain ⟨k', A', L', l', T', bs', x', nn', U', t1, t2, t3, t4, t5, ⟨t6, t7, t8⟩, t9, t10⟩ := HOS.out
  have HQ1 := Lib.hid (fun sel W (hW : Fr (fun _ => False) w5 W) => holds_own sel W (t1.old hW ⟨id, id, id, id⟩ (fun _ _ _ e => e.elim)) (hW.owns t5 (fun _ _ => id)) (by omega) (fun i hi => by have := t9 L'[i] (List.getElem_mem _); omega) (by omega))
  clear t1 t2 t3 t4 t5 t6 t7 t8 t9 t10
  refine (HQ1.out _ _ (Fr.refl _ _)).mono ?_
  rintro e w6 ⟨rfl, hf⟩
  have F6 := Lib.hid hf
  clear hf
  go_wp2_with fail
  refine (HQ1.out _ _ F6.out).mono ?_
  rintro e w7 ⟨rfl, hf⟩
  have HOS7 := Lib.hid (HOS.out.old (F6.out.trans hf))
  have HFR7 := Lib.hid (HFR.out.trans (F6.out.trans hf))
  clear hf
  go_wp2_with fail
  exact HQ.out _ _ _ _ _ _ _ _ _ _ _ _ _ _ _ _ _ _ _ _ _ _ _ _ _ _ _ _ _ _ _ _ _ _ _ _ _ _ _ _ _ _ _ _ _ _ _ _ _ _ _ _ _ _ _ _ _ _ _ _ _ _ _ _ _ _ _ _ _ _ _ _ _ _ _ _ _ _ _ _ _ _ _ _ _ _ _ _ _ _ _ _ _ _ _ _ _ _ _ _ _ _ _ _ _ _ _ _ _ _ _ _ _ _ _ _ _ _ _ _ _ _ _ _ _ _ _ _ _ _ _ _ _ _ _ _ _ _ _ _ _ _ _ _ _ _ _ _ _ _ _ _ _ _ _ _ _ _ _ _ _ _ _ _ _ _ _ _ _ _ _ _ _ _ _ _ _ _ _ _ _ _ _ _ _ _ _ _ _ _ _ _ _ _ _ _ _ _ _ _ _ _ _ _ _ _ _ _ _ _ _ _ _ _ _ _ _ _ _ _ _ _ _ _ _ _ _ _ _ _ _ _ _ _ _ _ _ _ _ _ _ _ _ _ _ _ _ _ _ _ _ _ _ _ _ _ _ _ _ _ _ _ _ _ _ _ _ _ _ _ _ _ _ _ _ _ _ _ _ _ _ _ _ _ _ _ _ _ _ _ _ _ HOS7.out HFR7.out
end Go.Proofs.Ytajeiccfgnpbpaa.Mem
