/- The statement ObjectSends: a round of its walk: an object in the dictionary. -/
import Derived.Test.YtajeiccfgnpbpaaQo
import Derived.BigRegion
import Derived.RegionTactic
import Derived.Maps.OwnSet
set_option linter.unusedSimpArgs false
set_option linter.unusedVariables false

namespace Go.Proofs.Ytajeiccfgnpbpaa.Mem
open Go.RowKit
attribute [local go_sem ↓] Go.wp_at_zero Go.wp_at_succ

set_option maxRecDepth 1000000 in
set_option maxHeartbeats 16000000 in
theorem os_dict : OsRound (fun kind k => kind % 7 = 3 ∧ k ≠ 0) := by
  intro w wr wb B p g b hb mb j n bb o c q vT k A L l T bs x nn U c0 c1 c5 c21 c22 c23 c24 c25 c26 c27 c28 c29 c30 c31 c32 c33 c34 c35 c36 c37 c38 c39 c40 c41 c42 c43 c44 c45 c46 c47 c48 u2 u8 u9 u10 u11 u12 u13 u14 u15 u16 u17 u18 u19 u20 u52 u53 u54 u55 u56 u57 u58 u59 u60 u61 u62 u63 u64 u65 u66 u67 u68 u69 u70 u71 u72 u73 u74 u75 u76 u77 u78 u79 u80 u81 u82 u83 u84 u85 u86 u87 u88 u89 u90 u91 u92 u93 u94 u95 u96 u97 u98 u99 u100 u101 u102 u103 u104 u105 u106 u107 u108 u109 u110 u111 u112 u113 u114 u115 u116 u117 u118 u119 u120 u121 u122 u123 u124 u125 u126 u127 u128 u129 u130 u131 u132 u133 u134 u135 u136 u137 u138 u139 u140 u141 u142 u143 u144 u145 u146 u147 u148 u149 u150 u151 u152 u153 u154 u155 u156 u157 u158 u159 u160 u161 u162 u163 u164 u165 u166 u167 u168 u169 u170 u171 u172 u173 u174 u175 u176 u177 u178 u179 u180 u181 u182 u183 u184 u185 u186 u187 u188 u189 u190 u191 u192 u193 u194 u195 u196 u197 u198 u199 u200 u201 u202 u203 u204 u205 u206 u207 u208 u209 u210 u211 u212 u213 u214 u215 u216 u217 u218 u219 u220 u221 u222 u223 u224 u225 u226 u227 u228 u229 u230 u231 u232 u233 u234 u235 u236 u237 u238 u239 u240 u241 u242 u243 u244 u245 u246 u247 u248 u249 u250 u251 u252 u253 u254 u255 u256 u257 u258 u259 u260 u261 u262 u263 u264 u265 u266 u267 u268 u269 u270 u271 u272 u273 u274 u275 u276 u277 u278 u279 u280 u281 u282 u283 u284 u285 u286 u287 u288 u289 u290 u291 u292 u293 u294 u295 u296 u297 u298 u299 u300 u301 u302 u303 u304 u305 u306 u307 u308 u309 u310 u311 u312 u313 u314 u315 u316 u317 u318 u319 u320 u321 u322 u323 u324 u325 u326 u327 Q hx hi hkind hQ
  have HQ := Lib.hid hQ
  clear hQ
  try dsimp only at hkind
  obtain ⟨qk, qp, qc, qs, qx⟩ := q
  obtain ⟨hW, hh, hmp, hin, hoT, ⟨hkj, hnj, hTj⟩, hfew, hx0, hF, hact, hok, ⟨hlt, hn⟩⟩ := hi
  obtain ⟨d0, d1, d2, d3, d4⟩ := hact
  unfold ActS.ok at hok
  try dsimp only at hkind
  dsimp only at d0 d1 d2 d3 d4 hok
  obtain ⟨k1, k2, k3, k4, k5⟩ := hok
  have HX := Lib.hid hx
  have HIN := Lib.hid hin
  have HFEW := Lib.hid hfew
  have HX0 := Lib.hid hx0
  have HF := Lib.hid hF
  have fA := (Fr.refl (fun _ => False) wr).alloc (.cells #[.int .u8 qk, .int .u8 qp, .int .u8 qc, .int .u8 qs, .int .u8 qx] 87)
  have OAC := heap_alloc_last wr (.cells #[.int .u8 qk, .int .u8 qp, .int .u8 qc, .int .u8 qs, .int .u8 qx] 87)
  obtain ⟨wA, hwA⟩ : ∃ wA, wr.alloc (.cells #[.int .u8 qk, .int .u8 qp, .int .u8 qc, .int .u8 qs, .int .u8 qx] 87) = wA := ⟨_, rfl⟩
  rw [hwA] at fA OAC
  obtain ⟨ab, hab⟩ : ∃ ab, wr.heap.size = ab := ⟨_, rfl⟩
  rw [hab] at OAC
  have HAB := Lib.hid hab
  have HWA := Lib.hid hwA
  have HOAC := Lib.hid OAC
  have HW2 := Lib.hid (hW.old fA ⟨id, id, id, id⟩ (fun _ _ _ e => e.elim))
  have HH2 := Lib.hid (show Heap wA hb p 16384 32768 from fA.obj hh id)
  have HM2 := Lib.hid (hmp.fr fA id)
  have HO2 := Lib.hid (fA.owns hoT (fun _ _ => id))
  have HF2 := Lib.hid (hF.trans fA)
  have HS2 := Lib.hid (show B ≤ wA.heap.size from by have h1 := HM2.out.lt; have h2 := hx.mB; omega)
  have HLT := Lib.hid (show wb < ab ∧ b < ab ∧ g < ab ∧ hb < ab ∧ mb < ab ∧ B ≤ ab from by
    rw [← hab]
    have h1 := hmp.lt
    have h2 := hx.mB
    have h3 := hx.lt
    have h4 := hx.hd
    omega)
  clear fA OAC hwA hab hW hh hmp hin hoT hfew hx0 hF hx
  obtain ⟨hkind, hk0⟩ := hkind
  have e0 : ((qk : Int) % 7 == 0) = false := by simp; omega
  have e1 : ((qk : Int) % 7 == 1) = false := by simp; omega
  have e6 : ((qk : Int) % 7 == 6) = false := by simp; omega
  have e3 : ((qk : Int) % 7 == 3) = true := by simp; omega
  have e4 : ((qk : Int) % 7 == 4) = false := by simp; omega
  have el : decide ((qk : Int) % 7 < 4) = true := by simp; omega
  have hkn : ((k : Int) == 0) = false := by simp; omega
  have hkz : ¬ (k : Int) = 0 := by omega
  obtain ⟨vs, vA, vL, hob, hs, hst, hone, hown, hv⟩ := HW2.out
  obtain ⟨hkp, gA, cA, gL, cL, rfl, rfl, hne, hoA, hoL⟩ := hv.resolve_left (by omega)
  obtain ⟨q0, q1, q2, q3, q4, z0, z1, z2, z3, z4, _⟩ := five_cells hob
  obtain ⟨a0, a1, a2, a3, a4, _, _, _, _, _, _⟩ := five_cells HOAC.out
  obtain ⟨cq, hcq⟩ : ∃ cq : Nat, (qc : Int).tmod (k : Int) = cq := ⟨qc % k, by rw [Int.tmod_eq_emod_of_nonneg (by omega), Int.natCast_emod]⟩
  have hcq' : (qc : Int) % (k : Int) = cq := by rw [← hcq, Int.tmod_eq_emod_of_nonneg (by omega)]
  have hcqk : cq < k := by have := Int.emod_lt_of_pos (qc : Int) (show (0 : Int) < k by omega); omega
  obtain ⟨sq, hsq⟩ : ∃ sq : Nat, (qs : Int).tmod 8 = sq := ⟨qs % 8, by rw [Int.tmod_eq_emod_of_nonneg (by omega)]; omega⟩
  have hsq' : (qs : Int) % 8 = sq := by rw [← hsq, Int.tmod_eq_emod_of_nonneg (by omega)]
  have hsq8 : sq < 8 := by omega
  have HOB := Lib.hid hob
  have HSS := Lib.hid hs
  have HST := Lib.hid hst
  have HONE := Lib.hid hone
  have HOWN := Lib.hid hown
  have HNE := Lib.hid hne
  have HOA := Lib.hid hoA
  have HOL := Lib.hid hoL
  have hat : wA.cell? ⟨gA, cq, none⟩ = some (.int .i64 ((A cq : Nat) : Int)) := by
    have := owns_holds hoA ⟨gA, 0, none⟩ rfl cq (.int .i64 ((A cq : Nat) : Int)) (by rw [List.getElem?_map, ats_get A k cq hcqk]; rfl)
    rwa [addr_add'] at this
  have HAT := Lib.hid hat
  have HLK := Lib.hid hst.cst.klen
  have HGA := Lib.hid (show B ≤ gA ∧ gA < ab ∧ B ≤ gL ∧ gL < ab from by
    have h1 := hoA.lt gA rfl
    have h2 := hoL.lt gL rfl
    have h3 := own_obj hoA
    have h4 := own_obj hoL
    have h5 := HOAC.out
    have h6 := HW2.out
    refine ⟨h1.1, ?_, h2.1, ?_⟩
    · have : gA ≠ ab := fun e => by obtain ⟨cs, h⟩ := h3; rw [e, h5] at h; simp at h
      have h7 : wA.heap.size = ab + 1 := by rw [← HWA.out, ← HAB.out]; simp
      omega
    · have : gL ≠ ab := fun e => by obtain ⟨cs, h⟩ := h4; rw [e, h5] at h; simp at h
      have h7 : wA.heap.size = ab + 1 := by rw [← HWA.out, ← HAB.out]; simp
      omega)
  clear hob hs hst hone hown hv hne hoA hoL hat hkind hcq' hsq'
  have HQ0 := Lib.hid (And.intro q0 (And.intro q1 (And.intro q2 (And.intro q3 q4))))
  have HA0 := Lib.hid (And.intro a0 (And.intro a1 (And.intro a2 (And.intro a3 a4))))
  conv => arg 2; whnf
  rw [← HWA.out] at q0 q1 q2 q3 q4 a0 a1 a2 a3 a4
  rw [← HAB.out] at a0 a1 a2 a3 a4
  go_wp2_with fail
  rw [HWA.out, HAB.out]
  rw [HWA.out] at q0 q1 q2 q3 q4 a0 a1 a2 a3 a4
  rw [HAB.out] at a0 a1 a2 a3 a4
  have w1' : IntKind.i64.wrap (qc : Int) = qc := wrap_i64_small _ (by omega) (by omega)
  have w2' : IntKind.i64.wrap (sq : Int) = sq := wrap_i64_small _ (by omega) (by omega)
  have w3' : IntKind.i64.wrap ((sq : Int) + 1) = (sq : Int) + 1 := wrap_i64_small _ (by omega) (by omega)
  go_quiet (fail)
  clear w1' w2' w3' hcq hsq
  clear q0 q1 q2 q3 q4 a1 a2 a3
  have HFB := Lib.hid (HF2.out.drewN nq)
  have fB := (Fr.refl (fun _ => False) wA).drewN nq
  obtain ⟨wB, hwB⟩ : ∃ wB, wA.drewN nq = wB := ⟨_, rfl⟩
  rw [hwB] at HFB fB ⊢
  have HWB := Lib.hid hwB
  have HBA := Lib.hid fB
  have HSB := Lib.hid (HSS.out.fr fB id id id)
  have HOBB := Lib.hid (fB.obj HOB.out id)
  have HACB := Lib.hid (fB.obj HOAC.out id)
  have HHB := Lib.hid (show Heap wB hb p 16384 32768 from fB.obj HH2.out id)
  have HMB := Lib.hid (HM2.out.fr fB id)
  have HOTB := Lib.hid (fB.owns HO2.out (fun _ _ => id))
  have HOWB := Lib.hid (HW2.out.old fB ⟨id, id, id, id⟩ (fun _ _ _ e => e.elim))
  have HATB := Lib.hid (fB.cell HAT.out id)
  have HOAB := Lib.hid (fB.owns HOA.out (fun _ _ => id))
  have HOLB := Lib.hid (fB.owns HOL.out (fun _ _ => id))
  have HOWNB := Lib.hid (fun i (hi : i < L.length) => (HOWN.out i hi).old fB)
  have a0 := fB.cell HA0.out.1 id
  have a1 := fB.cell HA0.out.2.1 id
  have a4 := fB.cell HA0.out.2.2.2.2 id
  have q4 := fB.cell HQ0.out.2.2.2.2 id
  clear hwB fB
  have hkc : (k : Int) ≤ 60 := by omega
  have hclL : cq < L.length := by rw [HLK.out]; exact hcqk
  have hfw := HFEW.out (L[cq]'hclL) (List.getElem_mem _)
  obtain ⟨sz0, hsz0⟩ : ∃ s0, (L[cq]'hclL).size = s0 := ⟨_, rfl⟩
  rw [hsz0] at hfw
  obtain ⟨sz, hsz1⟩ : ∃ sz : Nat, sz0 = (sz : Int) := ⟨sz0.toNat, by omega⟩
  have hsz := hsz0.trans hsz1
  subst hsz1
  clear hsz0
  have hszb : 8 ≤ sz ∧ sz ≤ 16000 ∧ sz % 8 = 0 := by omega
  clear hfw
  have hsv := HST.out.cst.sizev hcqk hclL hsz (by omega) (by omega)
  obtain ⟨m8, hm8⟩ : ∃ m8 : Nat, (sz : Int) - 8 = (m8 : Int) := ⟨sz - 8, by omega⟩
  have HM8 := Lib.hid (show sz - 8 = m8 by omega)
  have hcqb : -9223372036854775808 ≤ ((A cq : Nat) : Int) ∧ ((A cq : Nat) : Int) ≤ 9223372036854775807 := by
    have := HST.out.cst.pl cq hcqk
    have := HST.out.cst.xb
    have := HST.out.cst.big
    omega
  have HCB := Lib.hid hcqb
  have HOH := Lib.hid (fun W (h : Mat 108 W p g bs) (hh : Heap W hb p 16384 32768) => oheap_any hb p g bs 16384 32768 l ((A cq : Nat) : Int) sz W h hh HST.out.blks (by omega) (by rw [HST.out.len]; exact Nat.le_refl _) HST.out.lt HX.out.hd.2.2.2.1 hcqb hsv)
  have HSZ := Lib.hid hsz
  have HSZB := Lib.hid hszb
  have hm8b : m8 ≤ 16000 := by omega
  have hr := fun w => Try.strings_Repeat ⟨#[0]⟩ m8 w (by omega) (by show 1 * m8 ≤ _; omega)
  have hrl : Lib.repeatL (ByteArray.mk #[0]).data.toList m8 = List.replicate m8 0 := repeatL_zero m8
  rw [hrl] at hr
  have HR := Lib.hid hr
  obtain ⟨i0, hi, hz0, hz1, hz2⟩ := info_parts infoTh
  have HI := Lib.hid hi
  have HZ := Lib.hid (And.intro hz0 (And.intro hz1 hz2))
  have hcq0 : (0 : Int) ≤ cq := by omega
  have hcqk' : (cq : Int) < k := by omega
  obtain ⟨u0', u1', u2', u3', u4', _, _, _, _, _, _⟩ := five_cells HOBB.out
  have hat := HATB.out
  have HNG := Lib.hid (show wb ≠ g ∧ gA ≠ g ∧ ab ≠ g ∧ gL ≠ g ∧ wb ≠ b ∧ gA ≠ b ∧ ab ≠ b ∧ gL ≠ b ∧ wb ≠ mb ∧ gA ≠ mb ∧ gL ≠ mb ∧ hb ≠ g ∧ hb ≠ b from by have h1 := HX.out.lt; have h2 := HGA.out; have h3 := HLT.out; have h4 := HX.out.wd; have h5 := HX.out.mB; have h6 := HX.out.md; have h7 := HX.out.hd; omega)
  have vl0 : wB.cell? ⟨gL, cq * 4 + 1, none⟩ = some (.int .i64 (sz : Int)) := by
    have := owns_holds HOLB.out ⟨gL, 0, none⟩ rfl (cq * 4 + 1) (.int .i64 (sz : Int)) (by rw [rows4_get _ _ _ _ (r4_get L vs cq hclL) (by omega), ← hsz]; rfl)
    rwa [addr_add'] at this
  have HVL := Lib.hid vl0
  have HV4 := Lib.hid u4'
  have HU0 := Lib.hid (And.intro u0' (And.intro u1' u3'))
  clear hsz hsv hcqb hr hrl hi hz0 hz1 hz2 vl0 hszb
  go_wp2_with fail
  go_region_held3 (fun W => W.cell? ⟨wb, 0, none⟩ = some (.pointer (some ⟨p, 0, none⟩)) ∧ W.cell? ⟨wb, 3, none⟩ = some (.slice (some ⟨gA, 0, none⟩) k cA) ∧ W.cell? ⟨gA, cq, none⟩ = some (.int .i64 ((A cq : Nat) : Int)) ∧ Fr (fun j => j = g) wB W)
    ((go_split_ands; refine (fun hF => ⟨Fr.cell hF u0' HNG.out.1, Fr.cell hF u3' HNG.out.1, Fr.cell hF hat HNG.out.2.1, hF⟩ : Fr (fun j => j = g) wB _ → _) ?_; repeat' first | exact Fr.refl _ _ | assumption | apply Fr.drew | apply Fr.alloc))
    (first | (go_at_call 40; go_split_ands; refine (HOH.out _ (Mat.drew HSB.out.mat) HHB.out).mono ?_; rintro e w9 ⟨hp, hf⟩; obtain ⟨atv, fv, rfl, hpd⟩ := heap_got HST.out hcqk HSZB.out.2.2 HSZB.out.1 hp; have hf9 := Fr.undrew hf) | fail)
  have HF9 := Lib.hid hf9
  have HPD := Lib.hid hpd
  have va := hf9.cell a0 HNG.out.2.2.1
  clear hp hpd hf hf9 u0' u1' u2' u3' u4' a0 a1 a4 q4 hat
  rcases HPD.out with ⟨rfl, rfl, hm⟩ | ⟨aH, lH, bsH, rfl, rfl, ha, hm, hbl, hst', hu1, hu2, hu3, hu4⟩
  · have HM9 := Lib.hid hm
    clear hm
    go_wp2_with fail
    obtain ⟨hd1, hd2, hd3, hd4, hd5, hd6⟩ := HX.out
    have rest := rest_fr HF9.out (by omega) (by omega) (fun i cs e hi => by
      subst e
      rw [HSB.out.mat.2.2.1] at hi; simp at hi) HHB.out HMB.out HOTB.out
    obtain ⟨lC, hlC⟩ : ∃ lC, l = lC := ⟨_, rfl⟩
    obtain ⟨bsC, hbC⟩ : ∃ bsC, bs = bsC := ⟨_, rfl⟩
    have HSC := Lib.hid (HSB.out.wrote HF9.out HM9.out rfl)
    have HSTC := Lib.hid HST.out
    have HOWC := Lib.hid (HOWB.out.turn (HF9.out.mono (T := fun j => j = b ∨ j = g) fun _ _ e => .inr e) HSC.out HST.out (by omega))
    have HINC := Lib.hid HIN.out
    rw [hlC] at HINC
    rw [hbC] at HSC
    rw [hlC, hbC] at HSTC HOWC
    have HHC := Lib.hid rest.1
    have HMC := Lib.hid rest.2.1
    have HOTC := Lib.hid rest.2.2
    have HFRC := Lib.hid (HFB.out.after HF9.out (S := fun _ => False) (fun i hi e => by omega))
    have HOBC := Lib.hid (HF9.out.obj HOBB.out HNG.out.1)
    have HATC := Lib.hid (HF9.out.cell HATB.out HNG.out.2.1)
    have HV4C := Lib.hid (HF9.out.cell HV4.out HNG.out.1)
    have HVLC := Lib.hid (HF9.out.cell HVL.out HNG.out.2.2.2.1)
    obtain ⟨wC, hwC⟩ : ∃ wC, w9 = wC := ⟨_, rfl⟩
    rw [hwC] at HSC HOWC HHC HMC HOTC HFRC HOBC HATC HV4C HVLC ⊢
    clear hwC hlC hbC rest hd1 hd2 hd3 hd4 hd5 hd6 va
    have HDD := Lib.hid (fun W (h : Sat W b p g 16 16384 x bsC) => odict_any b p g 16 16384 x bsC ((A cq : Nat) : Int) sz W h HSTC.out.x8 HCB.out (HSTC.out.cst.sizev hcqk hclL HSZ.out (by have := HSZB.out; omega) (by have := HSZB.out; omega)))
    obtain ⟨u0', u1', u2', u3', u4', _, _, _, _, _, _⟩ := five_cells HOBC.out
    have hat := HATC.out
    go_region_held3 (fun W => W.cell? ⟨wb, 1, none⟩ = some (.pointer (some ⟨b, 0, none⟩)) ∧ W.cell? ⟨wb, 3, none⟩ = some (.slice (some ⟨gA, 0, none⟩) k cA) ∧ W.cell? ⟨gA, cq, none⟩ = some (.int .i64 ((A cq : Nat) : Int)) ∧ Fr (fun j => j = b ∨ j = g) wC W)
      ((go_split_ands; refine (fun hF => ⟨Fr.cell hF u1' (fun e => e.elim HNG.out.2.2.2.2.1 HNG.out.1), Fr.cell hF u3' (fun e => e.elim HNG.out.2.2.2.2.1 HNG.out.1), Fr.cell hF hat (fun e => e.elim HNG.out.2.2.2.2.2.1 HNG.out.2.1), hF⟩ : Fr (fun j => j = b ∨ j = g) wC _ → _) ?_; repeat' first | exact Fr.refl _ _ | assumption | apply Fr.drew | apply Fr.alloc))
      (first | (go_at_call 42; go_split_ands; refine (HDD.out _ (Sat.drew HSC.out)).mono ?_; rintro e wP ⟨hp, hf⟩; obtain ⟨atv, fv, rfl, hpd⟩ := dict_got HSTC.out hcqk HSZB.out.2.2 HSZB.out.1 hp; have hfP := Fr.undrew hf) | fail)
    have HFP := Lib.hid hfP
    have HPD2 := Lib.hid hpd
    clear hp hpd hf hfP u0' u1' u2' u3' u4' hat
    obtain ⟨hd1, hd2, hd3, hd4, hd5, hd6⟩ := HX.out
    have rest := rest_fr HFP.out (by omega) (by omega) (fun i cs e hi => by
      rcases e with rfl | rfl
      · rw [HSC.out.2.2.1] at hi; simp at hi
      · rw [HSC.out.mat.2.2.1] at hi; simp at hi) HHC.out HMC.out HOTC.out
    have HHP := Lib.hid rest.1
    have HMP := Lib.hid rest.2.1
    have HOTP := Lib.hid rest.2.2
    have HFRP := Lib.hid (HFRC.out.after HFP.out (S := fun _ => False) (fun i hi e => by omega))
    clear rest hd1 hd2 hd3 hd4 hd5 hd6
    rcases HPD2.out with ⟨rfl, rfl, hm⟩ | ⟨bsP, rfl, rfl, hm, hst'⟩
    · have HMS := Lib.hid hm
      clear hm
      go_wp2_with fail
      have HOS := Lib.hid (show OSL wb B p g b hb mb (j + 1) vT wP from ⟨k, A, L, lC, T, bsC, x, nn, U, HOWC.out.turn HFP.out HMS.out HSTC.out (by have h1 := HX.out.wd; have h2 := HX.out.lt; omega), HHP.out, HMP.out, HINC.out, HOTP.out, by omega, HFEW.out.mono (Nat.le_succ j), fun e => absurd e hk0⟩)
      have HFR := Lib.hid HFRP.out
      obtain ⟨w5, hw5⟩ : ∃ w5, wP = w5 := ⟨_, rfl⟩
      rw [hw5] at HOS HFR ⊢
      clear hw5
      obtain ⟨k', A', L', l', T', bs', x', nn', U', t1, t2, t3, t4, t5, ⟨t6, t7, t8⟩, t9, t10⟩ := HOS.out
      have HQ1 := Lib.hid (fun sel W (hW : Fr (fun _ => False) w5 W) => holds_own sel W (t1.old hW ⟨id, id, id, id⟩ (fun _ _ _ e => e.elim)) (hW.owns t5 (fun _ _ => id)) (by omega) (fun i hi => by have := t9 L'[i] (List.getElem_mem _); omega) (by omega))
      clear t1 t2 t3 t4 t5 t6 t7 t8 t9 t10
      refine (HQ1.out _ _ (Fr.refl _ _)).mono ?_
      rintro e w6 ⟨rfl, hf⟩
      have F6 := Lib.hid hf
      clear hf
      go_wp2_with fail
      refine (HQ1.out _ _ F6.out).mono ?_
      rintro e w7 ⟨rfl, hf⟩
      have HOS7 := Lib.hid (HOS.out.old (F6.out.trans hf))
      have HFR7 := Lib.hid (HFR.out.trans (F6.out.trans hf))
      clear hf
      go_wp2_with fail
      exact HQ.out _ _ _ _ _ _ _ _ _ _ _ _ _ _ _ _ _ _ _ _ _ _ _ _ _ _ _ _ _ _ _ _ _ _ _ _ _ _ _ _ _ _ _ _ _ _ _ _ _ _ _ _ _ _ _ _ _ _ _ _ _ _ _ _ _ _ _ _ _ _ _ _ _ _ _ _ _ _ _ _ _ _ _ _ _ _ _ _ _ _ _ _ _ _ _ _ _ _ _ _ _ _ _ _ _ _ _ _ _ _ _ _ _ _ _ _ _ _ _ _ _ _ _ _ _ _ _ _ _ _ _ _ _ _ _ _ _ _ _ _ _ _ _ _ _ _ _ _ _ _ _ _ _ _ _ _ _ _ _ _ _ _ _ _ _ _ _ _ _ _ _ _ _ _ _ _ _ _ _ _ _ _ _ _ _ _ _ _ _ _ _ _ _ _ _ _ _ _ _ _ _ _ _ _ _ _ _ _ _ _ _ _ _ _ _ _ _ _ _ _ _ _ _ _ _ _ _ _ _ _ _ _ _ _ _ _ _ _ _ _ _ _ _ _ _ _ _ _ _ _ _ _ _ _ _ _ _ _ _ _ _ _ _ _ _ _ _ _ _ _ _ _ _ _ _ _ _ _ _ _ _ _ _ _ _ _ _ _ _ _ _ _ HOS7.out HFR7.out
    · obtain ⟨aP, haP⟩ : ∃ aP, x = aP := ⟨_, rfl⟩
      have HOWP := Lib.hid (HOWC.out.turn HFP.out hm hst' (by have h1 := HX.out.wd; have h2 := HX.out.lt; omega))
      obtain ⟨xP, hxP⟩ : ∃ xP, x + sz = xP := ⟨_, rfl⟩
      rw [HM8.out, hxP, haP] at HOWP
      obtain ⟨lP, hlP⟩ : ∃ lP, lC = lP := ⟨_, rfl⟩
      have HINP := Lib.hid HINC.out
      rw [hlP] at HOWP HINP
      obtain ⟨nP, hnP⟩ : ∃ nP, nn = nP := ⟨_, rfl⟩
      obtain ⟨UP, hUP⟩ : ∃ UP : Int → Bool, U = UP := ⟨_, rfl⟩
      rw [hnP, hUP] at HMP
      rw [hUP] at HINP
      have HNP := Lib.hid (show nP ≤ j + 1 by omega)
      have v4 := HFP.out.cell HV4C.out (fun e => e.elim HNG.out.2.2.2.2.1 HNG.out.1)
      have vl := HFP.out.cell HVLC.out (fun e => e.elim HNG.out.2.2.2.2.2.2.2.1 HNG.out.2.2.2.1)
      have hTb : T.length ≤ 60 := by omega
      have haPb : aP ≤ 1048576 := by have h1 := HSC.out.2.2.2.2.2.1; omega
      clear hm hst' hxP hlP hnP hUP
      go_wp2_with fail
      rw [haP]
      clear haP
      refine (HR.out _).mono ?_
      rintro e w11 ⟨rfl, hbw⟩
      have f11 : Fr (fun _ => False) wP w11 := Fr.of_below hbw _
      have HF11 := Lib.hid f11
      have HOT11 := Lib.hid (f11.owns HOTP.out (fun _ _ => id))
      have HT11 := Lib.hid (th_new w11 aP cq ⟨(List.replicate m8 0).toArray⟩)
      have hBw : B ≤ w11.heap.size := by have h1 := HMP.out.lt; have h2 := f11.size; have h3 := HX.out.mB; omega
      clear hbw f11 v4 vl
      go_wp2_with (at_builtin; refine wpList_append_own _ rfl (.tmp 216) (.tmp 228) 84 rfl B 95 i0 _ 3 32 Try.underlying84 HI.out HZ.out.1 HZ.out.2.1 HZ.out.2.2 rfl (by decide) _ T.length (thcells T) rfl (HOT11.out.alloc _) ⟨_, 0, none⟩ 1 1 [.int .i64 (aP : Nat), .int .i64 (cq : Nat), .string ⟨(List.replicate m8 0).toArray⟩] rfl rfl HT11.out (by simp [Value.oneCell']) (by unfold maxLen; omega) (by omega) (by simp; omega) ?_; intro v5 w5 hown5 hgrow5 _; have HV5 := Lib.hid hown5; have HG5 := Lib.hid hgrow5; clear hown5 hgrow5)
      have f5 : Fr (fun i => vT.ownBlock = some i) wP w5 := ((Fr.some HF11.out fun _ e => e.elim).alloc (.cells #[.int .i64 (aP : Nat), .int .i64 (cq : Nat), .string ⟨(List.replicate m8 0).toArray⟩] 95)).grown HG5.out (fun i e => .inr (show vT.ownBlock = some i from e))
      obtain ⟨hd1, hd2, hd3, hd4, hd5, hd6⟩ := HX.out
      have hvb : ∀ i, vT.ownBlock = some i → B ≤ i := fun i e => (HOTP.out.lt i e).1
      have hvn : ∀ i, i < B → ¬ vT.ownBlock = some i := fun i h e => by have := hvb i e; omega
      have hvt : ∀ i cs t, vT.ownBlock = some i → wP.heap[i]? = some (.cells cs t (0, 0)) → t = 95 := fun i cs t e hi => by
        obtain ⟨cs2, h2⟩ := owns_ty HOTP.out e
        rw [h2] at hi
        simp only [Option.some.injEq, Obj.cells.injEq] at hi
        exact hi.2.1.symm
      have HOS := Lib.hid (show OSL wb B p g b hb mb (j + 1) v5 w5 from ⟨k, A, L, lP, T ++ [⟨aP, cq, List.replicate m8 0⟩], bsP, xP, nP, UP, HOWP.out.old f5 ⟨hvn wb hd2.1, hvn p hd2.2.2.1, hvn g hd2.2.2.2, hvn b hd2.2.1⟩ (fun i cs t e hi => by rw [hvt i cs t e hi]; decide), f5.obj HHP.out (hvn hb hd3.1), HMP.out.fr f5 (hvn mb hd5.1), HINP.out, by rw [thcells_snoc, List.length_append]; exact HV5.out, ⟨by omega, HNP.out, by rw [List.length_append, List.length_singleton]; omega⟩, HFEW.out.mono (Nat.le_succ j), fun e => absurd e hk0⟩)
      have HFR := Lib.hid (HFRP.out.after f5 (S := fun _ => False) (fun i hi e => by have := hvb i e; omega))
      clear f5 hd1 hd2 hd3 hd4 hd5 hd6 hvb hvn hvt
      go_wp2_with fail
      obtain ⟨k', A', L', l', T', bs', x', nn', U', t1, t2, t3, t4, t5, ⟨t6, t7, t8⟩, t9, t10⟩ := HOS.out
      have HQ1 := Lib.hid (fun sel W (hW : Fr (fun _ => False) w5 W) => holds_own sel W (t1.old hW ⟨id, id, id, id⟩ (fun _ _ _ e => e.elim)) (hW.owns t5 (fun _ _ => id)) (by omega) (fun i hi => by have := t9 L'[i] (List.getElem_mem _); omega) (by omega))
      clear t1 t2 t3 t4 t5 t6 t7 t8 t9 t10
      refine (HQ1.out _ _ (Fr.refl _ _)).mono ?_
      rintro e w6 ⟨rfl, hf⟩
      have F6 := Lib.hid hf
      clear hf
      go_wp2_with fail
      refine (HQ1.out _ _ F6.out).mono ?_
      rintro e w7 ⟨rfl, hf⟩
      have HOS7 := Lib.hid (HOS.out.old (F6.out.trans hf))
      have HFR7 := Lib.hid (HFR.out.trans (F6.out.trans hf))
      clear hf
      go_wp2_with fail
      exact HQ.out _ _ _ _ _ _ _ _ _ _ _ _ _ _ _ _ _ _ _ _ _ _ _ _ _ _ _ _ _ _ _ _ _ _ _ _ _ _ _ _ _ _ _ _ _ _ _ _ _ _ _ _ _ _ _ _ _ _ _ _ _ _ _ _ _ _ _ _ _ _ _ _ _ _ _ _ _ _ _ _ _ _ _ _ _ _ _ _ _ _ _ _ _ _ _ _ _ _ _ _ _ _ _ _ _ _ _ _ _ _ _ _ _ _ _ _ _ _ _ _ _ _ _ _ _ _ _ _ _ _ _ _ _ _ _ _ _ _ _ _ _ _ _ _ _ _ _ _ _ _ _ _ _ _ _ _ _ _ _ _ _ _ _ _ _ _ _ _ _ _ _ _ _ _ _ _ _ _ _ _ _ _ _ _ _ _ _ _ _ _ _ _ _ _ _ _ _ _ _ _ _ _ _ _ _ _ _ _ _ _ _ _ _ _ _ _ _ _ _ _ _ _ _ _ _ _ _ _ _ _ _ _ _ _ _ _ _ _ _ _ _ _ _ _ _ _ _ _ _ _ _ _ _ _ _ _ _ _ _ _ _ _ _ _ _ _ _ _ _ _ _ _ _ _ _ _ _ _ _ _ _ _ _ _ _ _ _ _ _ _ _ _ HOS7.out HFR7.out
  · have HM9 := Lib.hid hm
    have HST9 := Lib.hid hst'
    have HBL := Lib.hid hbl
    have HU := Lib.hid (And.intro hu1 (And.intro hu2 (And.intro hu3 hu4)))
    obtain ⟨hd1, hd2, hd3, hd4, hd5, hd6⟩ := HX.out
    have rest := rest_fr HF9.out (by omega) (by omega) (fun i cs e hi => by
      subst e
      rw [HSB.out.mat.2.2.1] at hi; simp at hi) HHB.out HMB.out HOTB.out
    have HS9 := Lib.hid (HSB.out.wrote HF9.out HM9.out hbl)
    have HH9 := Lib.hid rest.1
    have HMM9 := Lib.hid rest.2.1
    have HOT9 := Lib.hid rest.2.2
    have HFR9 := Lib.hid (HFB.out.after HF9.out (S := fun _ => False) (fun i hi e => by omega))
    have HOB9 := Lib.hid (HF9.out.obj HOBB.out HNG.out.1)
    have HAT9 := Lib.hid (HF9.out.cell HATB.out HNG.out.2.1)
    have HV49 := Lib.hid (HF9.out.cell HV4.out HNG.out.1)
    have HVL9 := Lib.hid (HF9.out.cell HVL.out HNG.out.2.2.2.1)
    have HFREE := Lib.hid (hfree_any hb p g bsH 16384 32768 lH ((aH : Nat) : Int) w9 HM9.out HH9.out hst'.blks (by omega) (by rw [hst'.len]; exact Nat.le_refl _) hst'.lt hd3.2.2.2.1)
    clear hm hbl hst' hu1 hu2 hu3 hu4 rest hd1 hd2 hd3 hd4 hd5 hd6
    go_wp2_with fail
    refine HFREE.out.mono ?_
    rintro e wC ⟨hp, hfC⟩
    rcases free_state HST9.out hp with ⟨_, _, hno⟩ | ⟨_, lC, bsC, rfl, hmC, hblC, hfd⟩
    · obtain ⟨m, hm⟩ := HU.out.1
      exact absurd hm (hno m)
    obtain ⟨hd1, hd2, hd3, hd4, hd5, hd6⟩ := HX.out
    have rest := rest_fr hfC (by omega) (by omega) (fun i cs e hi => by
      subst e
      rw [HS9.out.mat.2.2.1] at hi; simp at hi) HH9.out HMM9.out HOT9.out
    have HSTC := Lib.hid (HST9.out.freeNew hfd)
    have HSC := Lib.hid (HS9.out.wrote hfC hmC hblC)
    have HF9C := Lib.hid (HF9.out.trans hfC)
    have HOWC := Lib.hid (HOWB.out.turn (HF9C.out.mono (T := fun j => j = b ∨ j = g) fun _ _ e => .inr e) HSC.out HSTC.out (by omega))
    have HINC := Lib.hid (HIN.out.same (l' := lC) (fun y m => by
      rw [hfd.used y m]
      refine ⟨fun ⟨h1, h2⟩ => ?_, fun h1 => ⟨HU.out.2.2.1 y m h1, fun e => ?_⟩⟩
      · rcases HU.out.2.2.2 y m h1 with h3 | h3
        · exact absurd h3 h2
        · exact h3
      · subst e
        exact HU.out.2.1 m h1))
    have HHC := Lib.hid rest.1
    have HMC := Lib.hid rest.2.1
    have HOTC := Lib.hid rest.2.2
    have HFRC := Lib.hid (HFR9.out.after hfC (S := fun _ => False) (fun i hi e => by omega))
    have HOBC := Lib.hid (hfC.obj HOB9.out HNG.out.1)
    have HATC := Lib.hid (hfC.cell HAT9.out HNG.out.2.1)
    have HV4C := Lib.hid (hfC.cell HV49.out HNG.out.1)
    have HVLC := Lib.hid (hfC.cell HVL9.out HNG.out.2.2.2.1)
    clear rest hd1 hd2 hd3 hd4 hd5 hd6 hp hfC hmC hblC hfd va
    go_wp2_with fail
    have HDD := Lib.hid (fun W (h : Sat W b p g 16 16384 x bsC) => odict_any b p g 16 16384 x bsC ((A cq : Nat) : Int) sz W h HSTC.out.x8 HCB.out (HSTC.out.cst.sizev hcqk hclL HSZ.out (by have := HSZB.out; omega) (by have := HSZB.out; omega)))
    obtain ⟨u0', u1', u2', u3', u4', _, _, _, _, _, _⟩ := five_cells HOBC.out
    have hat := HATC.out
    go_region_held3 (fun W => W.cell? ⟨wb, 1, none⟩ = some (.pointer (some ⟨b, 0, none⟩)) ∧ W.cell? ⟨wb, 3, none⟩ = some (.slice (some ⟨gA, 0, none⟩) k cA) ∧ W.cell? ⟨gA, cq, none⟩ = some (.int .i64 ((A cq : Nat) : Int)) ∧ Fr (fun j => j = b ∨ j = g) wC W)
      ((go_split_ands; refine (fun hF => ⟨Fr.cell hF u1' (fun e => e.elim HNG.out.2.2.2.2.1 HNG.out.1), Fr.cell hF u3' (fun e => e.elim HNG.out.2.2.2.2.1 HNG.out.1), Fr.cell hF hat (fun e => e.elim HNG.out.2.2.2.2.2.1 HNG.out.2.1), hF⟩ : Fr (fun j => j = b ∨ j = g) wC _ → _) ?_; repeat' first | exact Fr.refl _ _ | assumption | apply Fr.drew | apply Fr.alloc))
      (first | (go_at_call 42; go_split_ands; refine (HDD.out _ (Sat.drew HSC.out)).mono ?_; rintro e wP ⟨hp, hf⟩; obtain ⟨atv, fv, rfl, hpd⟩ := dict_got HSTC.out hcqk HSZB.out.2.2 HSZB.out.1 hp; have hfP := Fr.undrew hf) | fail)
    have HFP := Lib.hid hfP
    have HPD2 := Lib.hid hpd
    clear hp hpd hf hfP u0' u1' u2' u3' u4' hat
    obtain ⟨hd1, hd2, hd3, hd4, hd5, hd6⟩ := HX.out
    have rest := rest_fr HFP.out (by omega) (by omega) (fun i cs e hi => by
      rcases e with rfl | rfl
      · rw [HSC.out.2.2.1] at hi; simp at hi
      · rw [HSC.out.mat.2.2.1] at hi; simp at hi) HHC.out HMC.out HOTC.out
    have HHP := Lib.hid rest.1
    have HMP := Lib.hid rest.2.1
    have HOTP := Lib.hid rest.2.2
    have HFRP := Lib.hid (HFRC.out.after HFP.out (S := fun _ => False) (fun i hi e => by omega))
    clear rest hd1 hd2 hd3 hd4 hd5 hd6
    rcases HPD2.out with ⟨rfl, rfl, hm⟩ | ⟨bsP, rfl, rfl, hm, hst'⟩
    · have HMS := Lib.hid hm
      clear hm
      go_wp2_with fail
      have HOS := Lib.hid (show OSL wb B p g b hb mb (j + 1) vT wP from ⟨k, A, L, lC, T, bsC, x, nn, U, HOWC.out.turn HFP.out HMS.out HSTC.out (by have h1 := HX.out.wd; have h2 := HX.out.lt; omega), HHP.out, HMP.out, HINC.out, HOTP.out, by omega, HFEW.out.mono (Nat.le_succ j), fun e => absurd e hk0⟩)
      have HFR := Lib.hid HFRP.out
      obtain ⟨w5, hw5⟩ : ∃ w5, wP = w5 := ⟨_, rfl⟩
      rw [hw5] at HOS HFR ⊢
      clear hw5
      obtain ⟨k', A', L', l', T', bs', x', nn', U', t1, t2, t3, t4, t5, ⟨t6, t7, t8⟩, t9, t10⟩ := HOS.out
      have HQ1 := Lib.hid (fun sel W (hW : Fr (fun _ => False) w5 W) => holds_own sel W (t1.old hW ⟨id, id, id, id⟩ (fun _ _ _ e => e.elim)) (hW.owns t5 (fun _ _ => id)) (by omega) (fun i hi => by have := t9 L'[i] (List.getElem_mem _); omega) (by omega))
      clear t1 t2 t3 t4 t5 t6 t7 t8 t9 t10
      refine (HQ1.out _ _ (Fr.refl _ _)).mono ?_
      rintro e w6 ⟨rfl, hf⟩
      have F6 := Lib.hid hf
      clear hf
      go_wp2_with fail
      refine (HQ1.out _ _ F6.out).mono ?_
      rintro e w7 ⟨rfl, hf⟩
      have HOS7 := Lib.hid (HOS.out.old (F6.out.trans hf))
      have HFR7 := Lib.hid (HFR.out.trans (F6.out.trans hf))
      clear hf
      go_wp2_with fail
      exact HQ.out _ _ _ _ _ _ _ _ _ _ _ _ _ _ _ _ _ _ _ _ _ _ _ _ _ _ _ _ _ _ _ _ _ _ _ _ _ _ _ _ _ _ _ _ _ _ _ _ _ _ _ _ _ _ _ _ _ _ _ _ _ _ _ _ _ _ _ _ _ _ _ _ _ _ _ _ _ _ _ _ _ _ _ _ _ _ _ _ _ _ _ _ _ _ _ _ _ _ _ _ _ _ _ _ _ _ _ _ _ _ _ _ _ _ _ _ _ _ _ _ _ _ _ _ _ _ _ _ _ _ _ _ _ _ _ _ _ _ _ _ _ _ _ _ _ _ _ _ _ _ _ _ _ _ _ _ _ _ _ _ _ _ _ _ _ _ _ _ _ _ _ _ _ _ _ _ _ _ _ _ _ _ _ _ _ _ _ _ _ _ _ _ _ _ _ _ _ _ _ _ _ _ _ _ _ _ _ _ _ _ _ _ _ _ _ _ _ _ _ _ _ _ _ _ _ _ _ _ _ _ _ _ _ _ _ _ _ _ _ _ _ _ _ _ _ _ _ _ _ _ _ _ _ _ _ _ _ _ _ _ _ _ _ _ _ _ _ _ _ _ _ _ _ _ _ _ _ _ _ _ _ _ _ _ _ _ _ _ _ _ _ _ HOS7.out HFR7.out
    · obtain ⟨aP, haP⟩ : ∃ aP, x = aP := ⟨_, rfl⟩
      have HOWP := Lib.hid (HOWC.out.turn HFP.out hm hst' (by have h1 := HX.out.wd; have h2 := HX.out.lt; omega))
      obtain ⟨xP, hxP⟩ : ∃ xP, x + sz = xP := ⟨_, rfl⟩
      rw [HM8.out, hxP, haP] at HOWP
      obtain ⟨lP, hlP⟩ : ∃ lP, lC = lP := ⟨_, rfl⟩
      have HINP := Lib.hid HINC.out
      rw [hlP] at HOWP HINP
      obtain ⟨nP, hnP⟩ : ∃ nP, nn = nP := ⟨_, rfl⟩
      obtain ⟨UP, hUP⟩ : ∃ UP : Int → Bool, U = UP := ⟨_, rfl⟩
      rw [hnP, hUP] at HMP
      rw [hUP] at HINP
      have HNP := Lib.hid (show nP ≤ j + 1 by omega)
      have v4 := HFP.out.cell HV4C.out (fun e => e.elim HNG.out.2.2.2.2.1 HNG.out.1)
      have vl := HFP.out.cell HVLC.out (fun e => e.elim HNG.out.2.2.2.2.2.2.2.1 HNG.out.2.2.2.1)
      have hTb : T.length ≤ 60 := by omega
      have haPb : aP ≤ 1048576 := by have h1 := HSC.out.2.2.2.2.2.1; omega
      clear hm hst' hxP hlP hnP hUP
      go_wp2_with fail
      rw [haP]
      clear haP
      refine (HR.out _).mono ?_
      rintro e w11 ⟨rfl, hbw⟩
      have f11 : Fr (fun _ => False) wP w11 := Fr.of_below hbw _
      have HF11 := Lib.hid f11
      have HOT11 := Lib.hid (f11.owns HOTP.out (fun _ _ => id))
      have HT11 := Lib.hid (th_new w11 aP cq ⟨(List.replicate m8 0).toArray⟩)
      have hBw : B ≤ w11.heap.size := by have h1 := HMP.out.lt; have h2 := f11.size; have h3 := HX.out.mB; omega
      clear hbw f11 v4 vl
      go_wp2_with (at_builtin; refine wpList_append_own _ rfl (.tmp 216) (.tmp 228) 84 rfl B 95 i0 _ 3 32 Try.underlying84 HI.out HZ.out.1 HZ.out.2.1 HZ.out.2.2 rfl (by decide) _ T.length (thcells T) rfl (HOT11.out.alloc _) ⟨_, 0, none⟩ 1 1 [.int .i64 (aP : Nat), .int .i64 (cq : Nat), .string ⟨(List.replicate m8 0).toArray⟩] rfl rfl HT11.out (by simp [Value.oneCell']) (by unfold maxLen; omega) (by omega) (by simp; omega) ?_; intro v5 w5 hown5 hgrow5 _; have HV5 := Lib.hid hown5; have HG5 := Lib.hid hgrow5; clear hown5 hgrow5)
      have f5 : Fr (fun i => vT.ownBlock = some i) wP w5 := ((Fr.some HF11.out fun _ e => e.elim).alloc (.cells #[.int .i64 (aP : Nat), .int .i64 (cq : Nat), .string ⟨(List.replicate m8 0).toArray⟩] 95)).grown HG5.out (fun i e => .inr (show vT.ownBlock = some i from e))
      obtain ⟨hd1, hd2, hd3, hd4, hd5, hd6⟩ := HX.out
      have hvb : ∀ i, vT.ownBlock = some i → B ≤ i := fun i e => (HOTP.out.lt i e).1
      have hvn : ∀ i, i < B → ¬ vT.ownBlock = some i := fun i h e => by have := hvb i e; omega
      have hvt : ∀ i cs t, vT.ownBlock = some i → wP.heap[i]? = some (.cells cs t (0, 0)) → t = 95 := fun i cs t e hi => by
        obtain ⟨cs2, h2⟩ := owns_ty HOTP.out e
        rw [h2] at hi
        simp only [Option.some.injEq, Obj.cells.injEq] at hi
        exact hi.2.1.symm
      have HOS := Lib.hid (show OSL wb B p g b hb mb (j + 1) v5 w5 from ⟨k, A, L, lP, T ++ [⟨aP, cq, List.replicate m8 0⟩], bsP, xP, nP, UP, HOWP.out.old f5 ⟨hvn wb hd2.1, hvn p hd2.2.2.1, hvn g hd2.2.2.2, hvn b hd2.2.1⟩ (fun i cs t e hi => by rw [hvt i cs t e hi]; decide), f5.obj HHP.out (hvn hb hd3.1), HMP.out.fr f5 (hvn mb hd5.1), HINP.out, by rw [thcells_snoc, List.length_append]; exact HV5.out, ⟨by omega, HNP.out, by rw [List.length_append, List.length_singleton]; omega⟩, HFEW.out.mono (Nat.le_succ j), fun e => absurd e hk0⟩)
      have HFR := Lib.hid (HFRP.out.after f5 (S := fun _ => False) (fun i hi e => by have := hvb i e; omega))
      clear f5 hd1 hd2 hd3 hd4 hd5 hd6 hvb hvn hvt
      go_wp2_with fail
      obtain ⟨k', A', L', l', T', bs', x', nn', U', t1, t2, t3, t4, t5, ⟨t6, t7, t8⟩, t9, t10⟩ := HOS.out
      have HQ1 := Lib.hid (fun sel W (hW : Fr (fun _ => False) w5 W) => holds_own sel W (t1.old hW ⟨id, id, id, id⟩ (fun _ _ _ e => e.elim)) (hW.owns t5 (fun _ _ => id)) (by omega) (fun i hi => by have := t9 L'[i] (List.getElem_mem _); omega) (by omega))
      clear t1 t2 t3 t4 t5 t6 t7 t8 t9 t10
      refine (HQ1.out _ _ (Fr.refl _ _)).mono ?_
      rintro e w6 ⟨rfl, hf⟩
      have F6 := Lib.hid hf
      clear hf
      go_wp2_with fail
      refine (HQ1.out _ _ F6.out).mono ?_
      rintro e w7 ⟨rfl, hf⟩
      have HOS7 := Lib.hid (HOS.out.old (F6.out.trans hf))
      have HFR7 := Lib.hid (HFR.out.trans (F6.out.trans hf))
      clear hf
      go_wp2_with fail
      exact HQ.out _ _ _ _ _ _ _ _ _ _ _ _ _ _ _ _ _ _ _ _ _ _ _ _ _ _ _ _ _ _ _ _ _ _ _ _ _ _ _ _ _ _ _ _ _ _ _ _ _ _ _ _ _ _ _ _ _ _ _ _ _ _ _ _ _ _ _ _ _ _ _ _ _ _ _ _ _ _ _ _ _ _ _ _ _ _ _ _ _ _ _ _ _ _ _ _ _ _ _ _ _ _ _ _ _ _ _ _ _ _ _ _ _ _ _ _ _ _ _ _ _ _ _ _ _ _ _ _ _ _ _ _ _ _ _ _ _ _ _ _ _ _ _ _ _ _ _ _ _ _ _ _ _ _ _ _ _ _ _ _ _ _ _ _ _ _ _ _ _ _ _ _ _ _ _ _ _ _ _ _ _ _ _ _ _ _ _ _ _ _ _ _ _ _ _ _ _ _ _ _ _ _ _ _ _ _ _ _ _ _ _ _ _ _ _ _ _ _ _ _ _ _ _ _ _ _ _ _ _ _ _ _ _ _ _ _ _ _ _ _ _ _ _ _ _ _ _ _ _ _ _ _ _ _ _ _ _ _ _ _ _ _ _ _ _ _ _ _ _ _ _ _ _ _ _ _ _ _ _ _ _ _ _ _ _ _ _ _ _ _ _ _ HOS7.out HFR7.out
end Go.Proofs.Ytajeiccfgnpbpaa.Mem
