/- The statement ObjectSends: its walk, of few acts. -/
import Derived.Test.YtajeiccfgnpbpaaQr
import Derived.Test.YtajeiccfgnpbpaaLvD
import Derived.Deep.DeepCutAuto
import Derived.Deep.DrawnRows
import Derived.Deep.QuietTactic
import Derived.BigQuiet
set_option linter.unusedSimpArgs false
set_option linter.unusedVariables false

namespace Go.Proofs.Ytajeiccfgnpbpaa.Mem
open Go.RowKit
attribute [local go_sem ↓] Go.wp_at_zero Go.wp_at_succ

/-- The state ahead of the first act. -/
theorem ow_start {wb B p g b : Nat} {w : World} (ho : w.heap[wb]? = some (.cells #[.pointer (some ⟨p, 0, none⟩), .pointer (some ⟨b, 0, none⟩), .int .i64 8, .slice none 0 0, .slice none 0 0] 56 (0, 0))) (hs : Sat w b p g 16 16384 16 (setv (setv (List.replicate 32768 0) 8 0) 16384 16384)) :
    OW wb B p g b 0 (fun _ => 0) [] [(16384, false)] [] (setv (setv (List.replicate 32768 0) 8 0) 16384 16384) 16 w := by
  have hl : (setv (setv (List.replicate 32768 0) 8 0) 16384 16384).length = 32768 := by rw [setv_length, setv_length, List.length_replicate]
  have hb := blks_new (setv (List.replicate 32768 0) 8 0) 16384 32768 (by omega) (by omega) (by omega) (by rw [setv_length, List.length_replicate]; omega) (by rw [setv_length, List.length_replicate]; omega)
  refine ⟨fun _ => .slice none 0 0, _, _, ho, hs, ⟨⟨rfl, by rw [hl]; omega, by rw [hl]; omega, Nat.le_refl _, ?_, fun i hi => by omega, fun i j _ hj => by omega, fun i hi => by omega, fun i hi => by omega, fun i hi => by omega, fun i r hr => by simp at hr, fun i r hr => by simp at hr, fun i hi => by omega, fun i r hr => by simp at hr, fun i r hr => by simp at hr⟩, by omega, by omega, by omega, hl, hb, by simp, fun t ht => by simp at ht, fun t ht => by simp at ht, fun t ht => by simp at ht, fun t ht => by simp at ht, fun t ht => by simp at ht, fun i j t u _ hi _ => by simp at hi⟩, fun _ => rfl, fun j hj => by simp at hj, .inl ⟨rfl, rfl, rfl⟩⟩
  rw [cellv_other _ _ _ _ (by omega), cellv_same _ _ _ (by rw [List.length_replicate]; omega) (by omega)]
  rfl

theorem five_set1 {w : World} {b : Nat} {x0 x1 x2 x3 x4 : Value} {t : TypeId} (h : w.heap[b]? = some (.cells #[x0, x1, x2, x3, x4] t (0, 0))) (y : Value) : (w.setCell ⟨b, 1, none⟩ y).heap[b]? = some (.cells #[x0, y, x2, x3, x4] t (0, 0)) := by
  have := heap_setCell_same w b 1 _ _ y h
  rw [this]
  rfl

set_option maxRecDepth 100000 in
set_option maxHeartbeats 16000000 in
theorem osLoop_any (a : Option Addr) (n c : Nat) (Q : Nat → ActS) (w : World) (h : IsActsS w a n Q) (hn : n ≤ 60) :
    Calls Try.prog 7 #[.slice a n c] w (fun e w' => e = .returned (.bool true) ∧ Fr (fun _ => False) w w') := by
  have d60 : decide ((60 : Int) < n) = false := by simp; omega
  have d60' : ¬ (60 : Int) < n := by omega
  go_enter Try.func7, Try.ntmps7
  go_wp2_with fail
  refine (L.lives13_any w).mono ?_
  rintro e w1 ⟨rfl, hf⟩
  have F1 := Lib.hid hf
  clear hf
  go_wp2_with fail
  refine (wnew_ok 32768 w1 (by omega) (by omega) (by omega)).mono ?_
  rintro e w2 ⟨p, g, b0, rfl, hp0, hg0, hb0, hs, hf⟩
  obtain ⟨bs0, hbs0⟩ : ∃ bs, setv (List.replicate 32768 0) 8 0 = bs := ⟨_, rfl⟩
  rw [hbs0] at hs
  have HBS := Lib.hid hbs0
  have hbl0 : bs0.length = 32768 := by rw [← hbs0, setv_length, List.length_replicate]
  have HBL := Lib.hid hbl0
  have O2 := Lib.hid (heap_alloc_last w2 (.cells #[.pointer (some ⟨p, 0, none⟩), .pointer (some ⟨b0, 0, none⟩), .int .i64 8, .slice none 0 0, .slice none 0 0] 56))
  have S2 := Lib.hid (hs.fr ((Fr.refl (fun _ => False) w2).alloc (.cells #[.pointer (some ⟨p, 0, none⟩), .pointer (some ⟨b0, 0, none⟩), .int .i64 8, .slice none 0 0, .slice none 0 0] 56)) id id id)
  have F2 := Lib.hid ((F1.out.trans hf).alloc (.cells #[.pointer (some ⟨p, 0, none⟩), .pointer (some ⟨b0, 0, none⟩), .int .i64 8, .slice none 0 0, .slice none 0 0] 56))
  have HD0 := Lib.hid (show b0 < w2.heap.size ∧ p < w2.heap.size ∧ g < w2.heap.size ∧ p ≠ g from by have := hs.lt; have := hs.mat.1; omega)
  have HB0 := Lib.hid (show w.heap.size ≤ w2.heap.size ∧ w.heap.size ≤ p ∧ w.heap.size ≤ g from by have := F1.out.size; have := hf.size; omega)
  have hsz3 : (w2.alloc (.cells #[.pointer (some ⟨p, 0, none⟩), .pointer (some ⟨b0, 0, none⟩), .int .i64 8, .slice none 0 0, .slice none 0 0] 56)).heap.size = w2.heap.size + 1 := by simp
  clear hs hf hp0 hg0 hb0 hbs0 hbl0
  go_wp2_with fail
  obtain ⟨wb, hwb⟩ : ∃ wb, w2.heap.size = wb := ⟨_, rfl⟩
  obtain ⟨w3, hw3⟩ : ∃ w3, w2.alloc (.cells #[.pointer (some ⟨p, 0, none⟩), .pointer (some ⟨b0, 0, none⟩), .int .i64 8, .slice none 0 0, .slice none 0 0] 56) = w3 := ⟨_, rfl⟩
  rw [hwb] at O2 HD0 HB0 hsz3 ⊢
  rw [hw3] at O2 S2 F2 hsz3 ⊢
  have HZ3 := Lib.hid hsz3
  clear hwb hw3 hsz3
  obtain ⟨q0, q1, q2, q3, q4, z0, z1, z2, z3, z4, _⟩ := five_cells O2.out
  have HN := Lib.hid (fun W (hW : Fr (fun _ => False) w3 W) => snew_ok p g 16 16384 bs0 W (S2.out.mat.fr hW id id) (by omega) (by rw [HBL.out]; omega))
  have HH := Lib.hid (fun W (hW : Fr (fun _ => False) w3 W) => here_any b0 p g 8 32768 16 bs0 W (S2.out.fr hW id id id))
  go_upto_region 4 with (fail)
  go_cut [] (fun wx => ∃ b : Nat, wx.heap[wb]? = some (.cells #[.pointer (some ⟨p, 0, none⟩), .pointer (some ⟨b, 0, none⟩), .int .i64 8, .slice none 0 0, .slice none 0 0] 56 (0, 0)) ∧ Sat wx b p g 16 16384 16 bs0 ∧ w3.heap.size ≤ b ∧ Fr (fun j => j = wb) w3 wx)
  case first =>
    go_region_with (first | (go_at_call 21; (refine (HH.out _ (by repeat' first | exact Fr.refl _ _ | assumption | apply Fr.drew | apply Fr.alloc)).mono ?_); rintro e w' ⟨rfl, h0⟩; obtain rfl := h0.symm) | (go_at_call 11; (refine (HN.out _ (by repeat' first | exact Fr.refl _ _ | assumption | apply Fr.drew | apply Fr.alloc)).mono ?_); rintro e w4 ⟨rfl, hs4, hf4⟩; have hf4 : Fr (fun _ => False) w3 w4 := Fr.trans (by repeat' first | exact Fr.refl _ _ | assumption | apply Fr.drew | apply Fr.alloc) hf4; obtain ⟨k0, k1, k2, k3, k4, y0, y1, y2, y3, y4, _⟩ := five_cells (hf4.obj O2.out id)))
    all_goals
      go_wp2_with fail
      go_meet
      case rel =>
        have hS4 := Fr.setOne (p := wb) (Fr.refl _ w4) 1 (.pointer (some ⟨w3.heap.size, 0, none⟩))
        have hz3 := HZ3.out
        have hz3' : w3.drew.heap.size = w3.heap.size := rfl
        have hd0 := HD0.out
        refine ⟨w3.heap.size, five_set1 (hf4.obj O2.out id) _, hs4.fr hS4 (by omega) (by omega) (by omega), Nat.le_refl _, (Fr.some hf4 fun _ e => e.elim).trans hS4⟩
  case rest =>
    obtain ⟨b, hob, hs, hbl, hf⟩ := hcut
    have S4 := Lib.hid hs
    have O4 := Lib.hid hob
    have F4 := Lib.hid (F2.out.after hf (S := fun _ => False) (fun k hk e => by have := HB0.out; omega))
    have hbw := hs.lt
    obtain ⟨q0, q1, q2, q3, q4, _, _, _, _, _, _⟩ := five_cells hob
    have hnp := hnew_any p g 16384 32768 bs0 wc hs.mat (by omega) (by omega) (by omega) (by rw [HBL.out]; exact Nat.le_refl _)
    rw [show ((32768 : Nat) : Int) - (16384 : Nat) = 16384 from rfl] at hnp
    have HNP := Lib.hid hnp
    have HB1 := Lib.hid (show b < wc.heap.size ∧ wb < b ∧ wb < wc.heap.size from by have := HZ3.out; have := hf.size; omega)
    clear hob hs hf hbl hbw hnp
    go_wp2_with fail
    refine HNP.out.mono ?_
    rintro e w5 ⟨rfl, hh, hm, hf⟩
    obtain ⟨hb, hhb⟩ : ∃ hb, wc.heap.size = hb := ⟨_, rfl⟩
    rw [hhb] at hh HB1 ⊢
    have H5 := Lib.hid hh
    have S5 := Lib.hid (S4.out.wrote hf hm (setv_length _ _ _))
    have O5 := Lib.hid (hf.obj O4.out (by have := HD0.out; omega))
    have F5 := Lib.hid (F4.out.after hf (S := fun _ => False) (fun k hk e => by have := HB0.out; omega))
    have HB2 := Lib.hid (show hb < w5.heap.size from lt_of_block hh)
    clear hh hm hf hhb q0 q1 q2 q3 q4
    have hmm := @run_makeMap Try.prog
    go_wp2_with fail
    clear hmm
    obtain ⟨mb, hmb⟩ : ∃ mb, w5.heap.size = mb := ⟨_, rfl⟩
    have M6 := Lib.hid (BMap.made w5)
    have hf6 := (Fr.refl (fun _ => False) w5).alloc (.map #[] 0)
    have H6 := Lib.hid (show Heap _ hb p 16384 32768 from hf6.obj H5.out id)
    have S6 := Lib.hid (S5.out.fr hf6 id id id)
    have O6 := Lib.hid (hf6.obj O5.out id)
    have F6 := Lib.hid (F5.out.trans hf6)
    have hsz6 : (w5.alloc (.map #[] 0)).heap.size = w5.heap.size + 1 := by simp
    obtain ⟨w6, hw6⟩ : ∃ w6, w5.alloc (.map #[] 0) = w6 := ⟨_, rfl⟩
    rw [hmb] at M6 HB2 hsz6 ⊢
    rw [hw6] at M6 H6 S6 O6 F6 hsz6 ⊢
    have HZ6 := Lib.hid hsz6
    clear hmb hw6 hf6 hsz6
    have HD := Lib.hid (show (wb ≠ b ∧ wb ≠ p ∧ wb ≠ g) ∧ (wb < mb + 1 ∧ b < mb + 1 ∧ p < mb + 1 ∧ g < mb + 1) ∧ (hb < mb + 1 ∧ hb ≠ wb ∧ hb ≠ b ∧ hb ≠ g ∧ hb ≠ p) ∧ (mb ≠ wb ∧ mb ≠ b ∧ mb ≠ g ∧ mb ≠ p) from by
      have h1 := HD0.out
      have h2 := HB1.out
      have h3 := HB2.out
      have h4 := HZ3.out
      omega)
    have HBF := Lib.hid (show w.heap.size ≤ wb ∧ w.heap.size ≤ b ∧ w.heap.size ≤ g ∧ w.heap.size ≤ mb ∧ w.heap.size ≤ mb + 1 from by
      have h1 := HB0.out
      have h2 := HB1.out
      have h3 := HB2.out
      omega)
    obtain ⟨B, hB⟩ : ∃ B, mb + 1 = B := ⟨_, rfl⟩
    rw [hB] at HD HBF HZ6
    have HBM := Lib.hid (show mb < B ∧ B ≤ mb + 1 by omega)
    clear hB
    have HOS := Lib.hid (show OSL wb B p g b hb mb 0 (.slice none 0 0) w6 from ⟨0, fun _ => 0, [], [(16384, false)], [], setv (setv (List.replicate 32768 0) 8 0) 16384 16384, 16, 0, fun _ => false, ow_start O6.out (by rw [HBS.out]; exact S6.out), H6.out, M6.out, fun y => ⟨fun e => (by cases e), fun ⟨q, m, e, hu⟩ => (by simp [UsedAt] at hu)⟩, World.ownsRow_nil _ _ _ _, ⟨Nat.le_refl _, Nat.le_refl _, Nat.le_refl _⟩, fun r hr => by simp at hr, fun _ => rfl⟩)
    have HFX := Lib.hid (show OsFix w wb B p g b hb mb from ⟨HD.out.1, HD.out.2.1, HD.out.2.2.1, HD.out.2.2.2, HBM.out, HBF.out⟩)
    have HA := Lib.hid h
    clear h
    refine os_loop _ (by kernel_rfl) w wb B p g b hb mb n c a Q HA.out hn HFX.out _ _ _ _ _ _ _ _ _ _ _ _ _ _ _ _ _ _ _ _ _ _ _ _ _ _ _ _ _ _ _ _ _ w6 _ _ _ _ _ _ _ _ _ _ _ _ _ _ _ _ _ _ _ _ _ _ _ _ _ _ _ _ _ _ _ _ _ _ _ _ _ _ _ _ _ _ _ _ _ _ _ _ _ _ _ _ _ _ _ _ _ _ _ _ _ _ _ _ _ _ _ _ _ _ _ _ _ _ _ _ _ _ _ _ _ _ _ _ _ _ _ _ _ _ _ _ _ _ _ _ _ _ _ _ _ _ _ _ _ _ _ _ _ _ _ _ _ _ _ _ _ _ _ _ _ _ _ _ _ _ _ _ _ _ _ _ _ _ _ _ _ _ _ _ _ _ _ _ _ _ _ _ _ _ _ _ _ _ _ _ _ _ _ _ _ _ _ _ _ _ _ _ _ _ _ _ _ _ _ _ _ _ _ _ _ _ _ _ _ _ _ _ _ _ _ _ _ _ _ _ _ _ _ _ _ _ _ _ _ _ _ _ _ _ _ _ _ _ _ _ _ _ _ _ _ _ _ _ _ _ _ _ _ _ _ _ _ _ _ _ _ _ _ _ _ _ _ _ _ _ _ _ _ _ _ _ _ _ _ _ _ _ _ _ _ _ _ _ _ _ _ _ _ _ _ _ _ _ _ _ _ _ _ _ _ _ _ _ _ _ _ _ _ _ HOS.out F6.out ?_
    intro vT wr u2 u8 u9 u10 u11 u12 u13 u14 u15 u16 u17 u18 u19 u20 u52 u53 u54 u55 u56 u57 u58 u59 u60 u61 u62 u63 u64 u65 u66 u67 u68 u69 u70 u71 u72 u73 u74 u75 u76 u77 u78 u79 u80 u81 u82 u83 u84 u85 u86 u87 u88 u89 u90 u91 u92 u93 u94 u95 u96 u97 u98 u99 u100 u101 u102 u103 u104 u105 u106 u107 u108 u109 u110 u111 u112 u113 u114 u115 u116 u117 u118 u119 u120 u121 u122 u123 u124 u125 u126 u127 u128 u129 u130 u131 u132 u133 u134 u135 u136 u137 u138 u139 u140 u141 u142 u143 u144 u145 u146 u147 u148 u149 u150 u151 u152 u153 u154 u155 u156 u157 u158 u159 u160 u161 u162 u163 u164 u165 u166 u167 u168 u169 u170 u171 u172 u173 u174 u175 u176 u177 u178 u179 u180 u181 u182 u183 u184 u185 u186 u187 u188 u189 u190 u191 u192 u193 u194 u195 u196 u197 u198 u199 u200 u201 u202 u203 u204 u205 u206 u207 u208 u209 u210 u211 u212 u213 u214 u215 u216 u217 u218 u219 u220 u221 u222 u223 u224 u225 u226 u227 u228 u229 u230 u231 u232 u233 u234 u235 u236 u237 u238 u239 u240 u241 u242 u243 u244 u245 u246 u247 u248 u249 u250 u251 u252 u253 u254 u255 u256 u257 u258 u259 u260 u261 u262 u263 u264 u265 u266 u267 u268 u269 u270 u271 u272 u273 u274 u275 u276 u277 u278 u279 u280 u281 u282 u283 u284 u285 u286 u287 u288 u289 u290 u291 u292 u293 u294 u295 u296 u297 u298 u299 u300 u301 u302 u303 u304 u305 u306 u307 u308 u309 u310 u311 u312 u313 u314 u315 u316 u317 u318 u319 u320 u321 u322 u323 u324 u325 u326 u327 hosl hfr
    have HFR := Lib.hid hfr
    clear hosl hfr
    go_wp2_with fail
    go_ret
    exact ⟨rfl, HFR.out⟩

set_option maxRecDepth 100000 in
set_option maxHeartbeats 1000000 in
theorem osLong_any (a : Option Addr) (n c : Nat) (w : World) (hn : 60 < n) :
    Calls Try.prog 7 #[.slice a n c] w (fun e w' => e = .returned (.bool true) ∧ Fr (fun _ => False) w w') := by
  have d60 : decide ((60 : Int) < n) = true := by simp; omega
  have h1' : (60 : Int) < n := by omega
  go_enter Try.func7, Try.ntmps7
  go_wp2_with fail
  refine (L.lives13_any _).mono ?_
  rintro e w1 ⟨rfl, hf⟩
  have F1 := Lib.hid hf
  clear hf
  go_wp2_with fail
  refine (L.lives13_any _).mono ?_
  rintro e w2 ⟨rfl, hf⟩
  have F2 := Lib.hid (F1.out.trans hf)
  clear hf
  go_wp2_with fail
  go_ret
  exact ⟨rfl, F2.out⟩

theorem objectSends_any (a : Option Addr) (n c : Nat) (Q : Nat → ActS) (w : World) (h : IsActsS w a n Q) :
    Calls Try.prog 7 #[.slice a n c] w (fun e w' => e = .returned (.bool true) ∧ Below w.heap.size w w') := by
  by_cases hn : 60 < n
  · exact (osLong_any a n c w hn).mono fun _ _ ⟨h1, h2⟩ => ⟨h1, h2.below (fun _ _ => id)⟩
  · exact (osLoop_any a n c Q w h (by omega)).mono fun _ _ ⟨h1, h2⟩ => ⟨h1, h2.below (fun _ _ => id)⟩
end Go.Proofs.Ytajeiccfgnpbpaa.Mem
