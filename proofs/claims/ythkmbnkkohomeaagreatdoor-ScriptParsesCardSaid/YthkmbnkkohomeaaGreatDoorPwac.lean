/- The document's Parse of layer 22. -/
import Derived.Test.YthkmbnkkohomeaaGreatDoorPwab
import Derived.Test.YthkmbnkkohomeaaGreatDoorSwbi
set_option linter.unusedSimpArgs false
set_option linter.unusedVariables false

namespace Go.Proofs.YthkmbnkkohomeaaGreatDoor.Mem
open Go.RowKit Go.Maps

def Scr.row22 (s : Scr) : Array Value := #[.int .i64 s.di, .int .i64 s.da, .int .i64 s.re, .int .i64 s.he, .int .i64 s.sl, .int .i64 s.fu, .string s.inn, .string s.tx]
def RParsePost (r : Scr × Nat) (w : World) (e : Ending) (w' : World) : Prop := e = .returned (.tuple #[.agg r.1.row22, .int .i64 r.2]) ∧ Fr (fun _ => False) w w'
def Scr22 (w : World) (b : Nat) (s : Scr) : Prop := w.heap[b]? = some (.cells s.row22 31 (0, 0))
theorem Scr22.fr {S : Nat → Prop} {w w' : World} {b : Nat} {s : Scr} (h : Scr22 w b s) (f : Fr S w w') (hb : ¬ S b) : Scr22 w' b s := f.obj h hb
theorem cutB_false (c : UInt8) : ∀ l, (cutB c l).2.2 = false → (cutB c l).2.1 = []
  | [], _ => rfl
  | x :: l, h => by
    unfold cutB at h ⊢
    split at h
    · cases h
    · rw [if_neg ‹_›]; exact cutB_false c l h
theorem pnum_nil : pnum [] = none := by
  unfold pnum
  rfl
theorem fidx_lt {x : List UInt8} {i : Nat} (h : fidx x = some i) : i < 6 := by
  unfold fidx at h
  split at h
  · cases h; decide
  split at h
  · cases h; decide
  split at h
  · cases h; decide
  split at h
  · cases h; decide
  split at h
  · cases h; decide
  split at h
  · cases h; decide
  cases h
theorem pnum_bd {l : List UInt8} {v : Int} (h : pnum l = some v) : 0 ≤ v ∧ v ≤ 1048576 := by
  unfold pnum at h
  split at h
  · split at h
    · cases h; omega
    · cases h
  · cases h
theorem row22_set {w : World} {b : Nat} {s : Scr} (h : Scr22 w b s) (i : Nat) (hi : i < 6) (n : Int) : Scr22 (w.setCell ⟨b, i, none⟩ (.int .i64 n)) b (s.set i n) := by
  unfold Scr22
  rw [heap_setCell_same w b i _ _ _ h]
  have : i = 0 ∨ i = 1 ∨ i = 2 ∨ i = 3 ∨ i = 4 ∨ i = 5 := by omega
  rcases this with rfl | rfl | rfl | rfl | rfl | rfl <;> rfl

theorem row22_cell {w : World} {b : Nat} {s : Scr} (h : Scr22 w b s) (i : Nat) (hi : i < 6) : ∃ v, w.cell? ⟨b, i, none⟩ = some v := by
  have : i = 0 ∨ i = 1 ∨ i = 2 ∨ i = 3 ∨ i = 4 ∨ i = 5 := by omega
  rcases this with rfl | rfl | rfl | rfl | rfl | rfl <;> exact ⟨_, cell_of_row w b _ _ _ _ h⟩

set_option maxRecDepth 100000 in
set_option maxHeartbeats 4000000 in
theorem rparse_ok (t : ByteArray) (ht : t.size ≤ 5000) (w : World) :
    Calls Tryz.prog 7 #[.string t] w fun e w' => RParsePost (parseB (t.size + 1) scr0 1 t.data.toList) w e w' := by
  have hA := heap_alloc_last w (.cells scrZ.row22 31)
  have fA := (Fr.refl (fun _ => False) w).alloc (.cells scrZ.row22 31)
  have zA : (w.alloc (.cells scrZ.row22 31)).heap.size = w.heap.size + 1 := by simp
  obtain ⟨w1, hw1⟩ : ∃ W, w.alloc (.cells scrZ.row22 31) = W := ⟨_, rfl⟩
  rw [hw1] at hA fA zA
  have hB := heap_alloc_last w1 (.cells scr0.row22 31)
  have fB := (Fr.refl (fun _ => False) w1).alloc (.cells scr0.row22 31)
  have zB : (w1.alloc (.cells scr0.row22 31)).heap.size = w1.heap.size + 1 := by simp
  obtain ⟨rb, hrb⟩ : ∃ b, w.heap.size = b := ⟨_, rfl⟩
  rw [hrb] at hA zA
  rw [zA] at hB zB
  obtain ⟨sb, hsb⟩ : ∃ b, rb + 1 = b := ⟨_, rfl⟩
  rw [hsb] at hB zB zA
  have HN := Lib.hid (And.intro hrb hsb)
  have HAB := Lib.hid (And.intro hA (And.intro hB (And.intro fA fB)))
  obtain ⟨R, hR⟩ : ∃ R, parseB (t.size + 1) scr0 1 t.data.toList = R := ⟨_, rfl⟩
  rw [hR]
  have HR := Lib.hid hR
  unfold scrZ Scr.row22 at hw1
  unfold scr0 Scr.row22 at HAB
  clear hA fA hB fB zB hR
  go_enter Tryz.func7, Tryz.ntmps7
  go_wp2_with fail
  have hA := HAB.out.1
  have hB := HAB.out.2.1
  have fA := HAB.out.2.2.1
  have fB := HAB.out.2.2.2
  obtain ⟨w2, hw2⟩ : ∃ W, w1.alloc (.cells #[.int .i64 16384, .int .i64 64, .int .i64 64, .int .i64 4096, .int .i64 16, .int .i64 10000, .string ⟨#[]⟩, .string ⟨#[]⟩] 31) = W := ⟨_, rfl⟩
  rw [hw2] at hB fB
  rw [hw2]
  have HS0 := Lib.hid (show Scr22 w2 sb scr0 from hB)
  have HA := Lib.hid (show Scr22 w2 rb scrZ from fB.obj hA id)
  have F2 := Lib.hid (fA.trans fB)
  clear hA hB fA fB hw2
  go_loopw [0, 5] (fun tv nv wr => ∃ (T : ByteArray) (s : Scr) (n k : Nat), tv = .string T ∧ nv = .int .i64 n ∧ T.size < k ∧ T.size ≤ 5000 ∧ n + T.size ≤ 5001 ∧ parseB k s n T.data.toList = R ∧ Scr22 wr sb s ∧ Fr (fun j => j = sb) w2 wr) (fun tv _ _ => sizeV tv)
  case atStart => exact ⟨t, scr0, 1, t.size + 1, rfl, rfl, by omega, ht, by omega, HR.out, HS0.out, Fr.refl _ _⟩
  case round =>
    obtain ⟨T, s, n, k, rfl, rfl, hTk, hT5, hnT, hP, hSc, hF⟩ := hrel
    obtain ⟨di, da, re, he, sl, tx, inn, fu⟩ := s
    obtain ⟨k', rfl⟩ : ∃ k', k = k' + 1 := ⟨k - 1, by omega⟩
    rw [parseB] at hP
    obtain ⟨l1, hl1⟩ : ∃ x, (cutB 10 T.data.toList).1 = x := ⟨_, rfl⟩
    obtain ⟨rl, hrl⟩ : ∃ x, (cutB 10 T.data.toList).2.1 = x := ⟨_, rfl⟩
    obtain ⟨mo, hmo⟩ : ∃ x, (cutB 10 T.data.toList).2.2 = x := ⟨_, rfl⟩
    have hlen := cutB_len 10 T.data.toList
    have hless := cutB_less 10 T.data.toList
    rw [hl1, hrl] at hlen
    rw [hmo, hrl] at hless
    rw [hl1, hrl, hmo] at hP
    obtain ⟨nm, hnm⟩ : ∃ x, (cutB 32 l1).1 = x := ⟨_, rfl⟩
    obtain ⟨vl, hvl⟩ : ∃ x, (cutB 32 l1).2.1 = x := ⟨_, rfl⟩
    obtain ⟨sp, hsp⟩ : ∃ x, (cutB 32 l1).2.2 = x := ⟨_, rfl⟩
    have hlen2 := cutB_len 32 l1
    have hspf := cutB_false 32 l1
    rw [hnm, hvl] at hlen2
    rw [hsp, hvl] at hspf
    rw [hnm, hvl, hsp] at hP
    have hTl : T.data.toList.length = T.size := by rw [Array.length_toList]; rfl
    rw [hTl] at hlen hless
    have HP := Lib.hid hP
    have HPU := Lib.hid (And.intro (And.intro hl1 (And.intro hrl hmo)) (And.intro hnm (And.intro hvl hsp)))
    have HLN := Lib.hid (And.intro hlen (And.intro hless (And.intro hlen2 (And.intro hTk (And.intro hT5 hnT)))))
    have HSP := Lib.hid hspf
    have HSC := Lib.hid hSc
    have HF := Lib.hid hF
    clear hP hl1 hrl hmo hlen hless hnm hvl hsp hlen2 hTl hSc hF hTk hspf
    go_wp2_with fail
    refine (rcut_ok T 10 hT5 wr).mono ?_
    rintro e w4 ⟨L, RS, rfl, hL, hRS, f4⟩
    rw [HPU.out.1.2.2]
    rw [HPU.out.1.1] at hL
    rw [HPU.out.1.2.1] at hRS
    have HL := Lib.hid (And.intro hL hRS)
    have F4 := Lib.hid f4
    have hLz : L.size ≤ 5000 := by
      have h1 : L.data.toList.length = L.size := by rw [Array.length_toList]; rfl
      have := HLN.out.1
      rw [← h1, hL]
      omega
    clear hL hRS f4
    go_wp2_with fail
    refine (rcut_ok L 32 hLz w4).mono ?_
    rw [HL.out.1]
    rintro e w5 ⟨N, V, rfl, hN, hV, f5⟩
    rw [HPU.out.2.2.2]
    rw [HPU.out.2.1] at hN
    rw [HPU.out.2.2.1] at hV
    have HNV := Lib.hid (And.intro hN hV)
    have F5 := Lib.hid (F4.out.trans f5)
    have FW := Lib.hid (HF.out.trans (F5.out.mono fun _ _ e => e.elim))
    have hVz : V.size ≤ 5000 := by
      have h1 : V.data.toList.length = V.size := by rw [Array.length_toList]; rfl
      have := HLN.out
      rw [← h1, hV]
      omega
    clear hN hV f5 hLz
    have HSC5 := Lib.hid (HSC.out.fr F5.out id)
    have HRS := Lib.hid (ba_of HL.out.2)
    have hpv := fun W => rplace_ok N W
    unfold PlacePost at hpv
    rw [HNV.out.1] at hpv
    have HPL := Lib.hid hpv
    have hnb := fun W => rnumber_ok V hVz W
    unfold NumbPost at hnb
    rw [HNV.out.2, rnum_pnum] at hnb
    have HNB := Lib.hid hnb
    have hn5 : (n : Int) ≤ 5001 := by omega
    clear hpv hnb
    by_cases hnt : nm = [116, 101, 120, 116]
    · have e1 : (N.toList == [116, 101, 120, 116]) = true := by rw [ByteArray.toList_eq, HNV.out.1, hnt]; rfl
      by_cases hv0 : vl = []
      · have e2 : V.toList.isEmpty = true := by rw [ByteArray.toList_eq, HNV.out.2, hv0]; rfl
        have hP2 := HP.out
        rw [if_pos ⟨hnt, hv0⟩] at hP2
        have HP2 := Lib.hid hP2
        have hS5 : w5.heap[sb]? = some (.cells #[.int .i64 di, .int .i64 da, .int .i64 re, .int .i64 he, .int .i64 sl, .int .i64 fu, .string inn, .string tx] 31 (0, 0)) := HSC5.out
        have z5 := frozen_of_row w5 sb 7 _ _ hS5
        have q5 : w5.cell? ⟨sb, 7, none⟩ = some (.string tx) := cell_of_row w5 sb 7 _ _ _ hS5
        have hS6 : (w5.setCell ⟨sb, 7, none⟩ (.string RS)).heap[sb]? = some (.cells #[.int .i64 di, .int .i64 da, .int .i64 re, .int .i64 he, .int .i64 sl, .int .i64 fu, .string inn, .string RS] 31 (0, 0)) := heap_setCell_same w5 sb 7 _ _ _ hS5
        have F6 := (Fr.refl (fun j => j = sb) w5).setOne 7 (.string RS)
        obtain ⟨w6, hw6⟩ : ∃ W, w5.setCell ⟨sb, 7, none⟩ (.string RS) = W := ⟨_, rfl⟩
        rw [hw6] at hS6 F6
        have F6w := FW.out.trans F6
        have s0 : w6.cell? ⟨sb, 0, none⟩ = some (.int .i64 di) := cell_of_row w6 sb 0 _ _ _ hS6
        have s1 : w6.cell? ⟨sb, 1, none⟩ = some (.int .i64 da) := cell_of_row w6 sb 1 _ _ _ hS6
        have s2 : w6.cell? ⟨sb, 2, none⟩ = some (.int .i64 re) := cell_of_row w6 sb 2 _ _ _ hS6
        have s3 : w6.cell? ⟨sb, 3, none⟩ = some (.int .i64 he) := cell_of_row w6 sb 3 _ _ _ hS6
        have s4 : w6.cell? ⟨sb, 4, none⟩ = some (.int .i64 sl) := cell_of_row w6 sb 4 _ _ _ hS6
        have s5 : w6.cell? ⟨sb, 5, none⟩ = some (.int .i64 fu) := cell_of_row w6 sb 5 _ _ _ hS6
        have s6 : w6.cell? ⟨sb, 6, none⟩ = some (.string inn) := cell_of_row w6 sb 6 _ _ _ hS6
        have s7 : w6.cell? ⟨sb, 7, none⟩ = some (.string RS) := cell_of_row w6 sb 7 _ _ _ hS6
        have hRB : w6.heap[rb]? = some (.cells #[.int .i64 0, .int .i64 0, .int .i64 0, .int .i64 0, .int .i64 0, .int .i64 0, .string ⟨#[]⟩, .string ⟨#[]⟩] 31 (0, 0)) := (F6w).obj HA.out (show ¬ (rb = sb) by have := HN.out; omega)
        have r0 : w6.cell? ⟨rb, 0, none⟩ = some (.int .i64 0) := cell_of_row w6 rb 0 _ _ _ hRB
        have r1 : w6.cell? ⟨rb, 1, none⟩ = some (.int .i64 0) := cell_of_row w6 rb 1 _ _ _ hRB
        have r2 : w6.cell? ⟨rb, 2, none⟩ = some (.int .i64 0) := cell_of_row w6 rb 2 _ _ _ hRB
        have r3 : w6.cell? ⟨rb, 3, none⟩ = some (.int .i64 0) := cell_of_row w6 rb 3 _ _ _ hRB
        have r4 : w6.cell? ⟨rb, 4, none⟩ = some (.int .i64 0) := cell_of_row w6 rb 4 _ _ _ hRB
        have r5 : w6.cell? ⟨rb, 5, none⟩ = some (.int .i64 0) := cell_of_row w6 rb 5 _ _ _ hRB
        have r6 : w6.cell? ⟨rb, 6, none⟩ = some (.string ⟨#[]⟩) := cell_of_row w6 rb 6 _ _ _ hRB
        have r7 : w6.cell? ⟨rb, 7, none⟩ = some (.string ⟨#[]⟩) := cell_of_row w6 rb 7 _ _ _ hRB
        have y0 := frozen_of_row w6 rb 0 _ _ hRB
        have y1 := frozen_of_row w6 rb 1 _ _ hRB
        have y2 := frozen_of_row w6 rb 2 _ _ hRB
        have y3 := frozen_of_row w6 rb 3 _ _ hRB
        have y4 := frozen_of_row w6 rb 4 _ _ hRB
        have y5 := frozen_of_row w6 rb 5 _ _ hRB
        have y6 := frozen_of_row w6 rb 6 _ _ hRB
        have y7 := frozen_of_row w6 rb 7 _ _ hRB
        have HE := Lib.hid (eight_set hRB (.int .i64 di) (.int .i64 da) (.int .i64 re) (.int .i64 he) (.int .i64 sl) (.int .i64 fu) (.string inn) (.string RS))
        have HFE := Lib.hid ((F2.out.after (F6w) (fun k hk e => absurd (show k = sb from e) (by have := HN.out; omega))).after (Fr.set8s (p := rb) (Fr.refl _ w6) (x0 := .int .i64 di) (x1 := .int .i64 da) (x2 := .int .i64 re) (x3 := .int .i64 he) (x4 := .int .i64 sl) (x5 := .int .i64 fu) (x6 := .string inn) (x7 := .string RS)) (fun k hk e => absurd (show k = rb from e) (by have := HN.out; omega)))
        clear hRB
        clear hP2 hS5 hS6 F6 F6w hnt hv0
        go_wp2_with fail
        refine bodyPost_ret (results_cell1p rfl _ _ rb 31 _ (0, 0) _ rfl HE.out Tryz.underlying31 rfl (by kernel_rfl)) rfl ?_
        rw [← HP2.out, ← HRS.out]
        exact ⟨rfl, HFE.out⟩
      · have e2 : V.toList.isEmpty = false := by rw [ByteArray.toList_eq, HNV.out.2]; cases vl with | nil => exact absurd rfl hv0 | cons _ _ => rfl
        have hP2 := HP.out
        rw [if_neg (fun e => hv0 e.2)] at hP2
        have hpl : pline ⟨di, da, re, he, sl, tx, inn, fu⟩ nm vl sp = none := by
          unfold pline
          rw [if_neg (by rw [hnt]; decide), fidx_text hnt]
        rw [hpl] at hP2
        have HP2 := Lib.hid hP2
        have e4 : (N.toList == [105, 110]) = false := by rw [ByteArray.toList_eq, HNV.out.1, hnt]; rfl
        have hpl1 : plc22 nm = -1 := by unfold plc22; rw [fidx_text hnt]
        have HPL1 := Lib.hid hpl1
        rw [hpl1] at HPL
        obtain ⟨kv, hkv⟩ : ∃ x, (pnum vl).getD (-1) = x := ⟨_, rfl⟩
        rw [hkv] at HNB
        clear hP2 hpl hnt hv0 hpl1 hkv
        go_wp2_with (first | (go_at_call 15; refine (HPL.out _).mono ?_; rintro e w6 ⟨rfl, f6⟩; have F6 := Lib.hid f6; clear f6) | (go_at_call 16; refine (HNB.out _).mono ?_; rintro e w7 ⟨rfl, f7⟩; have F7 := Lib.hid (F6.out.trans f7); clear f7; have F7w := FW.out.trans (F7.out.mono fun _ _ e => e.elim); have hRB : w7.heap[rb]? = some (.cells #[.int .i64 0, .int .i64 0, .int .i64 0, .int .i64 0, .int .i64 0, .int .i64 0, .string ⟨#[]⟩, .string ⟨#[]⟩] 31 (0, 0)) := (F7w).obj HA.out (show ¬ (rb = sb) by have := HN.out; omega); have r0 : w7.cell? ⟨rb, 0, none⟩ = some (.int .i64 0) := cell_of_row w7 rb 0 _ _ _ hRB; have r1 : w7.cell? ⟨rb, 1, none⟩ = some (.int .i64 0) := cell_of_row w7 rb 1 _ _ _ hRB; have r2 : w7.cell? ⟨rb, 2, none⟩ = some (.int .i64 0) := cell_of_row w7 rb 2 _ _ _ hRB; have r3 : w7.cell? ⟨rb, 3, none⟩ = some (.int .i64 0) := cell_of_row w7 rb 3 _ _ _ hRB; have r4 : w7.cell? ⟨rb, 4, none⟩ = some (.int .i64 0) := cell_of_row w7 rb 4 _ _ _ hRB; have r5 : w7.cell? ⟨rb, 5, none⟩ = some (.int .i64 0) := cell_of_row w7 rb 5 _ _ _ hRB; have r6 : w7.cell? ⟨rb, 6, none⟩ = some (.string ⟨#[]⟩) := cell_of_row w7 rb 6 _ _ _ hRB; have r7 : w7.cell? ⟨rb, 7, none⟩ = some (.string ⟨#[]⟩) := cell_of_row w7 rb 7 _ _ _ hRB; have y0 := frozen_of_row w7 rb 0 _ _ hRB; have y1 := frozen_of_row w7 rb 1 _ _ hRB; have y2 := frozen_of_row w7 rb 2 _ _ hRB; have y3 := frozen_of_row w7 rb 3 _ _ hRB; have y4 := frozen_of_row w7 rb 4 _ _ hRB; have y5 := frozen_of_row w7 rb 5 _ _ hRB; have y6 := frozen_of_row w7 rb 6 _ _ hRB; have y7 := frozen_of_row w7 rb 7 _ _ hRB; have HE := Lib.hid (eight_set hRB (.int .i64 0) (.int .i64 0) (.int .i64 0) (.int .i64 0) (.int .i64 0) (.int .i64 0) (.string ⟨#[]⟩) (.string ⟨#[]⟩)); have HFE := Lib.hid ((F2.out.after (F7w) (fun k hk e => absurd (show k = sb from e) (by have := HN.out; omega))).after (Fr.set8s (p := rb) (Fr.refl _ w7) (x0 := .int .i64 0) (x1 := .int .i64 0) (x2 := .int .i64 0) (x3 := .int .i64 0) (x4 := .int .i64 0) (x5 := .int .i64 0) (x6 := .string ⟨#[]⟩) (x7 := .string ⟨#[]⟩)) (fun k hk e => absurd (show k = rb from e) (by have := HN.out; omega))); clear hRB))
        refine bodyPost_ret (results_cell1p rfl _ _ rb 31 _ (0, 0) _ rfl HE.out Tryz.underlying31 rfl (by kernel_rfl)) rfl ?_
        rw [← HP2.out]
        exact ⟨rfl, HFE.out⟩
    · have e1 : (N.toList == [116, 101, 120, 116]) = false := by rw [ByteArray.toList_eq, HNV.out.1]; simpa using hnt
      have hP2 := HP.out
      rw [if_neg (fun e => hnt e.1)] at hP2
      by_cases hin : nm = [105, 110]
      · have hpl : pline ⟨di, da, re, he, sl, tx, inn, fu⟩ nm vl sp = some ⟨di, da, re, he, sl, tx, ⟨vl.toArray⟩, fu⟩ := by
          unfold pline
          rw [if_pos hin]
        rw [hpl] at hP2
        have HP2 := Lib.hid hP2
        have e4 : (N.toList == [105, 110]) = true := by rw [ByteArray.toList_eq, HNV.out.1, hin]; rfl
        have HVV := Lib.hid (ba_of HNV.out.2)
        obtain ⟨kv, hkv⟩ : ∃ x, (pnum vl).getD (-1) = x := ⟨_, rfl⟩
        rw [hkv] at HNB
        obtain ⟨pv, hpv⟩ : ∃ x, plc22 nm = x := ⟨_, rfl⟩
        rw [hpv] at HPL
        clear hP2 hpl hnt hin hkv hpv
        cases mo with
        | true =>
          have HP3 := Lib.hid (show parseB k' _ (n + 1) rl = R by have h := HP2.out; simpa using h)
          go_wp2_with (first | (go_at_call 15; refine (HPL.out _).mono ?_; rintro e w6 ⟨rfl, f6⟩; have F6 := Lib.hid f6; clear f6) | (go_at_call 16; refine (HNB.out _).mono ?_; rintro e w7 ⟨rfl, f7⟩; have F7 := Lib.hid (F6.out.trans f7); clear f7; have F7w := FW.out.trans (F7.out.mono fun _ _ e => e.elim); have hS7 : w7.heap[sb]? = some (.cells #[.int .i64 di, .int .i64 da, .int .i64 re, .int .i64 he, .int .i64 sl, .int .i64 fu, .string inn, .string tx] 31 (0, 0)) := HSC5.out.fr F7.out id; have z7 := frozen_of_row w7 sb 6 _ _ hS7; have q7 : w7.cell? ⟨sb, 6, none⟩ = some (.string inn) := cell_of_row w7 sb 6 _ _ _ hS7; have hS8 : (w7.setCell ⟨sb, 6, none⟩ (.string V)).heap[sb]? = some (.cells #[.int .i64 di, .int .i64 da, .int .i64 re, .int .i64 he, .int .i64 sl, .int .i64 fu, .string V, .string tx] 31 (0, 0)) := heap_setCell_same w7 sb 6 _ _ _ hS7; have F8 := F7w.trans ((Fr.refl (fun j => j = sb) w7).setOne 6 (.string V)); have HW8 : ∃ W, w7.setCell ⟨sb, 6, none⟩ (.string V) = W := ⟨_, rfl⟩; obtain ⟨w8, hw8⟩ := HW8; rw [hw8] at hS8 F8; have HS8 := Lib.hid hS8; have HF8 := Lib.hid F8; clear hS7 hS8 F8 F7w))
          go_roundw
          case rel => exact ⟨RS, ⟨di, da, re, he, sl, tx, V, fu⟩, n + 1, k', rfl, by go_num, by have := HLN.out; have := HLN.out.2.1 trivial; have := rs_len HL.out.2; omega, by have := HLN.out; have := HLN.out.2.1 trivial; have := rs_len HL.out.2; omega, by have := HLN.out; have := HLN.out.2.1 trivial; have := rs_len HL.out.2; omega, by rw [HL.out.2, HVV.out]; exact HP3.out, HS8.out, HF8.out⟩
          case measure => have := HLN.out; have := HLN.out.2.1 trivial; have := rs_len HL.out.2; simp only [sizeV]; omega
        | false =>
          have HP3 := Lib.hid (show (scrZ, n + 1) = R by have h := HP2.out; simpa using h)
          go_wp2_with (first | (go_at_call 15; refine (HPL.out _).mono ?_; rintro e w6 ⟨rfl, f6⟩; have F6 := Lib.hid f6; clear f6) | (go_at_call 16; refine (HNB.out _).mono ?_; rintro e w7 ⟨rfl, f7⟩; have F7 := Lib.hid (F6.out.trans f7); clear f7; have F7w := FW.out.trans (F7.out.mono fun _ _ e => e.elim); have hS7 : w7.heap[sb]? = some (.cells #[.int .i64 di, .int .i64 da, .int .i64 re, .int .i64 he, .int .i64 sl, .int .i64 fu, .string inn, .string tx] 31 (0, 0)) := HSC5.out.fr F7.out id; have z7 := frozen_of_row w7 sb 6 _ _ hS7; have q7 : w7.cell? ⟨sb, 6, none⟩ = some (.string inn) := cell_of_row w7 sb 6 _ _ _ hS7; have hS8 : (w7.setCell ⟨sb, 6, none⟩ (.string V)).heap[sb]? = some (.cells #[.int .i64 di, .int .i64 da, .int .i64 re, .int .i64 he, .int .i64 sl, .int .i64 fu, .string V, .string tx] 31 (0, 0)) := heap_setCell_same w7 sb 6 _ _ _ hS7; have F8 := F7w.trans ((Fr.refl (fun j => j = sb) w7).setOne 6 (.string V)); have HW8 : ∃ W, w7.setCell ⟨sb, 6, none⟩ (.string V) = W := ⟨_, rfl⟩; obtain ⟨w8, hw8⟩ := HW8; rw [hw8] at hS8 F8; have HS8 := Lib.hid hS8; have HF8 := Lib.hid F8; clear hS7 hS8 F8 F7w; have hRB : w8.heap[rb]? = some (.cells #[.int .i64 0, .int .i64 0, .int .i64 0, .int .i64 0, .int .i64 0, .int .i64 0, .string ⟨#[]⟩, .string ⟨#[]⟩] 31 (0, 0)) := (HF8.out).obj HA.out (show ¬ (rb = sb) by have := HN.out; omega); have r0 : w8.cell? ⟨rb, 0, none⟩ = some (.int .i64 0) := cell_of_row w8 rb 0 _ _ _ hRB; have r1 : w8.cell? ⟨rb, 1, none⟩ = some (.int .i64 0) := cell_of_row w8 rb 1 _ _ _ hRB; have r2 : w8.cell? ⟨rb, 2, none⟩ = some (.int .i64 0) := cell_of_row w8 rb 2 _ _ _ hRB; have r3 : w8.cell? ⟨rb, 3, none⟩ = some (.int .i64 0) := cell_of_row w8 rb 3 _ _ _ hRB; have r4 : w8.cell? ⟨rb, 4, none⟩ = some (.int .i64 0) := cell_of_row w8 rb 4 _ _ _ hRB; have r5 : w8.cell? ⟨rb, 5, none⟩ = some (.int .i64 0) := cell_of_row w8 rb 5 _ _ _ hRB; have r6 : w8.cell? ⟨rb, 6, none⟩ = some (.string ⟨#[]⟩) := cell_of_row w8 rb 6 _ _ _ hRB; have r7 : w8.cell? ⟨rb, 7, none⟩ = some (.string ⟨#[]⟩) := cell_of_row w8 rb 7 _ _ _ hRB; have y0 := frozen_of_row w8 rb 0 _ _ hRB; have y1 := frozen_of_row w8 rb 1 _ _ hRB; have y2 := frozen_of_row w8 rb 2 _ _ hRB; have y3 := frozen_of_row w8 rb 3 _ _ hRB; have y4 := frozen_of_row w8 rb 4 _ _ hRB; have y5 := frozen_of_row w8 rb 5 _ _ hRB; have y6 := frozen_of_row w8 rb 6 _ _ hRB; have y7 := frozen_of_row w8 rb 7 _ _ hRB; have HE := Lib.hid (eight_set hRB (.int .i64 0) (.int .i64 0) (.int .i64 0) (.int .i64 0) (.int .i64 0) (.int .i64 0) (.string ⟨#[]⟩) (.string ⟨#[]⟩)); have HFE := Lib.hid ((F2.out.after (HF8.out) (fun k hk e => absurd (show k = sb from e) (by have := HN.out; omega))).after (Fr.set8s (p := rb) (Fr.refl _ w8) (x0 := .int .i64 0) (x1 := .int .i64 0) (x2 := .int .i64 0) (x3 := .int .i64 0) (x4 := .int .i64 0) (x5 := .int .i64 0) (x6 := .string ⟨#[]⟩) (x7 := .string ⟨#[]⟩)) (fun k hk e => absurd (show k = rb from e) (by have := HN.out; omega))); clear hRB))
          refine bodyPost_ret (results_cell1p rfl _ _ rb 31 _ (0, 0) _ rfl HE.out Tryz.underlying31 rfl (by kernel_rfl)) rfl ?_
          rw [← HP3.out]
          exact ⟨rfl, HFE.out⟩
      · have e4 : (N.toList == [105, 110]) = false := by rw [ByteArray.toList_eq, HNV.out.1]; simpa using hin
        rcases hfi : fidx nm with _ | i
        · have hpl : pline ⟨di, da, re, he, sl, tx, inn, fu⟩ nm vl sp = none := by
            unfold pline
            rw [if_neg hin, hfi]
          rw [hpl] at hP2
          have HP2 := Lib.hid hP2
          have hpl1 : plc22 nm = -1 := by unfold plc22; rw [hfi]
          have HPL1 := Lib.hid hpl1
          rw [hpl1] at HPL
          obtain ⟨kv, hkv⟩ : ∃ x, (pnum vl).getD (-1) = x := ⟨_, rfl⟩
          rw [hkv] at HNB
          clear hP2 hpl hnt hin hpl1 hkv hfi
          go_wp2_with (first | (go_at_call 15; refine (HPL.out _).mono ?_; rintro e w6 ⟨rfl, f6⟩; have F6 := Lib.hid f6; clear f6) | (go_at_call 16; refine (HNB.out _).mono ?_; rintro e w7 ⟨rfl, f7⟩; have F7 := Lib.hid (F6.out.trans f7); clear f7; have F7w := FW.out.trans (F7.out.mono fun _ _ e => e.elim); have hRB : w7.heap[rb]? = some (.cells #[.int .i64 0, .int .i64 0, .int .i64 0, .int .i64 0, .int .i64 0, .int .i64 0, .string ⟨#[]⟩, .string ⟨#[]⟩] 31 (0, 0)) := (F7w).obj HA.out (show ¬ (rb = sb) by have := HN.out; omega); have r0 : w7.cell? ⟨rb, 0, none⟩ = some (.int .i64 0) := cell_of_row w7 rb 0 _ _ _ hRB; have r1 : w7.cell? ⟨rb, 1, none⟩ = some (.int .i64 0) := cell_of_row w7 rb 1 _ _ _ hRB; have r2 : w7.cell? ⟨rb, 2, none⟩ = some (.int .i64 0) := cell_of_row w7 rb 2 _ _ _ hRB; have r3 : w7.cell? ⟨rb, 3, none⟩ = some (.int .i64 0) := cell_of_row w7 rb 3 _ _ _ hRB; have r4 : w7.cell? ⟨rb, 4, none⟩ = some (.int .i64 0) := cell_of_row w7 rb 4 _ _ _ hRB; have r5 : w7.cell? ⟨rb, 5, none⟩ = some (.int .i64 0) := cell_of_row w7 rb 5 _ _ _ hRB; have r6 : w7.cell? ⟨rb, 6, none⟩ = some (.string ⟨#[]⟩) := cell_of_row w7 rb 6 _ _ _ hRB; have r7 : w7.cell? ⟨rb, 7, none⟩ = some (.string ⟨#[]⟩) := cell_of_row w7 rb 7 _ _ _ hRB; have y0 := frozen_of_row w7 rb 0 _ _ hRB; have y1 := frozen_of_row w7 rb 1 _ _ hRB; have y2 := frozen_of_row w7 rb 2 _ _ hRB; have y3 := frozen_of_row w7 rb 3 _ _ hRB; have y4 := frozen_of_row w7 rb 4 _ _ hRB; have y5 := frozen_of_row w7 rb 5 _ _ hRB; have y6 := frozen_of_row w7 rb 6 _ _ hRB; have y7 := frozen_of_row w7 rb 7 _ _ hRB; have HE := Lib.hid (eight_set hRB (.int .i64 0) (.int .i64 0) (.int .i64 0) (.int .i64 0) (.int .i64 0) (.int .i64 0) (.string ⟨#[]⟩) (.string ⟨#[]⟩)); have HFE := Lib.hid ((F2.out.after (F7w) (fun k hk e => absurd (show k = sb from e) (by have := HN.out; omega))).after (Fr.set8s (p := rb) (Fr.refl _ w7) (x0 := .int .i64 0) (x1 := .int .i64 0) (x2 := .int .i64 0) (x3 := .int .i64 0) (x4 := .int .i64 0) (x5 := .int .i64 0) (x6 := .string ⟨#[]⟩) (x7 := .string ⟨#[]⟩)) (fun k hk e => absurd (show k = rb from e) (by have := HN.out; omega))); clear hRB))
          refine bodyPost_ret (results_cell1p rfl _ _ rb 31 _ (0, 0) _ rfl HE.out Tryz.underlying31 rfl (by kernel_rfl)) rfl ?_
          rw [← HP2.out]
          exact ⟨rfl, HFE.out⟩
        · have hi6 := fidx_lt hfi
          have hpl : pline ⟨di, da, re, he, sl, tx, inn, fu⟩ nm vl sp = pset ⟨di, da, re, he, sl, tx, inn, fu⟩ i (pnum vl) sp := by
            unfold pline
            rw [if_neg hin, hfi]
          rw [hpl] at hP2
          have hpi : plc22 nm = i := by unfold plc22; rw [hfi]
          rw [hpi] at HPL
          have hi0 : decide ((i : Int) < 0) = false := by simp
          have hi6' : (i : Int) < 6 := by omega
          rcases hq : pnum vl with _ | nv
          · have hR2 : (scrZ, n) = R := by rw [hq] at hP2; exact hP2
            rw [hq] at HNB
            simp only [Option.getD_none] at HNB
            have HP2 := Lib.hid hR2
            clear hP2 hpl hin hfi hnt hpi hR2 hq
            go_wp2_with (first | (go_at_call 15; refine (HPL.out _).mono ?_; rintro e w6 ⟨rfl, f6⟩; have F6 := Lib.hid f6; clear f6) | (go_at_call 16; refine (HNB.out _).mono ?_; rintro e w7 ⟨rfl, f7⟩; have F7 := Lib.hid (F6.out.trans f7); clear f7; have F7w := FW.out.trans (F7.out.mono fun _ _ e => e.elim); have hRB : w7.heap[rb]? = some (.cells #[.int .i64 0, .int .i64 0, .int .i64 0, .int .i64 0, .int .i64 0, .int .i64 0, .string ⟨#[]⟩, .string ⟨#[]⟩] 31 (0, 0)) := (F7w).obj HA.out (show ¬ (rb = sb) by have := HN.out; omega); have r0 : w7.cell? ⟨rb, 0, none⟩ = some (.int .i64 0) := cell_of_row w7 rb 0 _ _ _ hRB; have r1 : w7.cell? ⟨rb, 1, none⟩ = some (.int .i64 0) := cell_of_row w7 rb 1 _ _ _ hRB; have r2 : w7.cell? ⟨rb, 2, none⟩ = some (.int .i64 0) := cell_of_row w7 rb 2 _ _ _ hRB; have r3 : w7.cell? ⟨rb, 3, none⟩ = some (.int .i64 0) := cell_of_row w7 rb 3 _ _ _ hRB; have r4 : w7.cell? ⟨rb, 4, none⟩ = some (.int .i64 0) := cell_of_row w7 rb 4 _ _ _ hRB; have r5 : w7.cell? ⟨rb, 5, none⟩ = some (.int .i64 0) := cell_of_row w7 rb 5 _ _ _ hRB; have r6 : w7.cell? ⟨rb, 6, none⟩ = some (.string ⟨#[]⟩) := cell_of_row w7 rb 6 _ _ _ hRB; have r7 : w7.cell? ⟨rb, 7, none⟩ = some (.string ⟨#[]⟩) := cell_of_row w7 rb 7 _ _ _ hRB; have y0 := frozen_of_row w7 rb 0 _ _ hRB; have y1 := frozen_of_row w7 rb 1 _ _ hRB; have y2 := frozen_of_row w7 rb 2 _ _ hRB; have y3 := frozen_of_row w7 rb 3 _ _ hRB; have y4 := frozen_of_row w7 rb 4 _ _ hRB; have y5 := frozen_of_row w7 rb 5 _ _ hRB; have y6 := frozen_of_row w7 rb 6 _ _ hRB; have y7 := frozen_of_row w7 rb 7 _ _ hRB; have HE := Lib.hid (eight_set hRB (.int .i64 0) (.int .i64 0) (.int .i64 0) (.int .i64 0) (.int .i64 0) (.int .i64 0) (.string ⟨#[]⟩) (.string ⟨#[]⟩)); have HFE := Lib.hid ((F2.out.after (F7w) (fun k hk e => absurd (show k = sb from e) (by have := HN.out; omega))).after (Fr.set8s (p := rb) (Fr.refl _ w7) (x0 := .int .i64 0) (x1 := .int .i64 0) (x2 := .int .i64 0) (x3 := .int .i64 0) (x4 := .int .i64 0) (x5 := .int .i64 0) (x6 := .string ⟨#[]⟩) (x7 := .string ⟨#[]⟩)) (fun k hk e => absurd (show k = rb from e) (by have := HN.out; omega))); clear hRB))
            refine bodyPost_ret (results_cell1p rfl _ _ rb 31 _ (0, 0) _ rfl HE.out Tryz.underlying31 rfl (by kernel_rfl)) rfl ?_
            rw [← HP2.out]
            exact ⟨rfl, HFE.out⟩
          · have hsp1 : sp = true := by
              cases hsp : sp with
              | true => rfl
              | false =>
                exfalso
                have h1 := HSP.out hsp
                rw [h1, pnum_nil] at hq
                cases hq
            subst hsp1
            obtain ⟨s2, hs2⟩ : ∃ s2, Scr.set ⟨di, da, re, he, sl, tx, inn, fu⟩ i nv = s2 := ⟨_, rfl⟩
            rw [hq, show pset ⟨di, da, re, he, sl, tx, inn, fu⟩ i (some nv) true = some s2 from by rw [← hs2]; rfl] at hP2
            rw [hq] at HNB
            simp only [Option.getD_some] at HNB
            have hnb := pnum_bd hq
            have hn0 : decide (nv < 0) = false := by simp; omega
            have HP2 := Lib.hid hP2
            have HS2 := Lib.hid hs2
            have HI6 := Lib.hid hi6
            clear hP2 hpl hin hfi hnt hpi hq hs2 hnb
            cases mo with
            | true =>
              have HP3 := Lib.hid (show parseB k' s2 (n + 1) rl = R by have h := HP2.out; simpa using h)
              go_wp2_with (first | (go_at_call 15; refine (HPL.out _).mono ?_; rintro e w6 ⟨rfl, f6⟩; have F6 := Lib.hid f6; clear f6) | (go_at_call 16; refine (HNB.out _).mono ?_; rintro e w7 ⟨rfl, f7⟩; have F7 := Lib.hid (F6.out.trans f7); clear f7; have F7w := FW.out.trans (F7.out.mono fun _ _ e => e.elim); have hS7 := HSC5.out.fr F7.out id; have z7 := frozen_of_row w7 sb i _ _ hS7; have hq7 := row22_cell hS7 i HI6.out; obtain ⟨qv, q7⟩ := hq7; have hS8 := row22_set hS7 i HI6.out nv; rw [HS2.out] at hS8; have F8 := F7w.trans ((Fr.refl (fun j => j = sb) w7).setOne i (.int .i64 nv)); have HW8 : ∃ W, w7.setCell ⟨sb, i, none⟩ (.int .i64 nv) = W := ⟨_, rfl⟩; obtain ⟨w8, hw8⟩ := HW8; rw [hw8] at hS8 F8; have HS8 := Lib.hid hS8; have HF8 := Lib.hid F8; clear hS7 hS8 F8 F7w))
              go_roundw
              case rel => exact ⟨RS, s2, n + 1, k', rfl, by go_num, by have := HLN.out; have := HLN.out.2.1 trivial; have := rs_len HL.out.2; omega, by have := HLN.out; have := HLN.out.2.1 trivial; have := rs_len HL.out.2; omega, by have := HLN.out; have := HLN.out.2.1 trivial; have := rs_len HL.out.2; omega, by rw [HL.out.2]; exact HP3.out, HS8.out, HF8.out⟩
              case measure => have := HLN.out; have := HLN.out.2.1 trivial; have := rs_len HL.out.2; simp only [sizeV]; omega
            | false =>
              have HP3 := Lib.hid (show (scrZ, n + 1) = R by have h := HP2.out; simpa using h)
              go_wp2_with (first | (go_at_call 15; refine (HPL.out _).mono ?_; rintro e w6 ⟨rfl, f6⟩; have F6 := Lib.hid f6; clear f6) | (go_at_call 16; refine (HNB.out _).mono ?_; rintro e w7 ⟨rfl, f7⟩; have F7 := Lib.hid (F6.out.trans f7); clear f7; have F7w := FW.out.trans (F7.out.mono fun _ _ e => e.elim); have hS7 := HSC5.out.fr F7.out id; have z7 := frozen_of_row w7 sb i _ _ hS7; have hq7 := row22_cell hS7 i HI6.out; obtain ⟨qv, q7⟩ := hq7; have hS8 := row22_set hS7 i HI6.out nv; rw [HS2.out] at hS8; have F8 := F7w.trans ((Fr.refl (fun j => j = sb) w7).setOne i (.int .i64 nv)); have HW8 : ∃ W, w7.setCell ⟨sb, i, none⟩ (.int .i64 nv) = W := ⟨_, rfl⟩; obtain ⟨w8, hw8⟩ := HW8; rw [hw8] at hS8 F8; have HS8 := Lib.hid hS8; have HF8 := Lib.hid F8; clear hS7 hS8 F8 F7w; have hRB : w8.heap[rb]? = some (.cells #[.int .i64 0, .int .i64 0, .int .i64 0, .int .i64 0, .int .i64 0, .int .i64 0, .string ⟨#[]⟩, .string ⟨#[]⟩] 31 (0, 0)) := (HF8.out).obj HA.out (show ¬ (rb = sb) by have := HN.out; omega); have r0 : w8.cell? ⟨rb, 0, none⟩ = some (.int .i64 0) := cell_of_row w8 rb 0 _ _ _ hRB; have r1 : w8.cell? ⟨rb, 1, none⟩ = some (.int .i64 0) := cell_of_row w8 rb 1 _ _ _ hRB; have r2 : w8.cell? ⟨rb, 2, none⟩ = some (.int .i64 0) := cell_of_row w8 rb 2 _ _ _ hRB; have r3 : w8.cell? ⟨rb, 3, none⟩ = some (.int .i64 0) := cell_of_row w8 rb 3 _ _ _ hRB; have r4 : w8.cell? ⟨rb, 4, none⟩ = some (.int .i64 0) := cell_of_row w8 rb 4 _ _ _ hRB; have r5 : w8.cell? ⟨rb, 5, none⟩ = some (.int .i64 0) := cell_of_row w8 rb 5 _ _ _ hRB; have r6 : w8.cell? ⟨rb, 6, none⟩ = some (.string ⟨#[]⟩) := cell_of_row w8 rb 6 _ _ _ hRB; have r7 : w8.cell? ⟨rb, 7, none⟩ = some (.string ⟨#[]⟩) := cell_of_row w8 rb 7 _ _ _ hRB; have y0 := frozen_of_row w8 rb 0 _ _ hRB; have y1 := frozen_of_row w8 rb 1 _ _ hRB; have y2 := frozen_of_row w8 rb 2 _ _ hRB; have y3 := frozen_of_row w8 rb 3 _ _ hRB; have y4 := frozen_of_row w8 rb 4 _ _ hRB; have y5 := frozen_of_row w8 rb 5 _ _ hRB; have y6 := frozen_of_row w8 rb 6 _ _ hRB; have y7 := frozen_of_row w8 rb 7 _ _ hRB; have HE := Lib.hid (eight_set hRB (.int .i64 0) (.int .i64 0) (.int .i64 0) (.int .i64 0) (.int .i64 0) (.int .i64 0) (.string ⟨#[]⟩) (.string ⟨#[]⟩)); have HFE := Lib.hid ((F2.out.after (HF8.out) (fun k hk e => absurd (show k = sb from e) (by have := HN.out; omega))).after (Fr.set8s (p := rb) (Fr.refl _ w8) (x0 := .int .i64 0) (x1 := .int .i64 0) (x2 := .int .i64 0) (x3 := .int .i64 0) (x4 := .int .i64 0) (x5 := .int .i64 0) (x6 := .string ⟨#[]⟩) (x7 := .string ⟨#[]⟩)) (fun k hk e => absurd (show k = rb from e) (by have := HN.out; omega))); clear hRB))
              refine bodyPost_ret (results_cell1p rfl _ _ rb 31 _ (0, 0) _ rfl HE.out Tryz.underlying31 rfl (by kernel_rfl)) rfl ?_
              rw [← HP3.out]
              exact ⟨rfl, HFE.out⟩
end Go.Proofs.YthkmbnkkohomeaaGreatDoor.Mem
