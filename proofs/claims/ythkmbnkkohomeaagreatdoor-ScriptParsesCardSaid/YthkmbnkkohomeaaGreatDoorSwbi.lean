/- script.Parse of any text. -/
import Derived.Test.YthkmbnkkohomeaaGreatDoorSwbh
set_option linter.unusedSimpArgs false
set_option linter.unusedVariables false

namespace Go.Proofs.YthkmbnkkohomeaaGreatDoor.Mem
open Go.RowKit Go.Maps

def ParsePost (r : Scr × Nat) (w : World) (e : Ending) (w' : World) : Prop := e = .returned (.tuple #[.agg r.1.row, .int .i64 r.2]) ∧ Fr (fun _ => False) w w'
theorem results_cell1p {P : Program} {fn : Func} {p u : Tmp} {ty : TypeId} (h : fn.results = #[.cell p ty, .tmp u]) (tmps : Array Value) (w : World) (g : Nat) (t : TypeId) (cs : Array Value) (fr : Nat × Nat) (d : TypeDesc)
    (hp : tmps.getD p undef = .pointer (some ⟨g, 0, none⟩)) (hg : w.heap[g]? = some (.cells cs t fr))
    (hu : P.underlying ty = some d) (hd : (match d with | .struct _ | .array _ _ => true | _ => false) = true) (hi : (P.info? ty).map (·.size) = some cs.size) :
    (results fn tmps).run P w = .ok (.tuple #[.agg cs, tmps.getD u undef]) w := by
  have hp' : tmps[p]?.getD undef = .pointer (some ⟨g, 0, none⟩) := by simpa using hp
  simp [results, h, hp', asAddr, run_loadVar_row w g t ty cs fr d hg hu hd hi]
theorem ba_of {s : ByteArray} {l : List UInt8} (h : s.data.toList = l) : s = ⟨l.toArray⟩ := by
  obtain ⟨a⟩ := s
  subst h
  simp
theorem rs_len {s : ByteArray} {l : List UInt8} (h : s.data.toList = l) : s.size = l.length := by
  rw [← h, Array.length_toList]; rfl
def sizeV : Value → Nat
  | .string s => s.size
  | _ => 0

set_option maxRecDepth 100000 in
set_option maxHeartbeats 4000000 in
theorem parse_script (t : ByteArray) (ht : t.size ≤ 5000) (w : World) (hk : Kn w) :
    Calls Tryz.prog 6 #[.string t] w fun e w' => ParsePost (parseB (t.size + 1) scr0 1 t.data.toList) w e w' := by
  have hA := heap_alloc_last w (.cells scrZ.row 26)
  have fA := (Fr.refl (fun _ => False) w).alloc (.cells scrZ.row 26)
  have zA : (w.alloc (.cells scrZ.row 26)).heap.size = w.heap.size + 1 := by simp
  obtain ⟨w1, hw1⟩ : ∃ W, w.alloc (.cells scrZ.row 26) = W := ⟨_, rfl⟩
  rw [hw1] at hA fA zA
  have hB := heap_alloc_last w1 (.cells scr0.row 26)
  have fB := (Fr.refl (fun _ => False) w1).alloc (.cells scr0.row 26)
  have zB : (w1.alloc (.cells scr0.row 26)).heap.size = w1.heap.size + 1 := by simp
  obtain ⟨w2, hw2⟩ : ∃ W, w1.alloc (.cells scr0.row 26) = W := ⟨_, rfl⟩
  rw [hw2] at hB fB zB
  obtain ⟨rb, hrb⟩ : ∃ b, w.heap.size = b := ⟨_, rfl⟩
  rw [hrb] at hA zA
  rw [zA] at hB zB
  obtain ⟨sb, hsb⟩ : ∃ b, rb + 1 = b := ⟨_, rfl⟩
  rw [hsb] at hB zB zA
  have HFL := Lib.hid (fields_ok sb w2 (by omega))
  have HS0 := Lib.hid (show ScrAt w2 sb scr0 from hB)
  have HA := Lib.hid (show ScrAt w2 rb scrZ from fB.obj hA id)
  have F2 := Lib.hid (fA.trans fB)
  have HK := Lib.hid hk
  have HN := Lib.hid (And.intro hrb (And.intro hsb zB))
  obtain ⟨R, hR⟩ : ∃ R, parseB (t.size + 1) scr0 1 t.data.toList = R := ⟨_, rfl⟩
  rw [hR]
  have HR := Lib.hid hR
  unfold scrZ Scr.row at hw1
  unfold scr0 Scr.row at hw2
  clear hA fA hB fB zB hk hR
  go_enter Tryz.func6, Tryz.ntmps6
  go_wp2_with (go_at_call 12; refine HFL.out.mono ?_; rintro e w3 ⟨mb, b1, k0, k1, k2, k3, k4, k5, rfl, hfl, hge, f3⟩; have HFD := Lib.hid hfl; have HGE := Lib.hid hge; have F3 := Lib.hid f3; clear hfl hge f3)
  go_loopw [0, 6] (fun tv nv wr => ∃ (T : ByteArray) (s : Scr) (n k : Nat), tv = .string T ∧ nv = .int .i64 n ∧ T.size < k ∧ T.size ≤ 5000 ∧ n + T.size ≤ 5001 ∧ parseB k s n T.data.toList = R ∧ ScrAt wr sb s ∧ Fr (fun j => j = sb) w3 wr) (fun tv _ _ => sizeV tv)
  case atStart => exact ⟨t, scr0, 1, t.size + 1, rfl, rfl, by omega, ht, by omega, HR.out, HS0.out.fr F3.out id, Fr.refl _ _⟩
  case round =>
    obtain ⟨T, s, n, k, rfl, rfl, hTk, hT5, hnT, hP, hSc, hF⟩ := hrel
    obtain ⟨di, da, re, he, sl, tx, inn, fu⟩ := s
    obtain ⟨k', rfl⟩ : ∃ k', k = k' + 1 := ⟨k - 1, by omega⟩
    rw [parseB] at hP
    obtain ⟨l1, hl1⟩ : ∃ x, (cutB 10 T.data.toList).1 = x := ⟨_, rfl⟩
    obtain ⟨rl, hrl⟩ : ∃ x, (cutB 10 T.data.toList).2.1 = x := ⟨_, rfl⟩
    obtain ⟨mo, hmo⟩ : ∃ x, (cutB 10 T.data.toList).2.2 = x := ⟨_, rfl⟩
    have hlen := cutB_len 10 T.data.toList
    have hless := cutB_less 10 T.data.toList
    rw [hl1, hrl] at hlen
    rw [hmo, hrl] at hless
    rw [hl1, hrl, hmo] at hP
    obtain ⟨nm, hnm⟩ : ∃ x, (cutB 32 l1).1 = x := ⟨_, rfl⟩
    obtain ⟨vl, hvl⟩ : ∃ x, (cutB 32 l1).2.1 = x := ⟨_, rfl⟩
    obtain ⟨sp, hsp⟩ : ∃ x, (cutB 32 l1).2.2 = x := ⟨_, rfl⟩
    have hlen2 := cutB_len 32 l1
    rw [hnm, hvl] at hlen2
    rw [hnm, hvl, hsp] at hP
    have hTl : T.data.toList.length = T.size := by rw [Array.length_toList]; rfl
    rw [hTl] at hlen hless
    have HP := Lib.hid hP
    have HPU := Lib.hid (And.intro (And.intro hl1 (And.intro hrl hmo)) (And.intro hnm (And.intro hvl hsp)))
    have HLN := Lib.hid (And.intro hlen (And.intro hless (And.intro hlen2 (And.intro hTk (And.intro hT5 hnT)))))
    have HSC := Lib.hid hSc
    have HF := Lib.hid hF
    have HKN := Lib.hid (fun W (hW : Fr (fun j => j = sb) w3 W) => HK.out.fr ((F2.out.trans F3.out).after hW (fun k hk e => absurd (show k = sb from e) (by have := HN.out; omega))))
    clear hP hl1 hrl hmo hlen hless hnm hvl hsp hlen2 hTl hSc hF hTk
    go_wp2_with fail
    refine (cut_ok T 10 hT5 wr (HKN.out wr HF.out)).mono ?_
    rintro e w4 ⟨L, RS, rfl, hL, hRS, f4⟩
    rw [HPU.out.1.2.2]
    rw [HPU.out.1.1] at hL
    rw [HPU.out.1.2.1] at hRS
    have HL := Lib.hid (And.intro hL hRS)
    have F4 := Lib.hid f4
    have hLz : L.size ≤ 5000 := by
      have h1 : L.data.toList.length = L.size := by rw [Array.length_toList]; rfl
      have := HLN.out.1
      rw [← h1, hL]
      omega
    clear hL hRS f4
    go_wp2_with fail
    refine (cut_ok L 32 hLz w4 (HKN.out w4 (HF.out.trans (F4.out.mono fun _ _ e => e.elim)))).mono ?_
    rw [HL.out.1]
    rintro e w5 ⟨N, V, rfl, hN, hV, f5⟩
    rw [HPU.out.2.2.2]
    rw [HPU.out.2.1] at hN
    rw [HPU.out.2.2.1] at hV
    have HNV := Lib.hid (And.intro hN hV)
    have F5 := Lib.hid (F4.out.trans f5)
    have FW := Lib.hid (HF.out.trans (F5.out.mono fun _ _ e => e.elim))
    have hVz : V.size ≤ 5000 := by
      have h1 : V.data.toList.length = V.size := by rw [Array.length_toList]; rfl
      have := HLN.out
      rw [← h1, hV]
      omega
    clear hN hV f5 hLz
    have HSC5 := Lib.hid (HSC.out.fr F5.out id)
    have HRS := Lib.hid (ba_of HL.out.2)
    have HA3 := Lib.hid (HA.out.fr F3.out id)
    have hge := HGE.out
    have HFL5 := Lib.hid (HFD.out.fr FW.out (show ¬ (mb = sb) by have := HN.out; omega) (show ¬ (b1 = sb) by have := HN.out; omega) (show ¬ (k0 = sb) by have := HN.out; omega) (show ¬ (k1 = sb) by have := HN.out; omega) (show ¬ (k2 = sb) by have := HN.out; omega) (show ¬ (k3 = sb) by have := HN.out; omega) (show ¬ (k4 = sb) by have := HN.out; omega) (show ¬ (k5 = sb) by have := HN.out; omega))
    obtain ⟨F, hFm, hFx⟩ := HFL5.out.map
    have HMP := Lib.hid hFm
    have hNz : N.size ≤ maxLen := by
      have h1 : N.data.toList.length = N.size := by rw [Array.length_toList]; rfl
      have := HLN.out
      rw [← h1, HNV.out.1]
      unfold maxLen
      omega
    have hfx := hFx N.data.toList
    rw [HNV.out.1] at hfx
    have HFX := Lib.hid hfx
    have hn5 : (n : Int) ≤ 5001 := by omega
    have HN5 := Lib.hid hn5
    clear hge hFm hFx hfx
    -- @cases
    by_cases hnt : nm = [116, 101, 120, 116]
    · have e1 : (N.toList == [116, 101, 120, 116]) = true := by rw [ByteArray.toList_eq, HNV.out.1, hnt]; rfl
      by_cases hv0 : vl = []
      · have e2 : V.toList.isEmpty = true := by rw [ByteArray.toList_eq, HNV.out.2, hv0]; rfl
        have hP2 := HP.out
        rw [if_pos ⟨hnt, hv0⟩] at hP2
        have HP2 := Lib.hid hP2
        have hS5 : w5.heap[sb]? = some (.cells #[.int .i64 di, .int .i64 da, .int .i64 re, .int .i64 he, .int .i64 sl, .string tx, .string inn, .int .i64 fu] 26 (0, 0)) := HSC5.out
        have z5 := frozen_of_row w5 sb 5 _ _ hS5
        have q5 : w5.cell? ⟨sb, 5, none⟩ = some (.string tx) := cell_of_row w5 sb 5 _ _ _ hS5
        have hS6 : (w5.setCell ⟨sb, 5, none⟩ (.string RS)).heap[sb]? = some (.cells #[.int .i64 di, .int .i64 da, .int .i64 re, .int .i64 he, .int .i64 sl, .string RS, .string inn, .int .i64 fu] 26 (0, 0)) := heap_setCell_same w5 sb 5 _ _ _ hS5
        have F6 := (Fr.refl (fun j => j = sb) w5).setOne 5 (.string RS)
        obtain ⟨w6, hw6⟩ : ∃ W, w5.setCell ⟨sb, 5, none⟩ (.string RS) = W := ⟨_, rfl⟩
        rw [hw6] at hS6 F6
        have F6w := FW.out.trans F6
        have s0 : w6.cell? ⟨sb, 0, none⟩ = some (.int .i64 di) := cell_of_row w6 sb 0 _ _ _ hS6
        have s1 : w6.cell? ⟨sb, 1, none⟩ = some (.int .i64 da) := cell_of_row w6 sb 1 _ _ _ hS6
        have s2 : w6.cell? ⟨sb, 2, none⟩ = some (.int .i64 re) := cell_of_row w6 sb 2 _ _ _ hS6
        have s3 : w6.cell? ⟨sb, 3, none⟩ = some (.int .i64 he) := cell_of_row w6 sb 3 _ _ _ hS6
        have s4 : w6.cell? ⟨sb, 4, none⟩ = some (.int .i64 sl) := cell_of_row w6 sb 4 _ _ _ hS6
        have s5 : w6.cell? ⟨sb, 5, none⟩ = some (.string RS) := cell_of_row w6 sb 5 _ _ _ hS6
        have s6 : w6.cell? ⟨sb, 6, none⟩ = some (.string inn) := cell_of_row w6 sb 6 _ _ _ hS6
        have s7 : w6.cell? ⟨sb, 7, none⟩ = some (.int .i64 fu) := cell_of_row w6 sb 7 _ _ _ hS6
        have hRB : w6.heap[rb]? = some (.cells #[.int .i64 0, .int .i64 0, .int .i64 0, .int .i64 0, .int .i64 0, .string ⟨#[]⟩, .string ⟨#[]⟩, .int .i64 0] 26 (0, 0)) := (F6w).obj HA3.out (show ¬ (rb = sb) by have := HN.out; omega)
        have r0 : w6.cell? ⟨rb, 0, none⟩ = some (.int .i64 0) := cell_of_row w6 rb 0 _ _ _ hRB
        have r1 : w6.cell? ⟨rb, 1, none⟩ = some (.int .i64 0) := cell_of_row w6 rb 1 _ _ _ hRB
        have r2 : w6.cell? ⟨rb, 2, none⟩ = some (.int .i64 0) := cell_of_row w6 rb 2 _ _ _ hRB
        have r3 : w6.cell? ⟨rb, 3, none⟩ = some (.int .i64 0) := cell_of_row w6 rb 3 _ _ _ hRB
        have r4 : w6.cell? ⟨rb, 4, none⟩ = some (.int .i64 0) := cell_of_row w6 rb 4 _ _ _ hRB
        have r5 : w6.cell? ⟨rb, 5, none⟩ = some (.string ⟨#[]⟩) := cell_of_row w6 rb 5 _ _ _ hRB
        have r6 : w6.cell? ⟨rb, 6, none⟩ = some (.string ⟨#[]⟩) := cell_of_row w6 rb 6 _ _ _ hRB
        have r7 : w6.cell? ⟨rb, 7, none⟩ = some (.int .i64 0) := cell_of_row w6 rb 7 _ _ _ hRB
        have y0 := frozen_of_row w6 rb 0 _ _ hRB
        have y1 := frozen_of_row w6 rb 1 _ _ hRB
        have y2 := frozen_of_row w6 rb 2 _ _ hRB
        have y3 := frozen_of_row w6 rb 3 _ _ hRB
        have y4 := frozen_of_row w6 rb 4 _ _ hRB
        have y5 := frozen_of_row w6 rb 5 _ _ hRB
        have y6 := frozen_of_row w6 rb 6 _ _ hRB
        have y7 := frozen_of_row w6 rb 7 _ _ hRB
        have HE := Lib.hid (eight_set hRB (.int .i64 di) (.int .i64 da) (.int .i64 re) (.int .i64 he) (.int .i64 sl) (.string RS) (.string inn) (.int .i64 fu))
        have HFE := Lib.hid (((F2.out.trans F3.out).after F6w (fun k hk e => absurd (show k = sb from e) (by have := HN.out; omega))).after (Fr.set8s (p := rb) (Fr.refl _ w6) (x0 := .int .i64 di) (x1 := .int .i64 da) (x2 := .int .i64 re) (x3 := .int .i64 he) (x4 := .int .i64 sl) (x5 := .string RS) (x6 := .string inn) (x7 := .int .i64 fu)) (fun k hk e => absurd (show k = rb from e) (by have := HN.out; omega)))
        clear hP2 hS5 hS6 F6 F6w hRB hnt hv0
        go_wp2_with fail
        refine bodyPost_ret (results_cell1p rfl _ _ rb 26 _ (0, 0) _ rfl HE.out Tryz.underlying26 rfl (by kernel_rfl)) rfl ?_
        rw [← HP2.out, ← HRS.out]
        exact ⟨rfl, HFE.out⟩
      · have e2 : V.toList.isEmpty = false := by rw [ByteArray.toList_eq, HNV.out.2]; cases vl with | nil => exact absurd rfl hv0 | cons _ _ => rfl
        have hP2 := HP.out
        rw [if_neg (fun e => hv0 e.2)] at hP2
        have hpl : pline ⟨di, da, re, he, sl, tx, inn, fu⟩ nm vl sp = none := by
          unfold pline
          rw [if_neg (by rw [hnt]; decide), fidx_text hnt]
        rw [hpl] at hP2
        have HP2 := Lib.hid hP2
        have hfn : F (.string N.data.toList) = none := by rw [HNV.out.1, HFX.out]; exact fld_none _ _ _ _ _ _ _ (by rw [hnt]; decide) (fidx_text hnt)
        have hRB : w5.heap[rb]? = some (.cells #[.int .i64 0, .int .i64 0, .int .i64 0, .int .i64 0, .int .i64 0, .string ⟨#[]⟩, .string ⟨#[]⟩, .int .i64 0] 26 (0, 0)) := (FW.out).obj HA3.out (show ¬ (rb = sb) by have := HN.out; omega)
        have r0 : w5.cell? ⟨rb, 0, none⟩ = some (.int .i64 0) := cell_of_row w5 rb 0 _ _ _ hRB
        have r1 : w5.cell? ⟨rb, 1, none⟩ = some (.int .i64 0) := cell_of_row w5 rb 1 _ _ _ hRB
        have r2 : w5.cell? ⟨rb, 2, none⟩ = some (.int .i64 0) := cell_of_row w5 rb 2 _ _ _ hRB
        have r3 : w5.cell? ⟨rb, 3, none⟩ = some (.int .i64 0) := cell_of_row w5 rb 3 _ _ _ hRB
        have r4 : w5.cell? ⟨rb, 4, none⟩ = some (.int .i64 0) := cell_of_row w5 rb 4 _ _ _ hRB
        have r5 : w5.cell? ⟨rb, 5, none⟩ = some (.string ⟨#[]⟩) := cell_of_row w5 rb 5 _ _ _ hRB
        have r6 : w5.cell? ⟨rb, 6, none⟩ = some (.string ⟨#[]⟩) := cell_of_row w5 rb 6 _ _ _ hRB
        have r7 : w5.cell? ⟨rb, 7, none⟩ = some (.int .i64 0) := cell_of_row w5 rb 7 _ _ _ hRB
        have y0 := frozen_of_row w5 rb 0 _ _ hRB
        have y1 := frozen_of_row w5 rb 1 _ _ hRB
        have y2 := frozen_of_row w5 rb 2 _ _ hRB
        have y3 := frozen_of_row w5 rb 3 _ _ hRB
        have y4 := frozen_of_row w5 rb 4 _ _ hRB
        have y5 := frozen_of_row w5 rb 5 _ _ hRB
        have y6 := frozen_of_row w5 rb 6 _ _ hRB
        have y7 := frozen_of_row w5 rb 7 _ _ hRB
        have HE := Lib.hid (eight_set hRB (.int .i64 0) (.int .i64 0) (.int .i64 0) (.int .i64 0) (.int .i64 0) (.string ⟨#[]⟩) (.string ⟨#[]⟩) (.int .i64 0))
        have HFE := Lib.hid (((F2.out.trans F3.out).after (FW.out) (fun k hk e => absurd (show k = sb from e) (by have := HN.out; omega))).after (Fr.set8s (p := rb) (Fr.refl _ w5) (x0 := .int .i64 0) (x1 := .int .i64 0) (x2 := .int .i64 0) (x3 := .int .i64 0) (x4 := .int .i64 0) (x5 := .string ⟨#[]⟩) (x6 := .string ⟨#[]⟩) (x7 := .int .i64 0)) (fun k hk e => absurd (show k = rb from e) (by have := HN.out; omega)))
        clear hRB
        clear hP2 hpl hnt hv0
        go_wp2_with (at_lookup; refine wpList_lookOk_fmap _ rfl _ _ 44 9 49 rfl strKey Tryz.underlying44 rfl mb 7 F rfl HMP.out (.string N) (.string N.data.toList) rfl (WideMaps.keyOf_string_mk Tryz.underlying9 hNz) ?_; rw [hfn])
        refine bodyPost_ret (results_cell1p rfl _ _ rb 26 _ (0, 0) _ rfl HE.out Tryz.underlying26 rfl (by kernel_rfl)) rfl ?_
        rw [← HP2.out]
        exact ⟨rfl, HFE.out⟩
    · have e1 : (N.toList == [116, 101, 120, 116]) = false := by rw [ByteArray.toList_eq, HNV.out.1]; simpa using hnt
      have hP2 := HP.out
      rw [if_neg (fun e => hnt e.1)] at hP2
      by_cases hin : nm = [105, 110]
      · have hpl : pline ⟨di, da, re, he, sl, tx, inn, fu⟩ nm vl sp = some ⟨di, da, re, he, sl, tx, ⟨vl.toArray⟩, fu⟩ := by
          unfold pline
          rw [if_pos hin]
        rw [hpl] at hP2
        have HP2 := Lib.hid hP2
        have hfn : F (.string N.data.toList) = some (.func (.func 31) #[] #[.pointer (some ⟨b1, 0, none⟩)]) := by rw [HNV.out.1, HFX.out]; unfold fldF sfn; rw [if_pos hin]
        have HCALL := Lib.hid (set_f8 b1 sb ⟨di, da, re, he, sl, tx, inn, fu⟩ V sp w5 HSC5.out HFL5.out.c1)
        have HVV := Lib.hid (ba_of HNV.out.2)
        clear hP2 hpl hnt hin
        cases mo with
        | true =>
          have HP3 := Lib.hid (show parseB k' _ (n + 1) rl = R by have h := HP2.out; simpa using h)
          go_wp2_with (first | (at_lookup; refine wpList_lookOk_fmap _ rfl _ _ 44 9 49 rfl strKey Tryz.underlying44 rfl mb 7 F rfl HMP.out (.string N) (.string N.data.toList) rfl (WideMaps.keyOf_string_mk Tryz.underlying9 hNz) ?_; rw [hfn]) | (go_at_call 31; refine HCALL.out.mono ?_; rintro e w6 ⟨rfl, hs6, f6⟩; have HS6 := Lib.hid hs6; have F6 := Lib.hid (FW.out.trans f6); clear hs6 f6))
          go_roundw
          case rel => exact ⟨RS, ⟨di, da, re, he, sl, tx, V, fu⟩, n + 1, k', rfl, by go_num, by have := HLN.out; have := HLN.out.2.1 trivial; have := rs_len HL.out.2; omega, by have := HLN.out; have := HLN.out.2.1 trivial; have := rs_len HL.out.2; omega, by have := HLN.out; have := HLN.out.2.1 trivial; have := rs_len HL.out.2; omega, by rw [HL.out.2, HVV.out]; exact HP3.out, HS6.out, F6.out⟩
          case measure => have := HLN.out; have := HLN.out.2.1 trivial; have := rs_len HL.out.2; simp only [sizeV]; omega
        | false =>
          have HP3 := Lib.hid (show (scrZ, n + 1) = R by have h := HP2.out; simpa using h)
          go_wp2_with (first | (at_lookup; refine wpList_lookOk_fmap _ rfl _ _ 44 9 49 rfl strKey Tryz.underlying44 rfl mb 7 F rfl HMP.out (.string N) (.string N.data.toList) rfl (WideMaps.keyOf_string_mk Tryz.underlying9 hNz) ?_; rw [hfn]) | (go_at_call 31; refine HCALL.out.mono ?_; rintro e w6 ⟨rfl, hs6, f6⟩; have F6 := Lib.hid (FW.out.trans f6); clear hs6 f6; have hRB : w6.heap[rb]? = some (.cells #[.int .i64 0, .int .i64 0, .int .i64 0, .int .i64 0, .int .i64 0, .string ⟨#[]⟩, .string ⟨#[]⟩, .int .i64 0] 26 (0, 0)) := (F6.out).obj HA3.out (show ¬ (rb = sb) by have := HN.out; omega); have r0 : w6.cell? ⟨rb, 0, none⟩ = some (.int .i64 0) := cell_of_row w6 rb 0 _ _ _ hRB; have r1 : w6.cell? ⟨rb, 1, none⟩ = some (.int .i64 0) := cell_of_row w6 rb 1 _ _ _ hRB; have r2 : w6.cell? ⟨rb, 2, none⟩ = some (.int .i64 0) := cell_of_row w6 rb 2 _ _ _ hRB; have r3 : w6.cell? ⟨rb, 3, none⟩ = some (.int .i64 0) := cell_of_row w6 rb 3 _ _ _ hRB; have r4 : w6.cell? ⟨rb, 4, none⟩ = some (.int .i64 0) := cell_of_row w6 rb 4 _ _ _ hRB; have r5 : w6.cell? ⟨rb, 5, none⟩ = some (.string ⟨#[]⟩) := cell_of_row w6 rb 5 _ _ _ hRB; have r6 : w6.cell? ⟨rb, 6, none⟩ = some (.string ⟨#[]⟩) := cell_of_row w6 rb 6 _ _ _ hRB; have r7 : w6.cell? ⟨rb, 7, none⟩ = some (.int .i64 0) := cell_of_row w6 rb 7 _ _ _ hRB; have y0 := frozen_of_row w6 rb 0 _ _ hRB; have y1 := frozen_of_row w6 rb 1 _ _ hRB; have y2 := frozen_of_row w6 rb 2 _ _ hRB; have y3 := frozen_of_row w6 rb 3 _ _ hRB; have y4 := frozen_of_row w6 rb 4 _ _ hRB; have y5 := frozen_of_row w6 rb 5 _ _ hRB; have y6 := frozen_of_row w6 rb 6 _ _ hRB; have y7 := frozen_of_row w6 rb 7 _ _ hRB; have HE := Lib.hid (eight_set hRB (.int .i64 0) (.int .i64 0) (.int .i64 0) (.int .i64 0) (.int .i64 0) (.string ⟨#[]⟩) (.string ⟨#[]⟩) (.int .i64 0)); have HFE := Lib.hid (((F2.out.trans F3.out).after (F6.out) (fun k hk e => absurd (show k = sb from e) (by have := HN.out; omega))).after (Fr.set8s (p := rb) (Fr.refl _ w6) (x0 := .int .i64 0) (x1 := .int .i64 0) (x2 := .int .i64 0) (x3 := .int .i64 0) (x4 := .int .i64 0) (x5 := .string ⟨#[]⟩) (x6 := .string ⟨#[]⟩) (x7 := .int .i64 0)) (fun k hk e => absurd (show k = rb from e) (by have := HN.out; omega))); clear hRB))
          refine bodyPost_ret (results_cell1p rfl _ _ rb 26 _ (0, 0) _ rfl HE.out Tryz.underlying26 rfl (by kernel_rfl)) rfl ?_
          rw [← HP3.out]
          exact ⟨rfl, HFE.out⟩
      · rcases hfi : fidx nm with _ | i
        · have hpl : pline ⟨di, da, re, he, sl, tx, inn, fu⟩ nm vl sp = none := by
            unfold pline
            rw [if_neg hin, hfi]
          rw [hpl] at hP2
          have HP2 := Lib.hid hP2
          have hfn : F (.string N.data.toList) = none := by rw [HNV.out.1, HFX.out]; exact fld_none _ _ _ _ _ _ _ hin hfi
          have hRB : w5.heap[rb]? = some (.cells #[.int .i64 0, .int .i64 0, .int .i64 0, .int .i64 0, .int .i64 0, .string ⟨#[]⟩, .string ⟨#[]⟩, .int .i64 0] 26 (0, 0)) := (FW.out).obj HA3.out (show ¬ (rb = sb) by have := HN.out; omega)
          have r0 : w5.cell? ⟨rb, 0, none⟩ = some (.int .i64 0) := cell_of_row w5 rb 0 _ _ _ hRB
          have r1 : w5.cell? ⟨rb, 1, none⟩ = some (.int .i64 0) := cell_of_row w5 rb 1 _ _ _ hRB
          have r2 : w5.cell? ⟨rb, 2, none⟩ = some (.int .i64 0) := cell_of_row w5 rb 2 _ _ _ hRB
          have r3 : w5.cell? ⟨rb, 3, none⟩ = some (.int .i64 0) := cell_of_row w5 rb 3 _ _ _ hRB
          have r4 : w5.cell? ⟨rb, 4, none⟩ = some (.int .i64 0) := cell_of_row w5 rb 4 _ _ _ hRB
          have r5 : w5.cell? ⟨rb, 5, none⟩ = some (.string ⟨#[]⟩) := cell_of_row w5 rb 5 _ _ _ hRB
          have r6 : w5.cell? ⟨rb, 6, none⟩ = some (.string ⟨#[]⟩) := cell_of_row w5 rb 6 _ _ _ hRB
          have r7 : w5.cell? ⟨rb, 7, none⟩ = some (.int .i64 0) := cell_of_row w5 rb 7 _ _ _ hRB
          have y0 := frozen_of_row w5 rb 0 _ _ hRB
          have y1 := frozen_of_row w5 rb 1 _ _ hRB
          have y2 := frozen_of_row w5 rb 2 _ _ hRB
          have y3 := frozen_of_row w5 rb 3 _ _ hRB
          have y4 := frozen_of_row w5 rb 4 _ _ hRB
          have y5 := frozen_of_row w5 rb 5 _ _ hRB
          have y6 := frozen_of_row w5 rb 6 _ _ hRB
          have y7 := frozen_of_row w5 rb 7 _ _ hRB
          have HE := Lib.hid (eight_set hRB (.int .i64 0) (.int .i64 0) (.int .i64 0) (.int .i64 0) (.int .i64 0) (.string ⟨#[]⟩) (.string ⟨#[]⟩) (.int .i64 0))
          have HFE := Lib.hid (((F2.out.trans F3.out).after (FW.out) (fun k hk e => absurd (show k = sb from e) (by have := HN.out; omega))).after (Fr.set8s (p := rb) (Fr.refl _ w5) (x0 := .int .i64 0) (x1 := .int .i64 0) (x2 := .int .i64 0) (x3 := .int .i64 0) (x4 := .int .i64 0) (x5 := .string ⟨#[]⟩) (x6 := .string ⟨#[]⟩) (x7 := .int .i64 0)) (fun k hk e => absurd (show k = rb from e) (by have := HN.out; omega)))
          clear hRB
          clear hP2 hpl hnt hin hfi
          go_wp2_with (at_lookup; refine wpList_lookOk_fmap _ rfl _ _ 44 9 49 rfl strKey Tryz.underlying44 rfl mb 7 F rfl HMP.out (.string N) (.string N.data.toList) rfl (WideMaps.keyOf_string_mk Tryz.underlying9 hNz) ?_; rw [hfn])
          refine bodyPost_ret (results_cell1p rfl _ _ rb 26 _ (0, 0) _ rfl HE.out Tryz.underlying26 rfl (by kernel_rfl)) rfl ?_
          rw [← HP2.out]
          exact ⟨rfl, HFE.out⟩
        · obtain ⟨k, hfk, hcall⟩ := fld_num HFL5.out hfi
          have hfn : F (.string N.data.toList) = some (.func (.func 23) #[] #[.pointer (some ⟨k, 0, none⟩)]) := by rw [HNV.out.1, HFX.out, hfk]; rfl
          have hnc := hcall ⟨di, da, re, he, sl, tx, inn, fu⟩ V sp w5 hVz (HKN.out w5 FW.out) HSC5.out HFL5.out.c1 ⟨rfl, rfl, rfl, rfl, rfl, rfl⟩
          have hpl : pline ⟨di, da, re, he, sl, tx, inn, fu⟩ nm vl sp = pset ⟨di, da, re, he, sl, tx, inn, fu⟩ i (pnum vl) sp := by
            unfold pline
            rw [if_neg hin, hfi]
          rw [hpl] at hP2
          clear hfk hcall hpl hin hfi hnt
          by_cases hgood : (∃ nv, pnum vl = some nv) ∧ sp = true
          · obtain ⟨⟨nv, hnv⟩, rfl⟩ := hgood
            obtain ⟨s2, hs2⟩ : ∃ s2, Scr.set ⟨di, da, re, he, sl, tx, inn, fu⟩ i nv = s2 := ⟨_, rfl⟩
            rw [hnv, show pset ⟨di, da, re, he, sl, tx, inn, fu⟩ i (some nv) true = some s2 from by rw [← hs2]; rfl] at hP2
            have HP2 := Lib.hid hP2
            have HCALL := Lib.hid (show Calls Tryz.prog 23 #[.string V, .bool true, .pointer (some ⟨k, 0, none⟩)] w5 fun e w' => e = .returned (.bool true) ∧ ScrAt w' sb s2 ∧ Fr (fun j => j = sb) w5 w' from
              hnc.mono fun e w' h => by unfold numPost at h; rw [HNV.out.2, hnv] at h; rw [← hs2]; exact h)
            clear hP2 hnc hnv hs2
            cases mo with
            | true =>
              have HP3 := Lib.hid (show parseB k' s2 (n + 1) rl = R by have h := HP2.out; simpa using h)
              go_wp2_with (first | (at_lookup; refine wpList_lookOk_fmap _ rfl _ _ 44 9 49 rfl strKey Tryz.underlying44 rfl mb 7 F rfl HMP.out (.string N) (.string N.data.toList) rfl (WideMaps.keyOf_string_mk Tryz.underlying9 hNz) ?_; rw [hfn]) | (go_at_call 23; refine HCALL.out.mono ?_; rintro e w6 ⟨rfl, hs6, f6⟩; have HS6 := Lib.hid hs6; have F6 := Lib.hid (FW.out.trans f6); clear hs6 f6))
              go_roundw
              case rel => exact ⟨RS, s2, n + 1, k', rfl, by go_num, by have := HLN.out; have := HLN.out.2.1 trivial; have := rs_len HL.out.2; omega, by have := HLN.out; have := HLN.out.2.1 trivial; have := rs_len HL.out.2; omega, by have := HLN.out; have := HLN.out.2.1 trivial; have := rs_len HL.out.2; omega, by rw [HL.out.2]; exact HP3.out, HS6.out, F6.out⟩
              case measure => have := HLN.out; have := HLN.out.2.1 trivial; have := rs_len HL.out.2; simp only [sizeV]; omega
            | false =>
              have HP3 := Lib.hid (show (scrZ, n + 1) = R by have h := HP2.out; simpa using h)
              go_wp2_with (first | (at_lookup; refine wpList_lookOk_fmap _ rfl _ _ 44 9 49 rfl strKey Tryz.underlying44 rfl mb 7 F rfl HMP.out (.string N) (.string N.data.toList) rfl (WideMaps.keyOf_string_mk Tryz.underlying9 hNz) ?_; rw [hfn]) | (go_at_call 23; refine HCALL.out.mono ?_; rintro e w6 ⟨rfl, hs6, f6⟩; have F6 := Lib.hid (FW.out.trans f6); clear hs6 f6; have hRB : w6.heap[rb]? = some (.cells #[.int .i64 0, .int .i64 0, .int .i64 0, .int .i64 0, .int .i64 0, .string ⟨#[]⟩, .string ⟨#[]⟩, .int .i64 0] 26 (0, 0)) := (F6.out).obj HA3.out (show ¬ (rb = sb) by have := HN.out; omega); have r0 : w6.cell? ⟨rb, 0, none⟩ = some (.int .i64 0) := cell_of_row w6 rb 0 _ _ _ hRB; have r1 : w6.cell? ⟨rb, 1, none⟩ = some (.int .i64 0) := cell_of_row w6 rb 1 _ _ _ hRB; have r2 : w6.cell? ⟨rb, 2, none⟩ = some (.int .i64 0) := cell_of_row w6 rb 2 _ _ _ hRB; have r3 : w6.cell? ⟨rb, 3, none⟩ = some (.int .i64 0) := cell_of_row w6 rb 3 _ _ _ hRB; have r4 : w6.cell? ⟨rb, 4, none⟩ = some (.int .i64 0) := cell_of_row w6 rb 4 _ _ _ hRB; have r5 : w6.cell? ⟨rb, 5, none⟩ = some (.string ⟨#[]⟩) := cell_of_row w6 rb 5 _ _ _ hRB; have r6 : w6.cell? ⟨rb, 6, none⟩ = some (.string ⟨#[]⟩) := cell_of_row w6 rb 6 _ _ _ hRB; have r7 : w6.cell? ⟨rb, 7, none⟩ = some (.int .i64 0) := cell_of_row w6 rb 7 _ _ _ hRB; have y0 := frozen_of_row w6 rb 0 _ _ hRB; have y1 := frozen_of_row w6 rb 1 _ _ hRB; have y2 := frozen_of_row w6 rb 2 _ _ hRB; have y3 := frozen_of_row w6 rb 3 _ _ hRB; have y4 := frozen_of_row w6 rb 4 _ _ hRB; have y5 := frozen_of_row w6 rb 5 _ _ hRB; have y6 := frozen_of_row w6 rb 6 _ _ hRB; have y7 := frozen_of_row w6 rb 7 _ _ hRB; have HE := Lib.hid (eight_set hRB (.int .i64 0) (.int .i64 0) (.int .i64 0) (.int .i64 0) (.int .i64 0) (.string ⟨#[]⟩) (.string ⟨#[]⟩) (.int .i64 0)); have HFE := Lib.hid (((F2.out.trans F3.out).after (F6.out) (fun k hk e => absurd (show k = sb from e) (by have := HN.out; omega))).after (Fr.set8s (p := rb) (Fr.refl _ w6) (x0 := .int .i64 0) (x1 := .int .i64 0) (x2 := .int .i64 0) (x3 := .int .i64 0) (x4 := .int .i64 0) (x5 := .string ⟨#[]⟩) (x6 := .string ⟨#[]⟩) (x7 := .int .i64 0)) (fun k hk e => absurd (show k = rb from e) (by have := HN.out; omega))); clear hRB))
              refine bodyPost_ret (results_cell1p rfl _ _ rb 26 _ (0, 0) _ rfl HE.out Tryz.underlying26 rfl (by kernel_rfl)) rfl ?_
              rw [← HP3.out]
              exact ⟨rfl, HFE.out⟩
          · have hR2 : (scrZ, n) = R := by
              rcases hq : pnum vl with _ | nv
              · rw [hq] at hP2; exact hP2
              · rw [hq] at hP2
                cases hsp : sp with
                | false => rw [hsp] at hP2; exact hP2
                | true => exact absurd ⟨⟨nv, hq⟩, hsp⟩ hgood
            have hnc2 : Calls Tryz.prog 23 #[.string V, .bool sp, .pointer (some ⟨k, 0, none⟩)] w5 fun e w' => e = .returned (.bool false) ∧ ScrAt w' sb ⟨di, da, re, he, sl, tx, inn, fu⟩ ∧ Fr (fun _ => False) w5 w' := by
              refine hnc.mono fun e w' h => ?_
              unfold numPost at h
              rw [HNV.out.2] at h
              rcases hq : pnum vl with _ | nv
              · rw [hq] at h; exact h
              · rw [hq] at h
                cases hsp : sp with
                | false => rw [hsp] at h; exact h
                | true => exact absurd ⟨⟨nv, hq⟩, hsp⟩ hgood
            have HP2 := Lib.hid hR2
            have HCALL := Lib.hid hnc2
            clear hP2 hnc hR2 hnc2 hgood
            go_wp2_with (first | (at_lookup; refine wpList_lookOk_fmap _ rfl _ _ 44 9 49 rfl strKey Tryz.underlying44 rfl mb 7 F rfl HMP.out (.string N) (.string N.data.toList) rfl (WideMaps.keyOf_string_mk Tryz.underlying9 hNz) ?_; rw [hfn]) | (go_at_call 23; refine HCALL.out.mono ?_; rintro e w6 ⟨rfl, hs6, f6⟩; have F6 := Lib.hid (FW.out.trans (f6.mono fun _ _ e => e.elim)); clear hs6 f6; have hRB : w6.heap[rb]? = some (.cells #[.int .i64 0, .int .i64 0, .int .i64 0, .int .i64 0, .int .i64 0, .string ⟨#[]⟩, .string ⟨#[]⟩, .int .i64 0] 26 (0, 0)) := (F6.out).obj HA3.out (show ¬ (rb = sb) by have := HN.out; omega); have r0 : w6.cell? ⟨rb, 0, none⟩ = some (.int .i64 0) := cell_of_row w6 rb 0 _ _ _ hRB; have r1 : w6.cell? ⟨rb, 1, none⟩ = some (.int .i64 0) := cell_of_row w6 rb 1 _ _ _ hRB; have r2 : w6.cell? ⟨rb, 2, none⟩ = some (.int .i64 0) := cell_of_row w6 rb 2 _ _ _ hRB; have r3 : w6.cell? ⟨rb, 3, none⟩ = some (.int .i64 0) := cell_of_row w6 rb 3 _ _ _ hRB; have r4 : w6.cell? ⟨rb, 4, none⟩ = some (.int .i64 0) := cell_of_row w6 rb 4 _ _ _ hRB; have r5 : w6.cell? ⟨rb, 5, none⟩ = some (.string ⟨#[]⟩) := cell_of_row w6 rb 5 _ _ _ hRB; have r6 : w6.cell? ⟨rb, 6, none⟩ = some (.string ⟨#[]⟩) := cell_of_row w6 rb 6 _ _ _ hRB; have r7 : w6.cell? ⟨rb, 7, none⟩ = some (.int .i64 0) := cell_of_row w6 rb 7 _ _ _ hRB; have y0 := frozen_of_row w6 rb 0 _ _ hRB; have y1 := frozen_of_row w6 rb 1 _ _ hRB; have y2 := frozen_of_row w6 rb 2 _ _ hRB; have y3 := frozen_of_row w6 rb 3 _ _ hRB; have y4 := frozen_of_row w6 rb 4 _ _ hRB; have y5 := frozen_of_row w6 rb 5 _ _ hRB; have y6 := frozen_of_row w6 rb 6 _ _ hRB; have y7 := frozen_of_row w6 rb 7 _ _ hRB; have HE := Lib.hid (eight_set hRB (.int .i64 0) (.int .i64 0) (.int .i64 0) (.int .i64 0) (.int .i64 0) (.string ⟨#[]⟩) (.string ⟨#[]⟩) (.int .i64 0)); have HFE := Lib.hid (((F2.out.trans F3.out).after (F6.out) (fun k hk e => absurd (show k = sb from e) (by have := HN.out; omega))).after (Fr.set8s (p := rb) (Fr.refl _ w6) (x0 := .int .i64 0) (x1 := .int .i64 0) (x2 := .int .i64 0) (x3 := .int .i64 0) (x4 := .int .i64 0) (x5 := .string ⟨#[]⟩) (x6 := .string ⟨#[]⟩) (x7 := .int .i64 0)) (fun k hk e => absurd (show k = rb from e) (by have := HN.out; omega))); clear hRB))
            refine bodyPost_ret (results_cell1p rfl _ _ rb 26 _ (0, 0) _ rfl HE.out Tryz.underlying26 rfl (by kernel_rfl)) rfl ?_
            rw [← HP2.out]
            exact ⟨rfl, HFE.out⟩
end Go.Proofs.YthkmbnkkohomeaaGreatDoor.Mem
