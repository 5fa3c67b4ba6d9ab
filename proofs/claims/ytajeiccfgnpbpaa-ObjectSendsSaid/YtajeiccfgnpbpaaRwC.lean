/- Contracts of the document's classes: own, Walk, Heir. -/
import Derived.Test.YtajeiccfgnpbpaaWkC
import Derived.Test.YtajeiccfgnpbpaaClsK
import Derived.Deep.DrawnRows
import Derived.Deep.AppendLies
import Derived.Deep.QuietTactic
import Derived.BigQuiet
import Derived.Deep.RegionHeld3
set_option linter.unusedSimpArgs false
set_option linter.unusedVariables false

namespace Go.Proofs.Ytajeiccfgnpbpaa.Mem
open Go.RowKit

/-- Own methods as they are read. -/
def OwnR (W : World) (v : Value) (l : List (Int × Int)) : Prop :=
  ∃ o c, v = .slice o l.length c ∧ (l.length = 0 ∨ ∃ (gg : Nat) (cs : Array Value), o = some ⟨gg, 0, none⟩ ∧ W.heap[gg]? = some (.cells cs 150 (0, 0)) ∧ ∀ j (h : j < l.length), cs[j * 2]? = some (.int .i64 l[j].1) ∧ cs[j * 2 + 1]? = some (.int .i64 l[j].2))
theorem OwnR.fr {S : Nat → Prop} {W W' : World} {v : Value} {l : List (Int × Int)} (h : OwnR W v l) (f : Fr S W W') (hs : ∀ k cs, W.heap[k]? = some (.cells cs 150 (0, 0)) → ¬ S k) : OwnR W' v l := by
  obtain ⟨o, c, hv, hc⟩ := h
  exact ⟨o, c, hv, hc.imp id fun ⟨gg, cs, ho, hb, hcell⟩ => ⟨gg, cs, ho, f.obj hb (hs gg cs hb), hcell⟩⟩
theorem OwnR.old {W W' : World} {v : Value} {l : List (Int × Int)} (h : OwnR W v l) (f : Fr (fun _ => False) W W') : OwnR W' v l := h.fr f (fun _ _ _ => id)

/-- The document's classes as they are read. -/
structure RLat (W : World) (gL : Nat) (vs : Nat → Value) (L : List RC) : Prop where
  obj : ∃ cs, W.heap[gL]? = some (.cells cs 90 (0, 0))
  c0 : ∀ j (h : j < L.length), W.cell? ⟨gL, j * 4, none⟩ = some (.int .i64 L[j].par)
  c1 : ∀ j (h : j < L.length), W.cell? ⟨gL, j * 4 + 1, none⟩ = some (.int .i64 L[j].size)
  c2 : ∀ j (h : j < L.length), W.cell? ⟨gL, j * 4 + 2, none⟩ = some (.int .i64 L[j].slots)
  c3 : ∀ j (h : j < L.length), W.cell? ⟨gL, j * 4 + 3, none⟩ = some (vs j)
  own : ∀ j (h : j < L.length), OwnR W (vs j) L[j].own
  few : ∀ j (h : j < L.length), L[j].own.length ≤ 64
theorem RLat.fr {S : Nat → Prop} {W W' : World} {gL : Nat} {vs : Nat → Value} {L : List RC} (h : RLat W gL vs L) (f : Fr S W W') (hg : ¬ S gL) (hs : ∀ k cs, W.heap[k]? = some (.cells cs 150 (0, 0)) → ¬ S k) : RLat W' gL vs L :=
  ⟨h.obj.elim fun cs e => ⟨cs, f.obj e hg⟩, fun j hj => f.cell (h.c0 j hj) hg, fun j hj => f.cell (h.c1 j hj) hg, fun j hj => f.cell (h.c2 j hj) hg, fun j hj => f.cell (h.c3 j hj) hg, fun j hj => (h.own j hj).fr f hs, h.few⟩
theorem RLat.old {W W' : World} {gL : Nat} {vs : Nat → Value} {L : List RC} (h : RLat W gL vs L) (f : Fr (fun _ => False) W W') : RLat W' gL vs L := h.fr f id (fun _ _ _ => id)

def ores : Option Int → Int × Bool
  | some x => (x, true)
  | none => (0, false)

theorem own_cells {W : World} {v : Value} {l : List (Int × Int)} (h : OwnR W v l) : ∃ o c, v = .slice o l.length c ∧ (0 < l.length → ∃ gg, o = some ⟨gg, 0, none⟩ ∧ ∀ j (hj : j < l.length), W.cell? ⟨gg, j * 2, none⟩ = some (.int .i64 l[j].1) ∧ W.cell? ⟨gg, j * 2 + 1, none⟩ = some (.int .i64 l[j].2)) := by
  obtain ⟨o, c, hv, hc⟩ := h
  refine ⟨o, c, hv, fun h0 => ?_⟩
  obtain ⟨gg, cs, ho, hb, hcell⟩ := hc.resolve_left (by omega)
  refine ⟨gg, ho, fun j hj => ?_⟩
  rw [cell_of_row _ _ _ _ _ _ hb, cell_of_row _ _ _ _ _ _ hb]
  exact hcell j hj

set_option maxRecDepth 100000 in
set_option maxHeartbeats 2000000 in
theorem rown_any (x0 x1 x2 sel : Int) (v : Value) (l : List (Int × Int)) (w : World) (h : OwnR w v l) (hl : l.length ≤ 1048576) :
    Calls Try.prog 86 #[.agg #[.int .i64 x0, .int .i64 x1, .int .i64 x2, v], .int .i64 sel] w
      fun e w' => e = .returned (.tuple #[.int .i64 (ores (rown l sel)).1, .bool (ores (rown l sel)).2]) ∧ Fr (fun _ => False) w w' := by
  obtain ⟨o, c, rfl, hcell⟩ := own_cells h
  obtain ⟨⟨r1, r2⟩, hr⟩ : ∃ r, ores (rown l sel) = r := ⟨_, rfl⟩
  rw [hr]
  dsimp only
  obtain ⟨n, hn⟩ : ∃ n, l.length = n := ⟨_, rfl⟩
  have HN := Lib.hid hn
  have HR := Lib.hid hr
  have HC := Lib.hid hcell
  rw [hn] at hl ⊢
  have OX := heap_alloc_last w (.cells #[.int .i64 x0, .int .i64 x1, .int .i64 x2, .slice o n c] 90)
  have FX := Lib.hid ((Fr.refl (fun _ => False) w).alloc (.cells #[.int .i64 x0, .int .i64 x1, .int .i64 x2, .slice o n c] 90))
  obtain ⟨p0, p1, p2, p3, pl⟩ := four_cells OX
  clear h hn hr hcell OX
  go_enter Try.func86, Try.ntmps86
  go_wp2_with fail
  obtain ⟨wX, hwX⟩ : ∃ wX, w.alloc (.cells #[.int .i64 x0, .int .i64 x1, .int .i64 x2, .slice o n c] 90) = wX := ⟨_, rfl⟩
  rw [hwX] at FX p0 p1 p2 p3 pl ⊢
  clear hwX
  go_loop [6] (fun iv => ∃ k : Nat, k ≤ n ∧ iv = .int .i64 k ∧ ores (rown (l.drop k) sel) = (r1, r2)) (fun iv => n - (intOf iv).toNat)
  case atStart => exact ⟨0, Nat.zero_le _, rfl, HR.out⟩
  case round =>
    obtain ⟨k, hk, rfl, hrw⟩ := hrel
    have HRW := Lib.hid hrw
    by_cases hlt : k < n
    · have hkl : k < l.length := by rw [HN.out]; exact hlt
      obtain ⟨gg, rfl, hcells⟩ := HC.out (by omega)
      obtain ⟨a0, a1⟩ := hcells k hkl
      have b0 := FX.out.cell a0 id
      have b1 := FX.out.cell a1 id
      rw [List.drop_eq_getElem_cons hkl, rown] at hrw
      obtain ⟨⟨y0, y1⟩, hy⟩ : ∃ y, l[k] = y := ⟨_, rfl⟩
      rw [hy] at b0 b1 hrw
      dsimp only at b0 b1 hrw
      clear a0 a1 hcells hy hkl
      cases hys : (y0 == sel) with
      | true =>
        obtain rfl : y0 = sel := by simpa using hys
        rw [if_pos rfl] at hrw
        have HR2 := Lib.hid hrw
        clear hrw
        go_wp2_with fail
        go_ret2
        have hh := HR2.out
        cases hh
        exact ⟨rfl, FX.out⟩
      | false =>
        have hne : y0 ≠ sel := by simpa using hys
        rw [if_neg hne] at hrw
        have HR2 := Lib.hid hrw
        clear hrw
        go_wp2_with fail
        go_round
        case rel => exact ⟨k + 1, by omega, by go_num, HR2.out⟩
        case measure => simp [intOf]; omega
    · obtain rfl : k = n := by omega
      rw [List.drop_eq_nil_of_le (by rw [HN.out]; omega), rown] at hrw
      have HR2 := Lib.hid hrw
      clear hrw
      go_wp2_with fail
      go_ret2
      have hh := HR2.out
      cases hh
      exact ⟨rfl, FX.out⟩

/-- A walk from a class's number on; below 0 there is none. -/
def walkI (L : List RC) (sel c : Int) : Option (Int × Nat) := if 0 ≤ c then walkN L sel c.toNat else none
def wres : Option (Int × Nat) → Int × Int × Bool
  | some (x, k) => (x, (k : Int), true)
  | none => (0, 0, false)
theorem walkI_step {L : List RC} (hw : WFL L) {sel : Int} {c : Nat} (hc : c < L.length) : walkI L sel c = match rown L[c].own sel with | some x => some (x, c) | none => walkI L sel L[c].par := by
  have hr : L[c]? = some L[c] := List.getElem?_eq_getElem hc
  obtain ⟨h1, h2, _⟩ := hw c _ hr
  unfold walkI
  rw [if_pos (by omega), Int.toNat_natCast]
  cases hx : rown L[c].own sel with
  | some x => rw [walk_own hr hx]
  | none =>
    rw [walk_up hr hx]
    dsimp only
    by_cases hp : 0 ≤ L[c].par
    · rw [if_pos ⟨hp, by omega⟩, if_pos hp]
    · rw [if_neg (fun h => hp h.1), if_neg hp]

set_option maxRecDepth 100000 in
set_option maxHeartbeats 2000000 in
theorem rwalk_any (gL c : Nat) (vs : Nat → Value) (L : List RC) (c0 sel : Int) (w : World) (h : RLat w gL vs L) (hw : WFL L) (hL : L.length ≤ 64) (hc0 : -1 ≤ c0 ∧ c0 < L.length) :
    Calls Try.prog 36 #[.slice (some ⟨gL, 0, none⟩) L.length c, .int .i64 c0, .int .i64 sel] w
      fun e w' => e = .returned (.tuple #[.int .i64 (wres (walkI L sel c0)).1, .int .i64 (wres (walkI L sel c0)).2.1, .bool (wres (walkI L sel c0)).2.2]) ∧ Fr (fun _ => False) w w' := by
  obtain ⟨⟨r1, r2, r3⟩, hr⟩ : ∃ r, wres (walkI L sel c0) = r := ⟨_, rfl⟩
  rw [hr]
  dsimp only
  have HR := Lib.hid hr
  have H := Lib.hid h
  have HW := Lib.hid hw
  have HOW := Lib.hid (fun x0 x1 x2 v l W h hl => rown_any x0 x1 x2 sel v l W h hl)
  obtain ⟨n, hn⟩ : ∃ n, L.length = n := ⟨_, rfl⟩
  have HN := Lib.hid hn
  rw [hn] at hL hc0 ⊢
  clear h hw hr hn
  go_enter Try.func36, Try.ntmps36
  go_wp2_with fail
  go_loopw [1] (fun cv wr => ∃ k : Int, -1 ≤ k ∧ k < n ∧ cv = .int .i64 k ∧ wres (walkI L sel k) = (r1, r2, r3) ∧ Fr (fun _ => False) w wr) (fun cv _ => (intOf cv + 1).toNat)
  case atStart => exact ⟨c0, hc0.1, hc0.2, rfl, HR.out, Fr.refl _ _⟩
  case round =>
    obtain ⟨k, hk1, hk2, rfl, hres, hF⟩ := hrel
    have HF := Lib.hid hF
    by_cases hk0 : 0 ≤ k
    · obtain ⟨c, rfl⟩ : ∃ c : Nat, k = c := ⟨k.toNat, by omega⟩
      have hcl : c < L.length := by rw [HN.out]; omega
      have hcn : c < n := by omega
      rw [walkI_step HW.out hcl] at hres
      have hRL := H.out.old hF
      have b0 := hRL.c0 c hcl
      have b1 := hRL.c1 c hcl
      have b2 := hRL.c2 c hcl
      have b3 := hRL.c3 c hcl
      have how := hRL.own c hcl
      have hfew := hRL.few c hcl
      have hwf := HW.out c _ (List.getElem?_eq_getElem hcl)
      obtain ⟨⟨x0, x1, x2, l⟩, hx⟩ : ∃ x, L[c] = x := ⟨_, rfl⟩
      rw [hx] at b0 b1 b2 how hfew hres hwf
      dsimp only at b0 b1 b2 how hfew hres hwf
      obtain ⟨hw1, hw2, _⟩ := hwf
      obtain ⟨v, hv⟩ : ∃ v, vs c = v := ⟨_, rfl⟩
      rw [hv] at b3 how
      have ho := HOW.out x0 x1 x2 v l wr how (by omega)
      obtain ⟨ov, hov⟩ : ∃ ov, rown l sel = ov := ⟨_, rfl⟩
      rw [hov] at ho hres
      have hb0 : (0 : Int) ≤ c := by omega
      cases ov with
      | some x =>
        simp only [ores] at ho
        simp only [wres] at hres
        have HO := Lib.hid ho
        have HRS := Lib.hid hres
        clear hRL how hfew hx hv ho hov hres hF hcl
        go_wp2_with fail
        refine HO.out.mono ?_
        rintro e w1 ⟨rfl, hf⟩
        have HF1 := Lib.hid (HF.out.trans hf)
        clear hf
        go_wp2_with fail
        go_ret3
        have hh := HRS.out
        cases hh
        exact ⟨rfl, HF1.out⟩
      | none =>
        simp only [ores] at ho
        dsimp only at hres
        have HO := Lib.hid ho
        have HRS := Lib.hid hres
        have HB := Lib.hid b0
        clear hRL how hfew hx hv ho hov hres hF hcl
        go_wp2_with fail
        refine HO.out.mono ?_
        rintro e w1 ⟨rfl, hf⟩
        have HF1 := Lib.hid (HF.out.trans hf)
        have bb := hf.cell HB.out id
        clear hf
        go_wp2_with fail
        go_roundw
        case rel => exact ⟨x0, hw1, by omega, rfl, HRS.out, HF1.out⟩
        case measure => simp [intOf]; omega
    · have HRS := Lib.hid (show wres none = (r1, r2, r3) by rw [← hres]; unfold walkI; rw [if_neg hk0])
      clear hF hres
      go_wp2_with fail
      go_ret3
      have hh := HRS.out
      cases hh
      exact ⟨rfl, HF.out⟩

/-- Is a class's number an heir's? -/
def heirI (L : List RC) (of : Nat) (sel c : Int) : Bool := if 0 ≤ c then heirN L of sel c.toNat else false
theorem heirI_step {L : List RC} (hw : WFL L) {of : Nat} {sel : Int} {c : Nat} (hc : c < L.length) (hne : c ≠ of) : heirI L of sel c = match rown L[c].own sel with | some _ => false | none => heirI L of sel L[c].par := by
  have hr : L[c]? = some L[c] := List.getElem?_eq_getElem hc
  obtain ⟨h1, h2, _⟩ := hw c _ hr
  unfold heirI
  rw [if_pos (by omega), Int.toNat_natCast]
  cases hx : rown L[c].own sel with
  | some x => rw [heir_own hne hr hx]
  | none =>
    rw [heir_up hne hr hx]
    dsimp only
    by_cases hp : 0 ≤ L[c].par
    · rw [if_pos ⟨hp, by omega⟩, if_pos hp]
    · rw [if_neg (fun h => hp h.1), if_neg hp]
theorem heirI_self (L : List RC) (of : Nat) (sel : Int) : heirI L of sel of = true := by
  unfold heirI
  rw [if_pos (by omega), Int.toNat_natCast, heir_self]

set_option maxRecDepth 100000 in
set_option maxHeartbeats 2000000 in
theorem rheir_any (gL c of : Nat) (vs : Nat → Value) (L : List RC) (c0 sel : Int) (w : World) (h : RLat w gL vs L) (hw : WFL L) (hL : L.length ≤ 64) (hc0 : -1 ≤ c0 ∧ c0 < L.length) (hof : of < L.length) :
    Calls Try.prog 83 #[.slice (some ⟨gL, 0, none⟩) L.length c, .int .i64 c0, .int .i64 of, .int .i64 sel] w
      fun e w' => e = .returned (.bool (heirI L of sel c0)) ∧ Fr (fun _ => False) w w' := by
  obtain ⟨r, hr⟩ : ∃ r, heirI L of sel c0 = r := ⟨_, rfl⟩
  rw [hr]
  have HR := Lib.hid hr
  have H := Lib.hid h
  have HW := Lib.hid hw
  have HOW := Lib.hid (fun x0 x1 x2 v l W h hl => rown_any x0 x1 x2 sel v l W h hl)
  obtain ⟨n, hn⟩ : ∃ n, L.length = n := ⟨_, rfl⟩
  have HN := Lib.hid hn
  rw [hn] at hL hc0 hof ⊢
  clear h hw hr hn
  go_enter Try.func83, Try.ntmps83
  go_wp2_with fail
  go_loopw [1] (fun cv wr => ∃ k : Int, -1 ≤ k ∧ k < n ∧ cv = .int .i64 k ∧ heirI L of sel k = r ∧ Fr (fun _ => False) w wr) (fun cv _ => (intOf cv + 1).toNat)
  case atStart => exact ⟨c0, hc0.1, hc0.2, rfl, HR.out, Fr.refl _ _⟩
  case round =>
    obtain ⟨k, hk1, hk2, rfl, hres, hF⟩ := hrel
    have HF := Lib.hid hF
    by_cases hk0 : 0 ≤ k
    · obtain ⟨c, rfl⟩ : ∃ c : Nat, k = c := ⟨k.toNat, by omega⟩
      have hcl : c < L.length := by rw [HN.out]; omega
      have hcn : c < n := by omega
      have hb0 : (0 : Int) ≤ c := by omega
      by_cases hco : c = of
      · subst hco
        rw [heirI_self] at hres
        have HRS := Lib.hid hres
        clear hF hres hcl
        go_wp2_with fail
        go_ret
        rw [← HRS.out]
        exact ⟨rfl, HF.out⟩
      · rw [heirI_step HW.out hcl hco] at hres
        have hne : ((c : Int) != (of : Int)) = true := by simp; omega
        have hne2 : ((c : Int) == (of : Int)) = false := by simp; omega
        have hRL := H.out.old hF
        have b0 := hRL.c0 c hcl
        have b1 := hRL.c1 c hcl
        have b2 := hRL.c2 c hcl
        have b3 := hRL.c3 c hcl
        have how := hRL.own c hcl
        have hfew := hRL.few c hcl
        have hwf := HW.out c _ (List.getElem?_eq_getElem hcl)
        obtain ⟨⟨x0, x1, x2, l⟩, hx⟩ : ∃ x, L[c] = x := ⟨_, rfl⟩
        rw [hx] at b0 b1 b2 how hfew hres hwf
        dsimp only at b0 b1 b2 how hfew hres hwf
        obtain ⟨hw1, hw2, _⟩ := hwf
        obtain ⟨v, hv⟩ : ∃ v, vs c = v := ⟨_, rfl⟩
        rw [hv] at b3 how
        have ho := HOW.out x0 x1 x2 v l wr how (by omega)
        obtain ⟨ov, hov⟩ : ∃ ov, rown l sel = ov := ⟨_, rfl⟩
        rw [hov] at ho hres
        cases ov with
        | some x =>
          simp only [ores] at ho
          dsimp only at hres
          have HO := Lib.hid ho
          have HRS := Lib.hid hres
          clear hRL how hfew hx hv ho hov hres hF hcl
          go_wp2_with fail
          refine HO.out.mono ?_
          rintro e w1 ⟨rfl, hf⟩
          have HF1 := Lib.hid (HF.out.trans hf)
          clear hf
          go_wp2_with fail
          go_ret
          rw [← HRS.out]
          exact ⟨rfl, HF1.out⟩
        | none =>
          simp only [ores] at ho
          dsimp only at hres
          have HO := Lib.hid ho
          have HRS := Lib.hid hres
          have HB := Lib.hid b0
          clear hRL how hfew hx hv ho hov hres hF hcl
          go_wp2_with fail
          refine HO.out.mono ?_
          rintro e w1 ⟨rfl, hf⟩
          have HF1 := Lib.hid (HF.out.trans hf)
          have bb := hf.cell HB.out id
          clear hf
          go_wp2_with fail
          go_roundw
          case rel => exact ⟨x0, hw1, by omega, rfl, HRS.out, HF1.out⟩
          case measure => simp [intOf]; omega
    · have hkm : k = -1 := by omega
      subst hkm
      have hm1 : ((-1 : Int) == (of : Int)) = false := by simp <;> omega
      have HRS := Lib.hid (show false = r by rw [← hres]; rfl)
      clear hF hres
      go_wp2_with fail
      go_ret
      rw [← HRS.out]
      exact ⟨rfl, HF.out⟩
end Go.Proofs.Ytajeiccfgnpbpaa.Mem

namespace Go.Proofs.Ytajeiccfgnpbpaa.Mem
open Go.RowKit

set_option maxRecDepth 100000 in
set_option maxHeartbeats 1000000 in
theorem rin_any (o : Option Addr) (c : Nat) (l : List Int) (sel : Int) (w : World) (h : l.length = 0 ∨ ∃ g, o = some ⟨g, 0, none⟩ ∧ ∀ j (hj : j < l.length), w.cell? ⟨g, j, none⟩ = some (.int .i64 l[j])) (hl : l.length ≤ 1048576) :
    Calls Try.prog 108 #[.slice o l.length c, .int .i64 sel] w fun e w' => e = .returned (.bool (decide (sel ∈ l))) ∧ w' = w := by
  obtain ⟨r, hr⟩ : ∃ r, decide (sel ∈ l) = r := ⟨_, rfl⟩
  rw [hr]
  have HR := Lib.hid hr
  have HC := Lib.hid h
  obtain ⟨n, hn⟩ : ∃ n, l.length = n := ⟨_, rfl⟩
  have HN := Lib.hid hn
  rw [hn] at hl ⊢
  clear h hr hn
  go_enter Try.func108, Try.ntmps108
  go_wp2_with fail
  go_loop [5] (fun iv => ∃ k : Nat, k ≤ n ∧ iv = .int .i64 k ∧ decide (sel ∈ l.drop k) = r) (fun iv => n - (intOf iv).toNat)
  case atStart => exact ⟨0, Nat.zero_le _, rfl, HR.out⟩
  case round =>
    obtain ⟨k, hk, rfl, hd⟩ := hrel
    by_cases hlt : k < n
    · have hkl : k < l.length := by rw [HN.out]; exact hlt
      obtain ⟨g, rfl, hcell⟩ := HC.out.resolve_left (by omega)
      have hc := hcell k hkl
      rw [List.drop_eq_getElem_cons hkl] at hd
      obtain ⟨y, hy⟩ : ∃ y, l[k] = y := ⟨_, rfl⟩
      rw [hy] at hc hd
      have HD := Lib.hid hd
      clear hcell hd hy hkl
      cases hys : (y == sel) with
      | true =>
        have HY := Lib.hid hys
        obtain rfl : y = sel := by simpa using hys
        clear hys
        go_wp2_with fail
        go_ret
        have hh := HD.out
        simp only [List.mem_cons, true_or, decide_true] at hh
        rw [← hh]
        exact ⟨rfl, rfl⟩
      | false =>
        have hne : sel ≠ y := fun e => by simp [e] at hys
        have HNE := Lib.hid hne
        clear hne
        go_wp2_with fail
        go_round
        case rel => exact ⟨k + 1, by omega, by go_num, by have hh := HD.out; simpa [HNE.out] using hh⟩
        case measure => simp [intOf]; omega
    · obtain rfl : n = k := by omega
      rw [List.drop_eq_nil_of_le (by rw [HN.out]; omega)] at hd
      have HD := Lib.hid hd
      clear hd
      go_wp2_with fail
      go_ret
      have hh := HD.out
      simp only [List.not_mem_nil, decide_false] at hh
      rw [← hh]
      exact ⟨rfl, rfl⟩

def seenI (L : List RC) (c : Int) (acc : List Int) : List Int := if 0 ≤ c then seenN L c.toNat acc else acc
theorem seenI_step {L : List RC} (hw : WFL L) {c : Nat} (hc : c < L.length) (acc : List Int) : seenI L c acc = seenI L L[c].par (L[c].own.foldl addSel acc) := by
  have hr : L[c]? = some L[c] := List.getElem?_eq_getElem hc
  obtain ⟨h1, h2, _⟩ := hw c _ hr
  unfold seenI
  rw [if_pos (by omega), Int.toNat_natCast, seenN, hr]
  dsimp only
  by_cases hp : 0 ≤ L[c].par
  · rw [if_pos ⟨hp, by omega⟩, if_pos hp]
  · rw [if_neg (fun h => hp h.1), if_neg hp]

theorem row_cells {w : World} {B : Nat} {t : TypeId} {v : Value} {l : List Int} (h : w.ownsRow B t 1 v l.length (l.map (.int .i64))) :
    ∃ o c, v = .slice o l.length c ∧ (l.length = 0 ∨ ∃ g, o = some ⟨g, 0, none⟩ ∧ ∀ j (hj : j < l.length), w.cell? ⟨g, j, none⟩ = some (.int .i64 l[j])) := by
  obtain ⟨o, c, rfl, _, _, h3, h4⟩ := owns_form h
  refine ⟨o, c, rfl, ?_⟩
  cases o with
  | none => exact .inl (h3 rfl).1
  | some bb =>
    obtain ⟨e1, e2, _, _⟩ := h4 bb rfl
    obtain ⟨b0, f0, p0⟩ := bb
    dsimp only at e1 e2
    subst e1; subst e2
    refine .inr ⟨b0, rfl, fun j hj => ?_⟩
    have := owns_holds h ⟨b0, 0, none⟩ rfl j (.int .i64 l[j]) (by simp [hj])
    rwa [addr_add'] at this

set_option maxRecDepth 100000 in
set_option maxHeartbeats 4000000 in
theorem rseen_any (gL c : Nat) (vs : Nat → Value) (L : List RC) (c0 : Int) (w : World) (h : RLat w gL vs L) (hw : WFL L) (hL : L.length ≤ 64) (hc0 : -1 ≤ c0 ∧ c0 < L.length) :
    Calls Try.prog 84 #[.slice (some ⟨gL, 0, none⟩) L.length c, .int .i64 c0] w
      fun e w' => e = .returned (.int .i64 ((seenI L c0 []).length : Nat)) ∧ Fr (fun _ => False) w w' := by
  obtain ⟨i0, hi, hz0, hz1, hz2⟩ := info_parts infoI64'
  have HI := Lib.hid hi
  have HZ := Lib.hid (And.intro hz0 (And.intro hz1 hz2))
  clear hi hz0 hz1 hz2
  obtain ⟨r, hr⟩ : ∃ r, seenI L c0 [] = r := ⟨_, rfl⟩
  rw [hr]
  have HR := Lib.hid hr
  have H := Lib.hid h
  have HW := Lib.hid hw
  obtain ⟨n, hn⟩ : ∃ n, L.length = n := ⟨_, rfl⟩
  have HN := Lib.hid hn
  rw [hn] at hL hc0 ⊢
  clear h hw hr hn
  go_enter Try.func84, Try.ntmps84
  go_wp2_with fail
  go_loopw [1, 5] (fun cv av wr => ∃ (k : Int) (acc : List Int) (v : Value), v = av ∧ -1 ≤ k ∧ k < n ∧ cv = .int .i64 k ∧ seenI L k acc = r ∧ wr.ownsRow w.heap.size 2 1 v acc.length (acc.map (.int .i64)) ∧ (acc.length : Int) + 64 * (k + 1) ≤ 4096 ∧ Fr (fun _ => False) w wr) (fun cv _ _ => (intOf cv + 1).toNat)
  case atStart => exact ⟨c0, [], _, rfl, hc0.1, hc0.2, rfl, HR.out, World.ownsRow_nil _ _ _ _, by simp; omega, Fr.refl _ _⟩
  case round =>
    obtain ⟨k, acc, v, rfl, hk1, hk2, rfl, hres, hrow, hlen, hF⟩ := hrel
    have HF := Lib.hid hF
    have HRW := Lib.hid hrow
    by_cases hk0 : 0 ≤ k
    · obtain ⟨c, rfl⟩ : ∃ c : Nat, k = c := ⟨k.toNat, by omega⟩
      have hcl : c < L.length := by rw [HN.out]; omega
      have hcn : c < n := by omega
      rw [seenI_step HW.out hcl] at hres
      have HC := Lib.hid (fun W (hW : Fr (fun _ => False) w W) => (show W.cell? ⟨gL, c * 4, none⟩ = some (.int .i64 L[c].par) ∧ W.cell? ⟨gL, c * 4 + 3, none⟩ = some (vs c) ∧ OwnR W (vs c) L[c].own from ⟨(H.out.old hW).c0 c hcl, (H.out.old hW).c3 c hcl, (H.out.old hW).own c hcl⟩))
      have hfew := H.out.few c hcl
      have hwf := HW.out c _ (List.getElem?_eq_getElem hcl)
      obtain ⟨⟨x0, x1, x2, l⟩, hx⟩ : ∃ x, L[c] = x := ⟨_, rfl⟩
      rw [hx] at HC hfew hres hwf
      dsimp only at HC hfew hres hwf
      obtain ⟨hw1, hw2, _⟩ := hwf
      obtain ⟨ov, oc, hvs, _⟩ := (HC.out _ hF).2.2
      rw [hvs] at HC
      have HRS := Lib.hid hres
      have hb0 : (0 : Int) ≤ c := by omega
      have hlen' : acc.length + (l.length - 0) + 64 * c ≤ 4096 := by omega
      obtain ⟨m, hm⟩ : ∃ m, l.length = m := ⟨_, rfl⟩
      have HM := Lib.hid hm
      rw [hm] at hfew hlen' HC
      clear hrow hres hF hcl hx hvs hm
      obtain ⟨wo, hwo⟩ : ∃ wo, wo = wr := ⟨_, rfl⟩
      subst hwo
      go_wp2_with fail
      go_loopw [5, 6] (fun av iv ws => ∃ (i : Nat) (acc' : List Int) (v' : Value), v' = av ∧ i ≤ m ∧ iv = .int .i64 i ∧ (l.drop i).foldl addSel acc' = l.foldl addSel acc ∧ ws.ownsRow w.heap.size 2 1 v' acc'.length (acc'.map (.int .i64)) ∧ acc'.length + (m - i) + 64 * c ≤ 4096 ∧ Fr (fun _ => False) w ws) (fun _ iv _ => m - (intOf iv).toNat)
      case atStart => exact ⟨0, acc, _, rfl, Nat.zero_le _, rfl, rfl, HRW.out, hlen', HF.out⟩
      case round =>
        obtain ⟨i, acc', v', rfl, hi, rfl, hfold, hrow', hlen2, hG⟩ := hrel
        have HG := Lib.hid hG
        have HRW2 := Lib.hid hrow'
        obtain ⟨q0, q3, hown⟩ := HC.out _ hG
        by_cases hlt : i < m
        · have hil : i < l.length := by rw [HM.out]; exact hlt
          obtain ⟨o', c', hv', hcells⟩ := own_cells hown
          cases hv'
          obtain ⟨gg, rfl, hcs⟩ := hcells (by omega)
          have b0 := (hcs i hil).1
          rw [List.drop_eq_getElem_cons hil, List.foldl_cons] at hfold
          obtain ⟨⟨y0, y1⟩, hy⟩ : ∃ y, l[i] = y := ⟨_, rfl⟩
          rw [hy] at b0 hfold
          dsimp only at b0
          obtain ⟨oa, ca, rfl, hac⟩ := row_cells hrow'
          have hin := rin_any oa ca acc' y0 wr hac (by omega)
          obtain ⟨rb, hrb⟩ : ∃ rb, decide (y0 ∈ acc') = rb := ⟨_, rfl⟩
          rw [hrb] at hin
          have HIN := Lib.hid hin
          have HRB := Lib.hid hrb
          have HFD := Lib.hid hfold
          have hal : acc'.length ≤ 4096 := by omega
          have hbase : w.heap.size ≤ wr.heap.size := hG.size
          clear hown hcells hcs hil hy hac hin hrb hfold hrow' hG
          cases rb with
          | true =>
            go_wp2_with fail
            refine HIN.out.mono ?_
            rintro e w' ⟨rfl, h0⟩
            obtain rfl := h0.symm
            go_wp2_with fail
            go_roundw
            case rel => exact ⟨i + 1, acc', _, rfl, by omega, by go_num, by have hh := HFD.out; rwa [addSel, if_pos (of_decide_eq_true HRB.out)] at hh, HRW2.out, by omega, HG.out⟩
            case measure => simp [intOf]; omega
          | false =>
            go_wp2_with fail
            refine HIN.out.mono ?_
            rintro e w' ⟨rfl, h0⟩
            obtain rfl := h0.symm
            go_wp2_with (at_builtin; refine wpList_append_own _ rfl (.tmp 33) (.tmp 43) 36 rfl w.heap.size 2 i0 _ 1 8 Try.underlying36 HI.out HZ.out.1 HZ.out.2.1 HZ.out.2.2 rfl (by decide) _ acc'.length (acc'.map (.int .i64)) rfl (HRW2.out.alloc _) ⟨_, 0, none⟩ 1 1 [.int .i64 y0] rfl rfl (cell_one_new' _ _ _) (by simp [Value.oneCell']) (by unfold maxLen; omega) (by omega) (by simp; omega) ?_; intro v5 w5 hown5 hgrow5 _; have HV5 := Lib.hid hown5; have HF5 := Lib.hid (Fr.grown (HG.out.alloc _) hgrow5 (fun j hj => .inl (HRW2.out.lt j hj).1)); clear hown5 hgrow5)
            go_roundw
            case rel => exact ⟨i + 1, acc' ++ [y0], _, rfl, by omega, by go_num, by have hh := HFD.out; rwa [addSel, if_neg (of_decide_eq_false HRB.out)] at hh, by rw [List.length_append, List.map_append]; exact HV5.out, by rw [List.length_append, List.length_singleton]; omega, HF5.out⟩
            case measure => simp [intOf]; omega
        · obtain rfl : m = i := by omega
          rw [List.drop_eq_nil_of_le (by rw [HM.out]; omega), List.foldl_nil] at hfold
          have HFD := Lib.hid hfold
          clear hown hrow' hG hfold
          go_wp2_with fail
          go_roundw
          case rel => exact ⟨x0, acc', _, rfl, hw1, by omega, rfl, by rw [HFD.out]; exact HRS.out, HRW2.out, by omega, HG.out⟩
          case measure => simp [intOf]; omega
    · obtain ⟨oa, ca, rfl, _⟩ := row_cells hrow
      have HRS := Lib.hid (show acc = r by rw [← hres]; unfold seenI; rw [if_neg hk0])
      have hal : acc.length ≤ 4096 := by omega
      clear hF hres hrow
      go_wp2_with fail
      go_ret
      rw [← HRS.out]
      exact ⟨rfl, HF.out⟩
end Go.Proofs.Ytajeiccfgnpbpaa.Mem

namespace Go.Proofs.Ytajeiccfgnpbpaa.Mem
open Go.RowKit
attribute [local go_sem ↓] Go.wp_at_zero Go.wp_at_succ

/-- The cells of the document's classes. -/
def r4 (L : List RC) (vs : Nat → Value) : List Row4 := L.mapIdx fun j r => (r.par, r.size, r.slots, vs j)
theorem r4_len (L : List RC) (vs : Nat → Value) : (r4 L vs).length = L.length := by simp [r4]
theorem r4_get (L : List RC) (vs : Nat → Value) (k : Nat) (hk : k < L.length) : (r4 L vs)[k]? = some (L[k].par, L[k].size, L[k].slots, vs k) := by
  simp [r4, List.getElem?_mapIdx, List.getElem?_eq_getElem hk]

theorem rlat_of {w : World} {B gL n c : Nat} {vs : Nat → Value} {L : List RC} (ho : w.ownsRow B 90 4 (.slice (some ⟨gL, 0, none⟩) n c) n (rows4 (r4 L vs))) (hown : ∀ j (h : j < L.length), OwnR w (vs j) L[j].own) (hfew : ∀ j (h : j < L.length), L[j].own.length ≤ 64) : RLat w gL vs L := by
  have hc := fun j u (hu : (rows4 (r4 L vs))[j]? = some u) => owns_holds ho ⟨gL, 0, none⟩ rfl j u hu
  have hg : ∀ k (hk : k < L.length) j (hj : j < 4) u, (rw4 (L[k].par, L[k].size, L[k].slots, vs k))[j]? = some u → w.cell? ⟨gL, k * 4 + j, none⟩ = some u := fun k hk j hj u hu => by
    have := hc (k * 4 + j) u (by rw [rows4_get _ _ _ _ (r4_get L vs k hk) hj]; exact hu)
    rwa [addr_add'] at this
  refine ⟨?_, fun k hk => hg k hk 0 (by omega) _ rfl, fun k hk => hg k hk 1 (by omega) _ rfl, fun k hk => hg k hk 2 (by omega) _ rfl, fun k hk => hg k hk 3 (by omega) _ rfl, hown, hfew⟩
  rcases ho.2 with ⟨e, _⟩ | ⟨g', cap, cur, hv, hb, hg, _⟩
  · cases e
  · simp only [Value.slice.injEq, Option.some.injEq, Addr.mk.injEq, and_true, true_and] at hv
    obtain ⟨rfl, rfl⟩ := hv
    exact ⟨cur, hg⟩

theorem rows4_set (L : List RC) (vs : Nat → Value) (c : Nat) (sel xt : Int) (u : Value) (hc : c < L.length) : (rows4 (r4 L vs)).set (c * 4 + 3) u = rows4 (r4 (setL L c sel xt) (fun j => if j = c then u else vs j)) := by
  apply List.ext_getElem?
  intro x
  rw [List.getElem?_set]
  by_cases hx : x / 4 < L.length
  · have e := Nat.div_add_mod x 4
    have hj : x % 4 < 4 := Nat.mod_lt _ (by omega)
    obtain ⟨k, hk⟩ : ∃ k, x / 4 = k := ⟨_, rfl⟩
    obtain ⟨j, hjj⟩ : ∃ j, x % 4 = j := ⟨_, rfl⟩
    rw [hk] at hx e
    rw [hjj] at hj e
    obtain rfl : x = k * 4 + j := by omega
    clear e hk hjj
    have hk2 : k < (setL L c sel xt).length := by rw [setL_length]; exact hx
    rw [rows4_get _ _ _ _ (r4_get L vs k hx) hj, rows4_get _ _ _ _ (r4_get _ _ k hk2) hj]
    have hL : (setL L c sel xt)[k] = if k = c then { L[k] with own := setOwn L[k].own sel xt } else L[k] := by
      have := setL_get L c sel xt k
      rw [List.getElem?_eq_getElem hk2, List.getElem?_eq_getElem hx] at this
      simpa using this
    rw [hL]
    by_cases hkc : k = c
    · subst hkc
      simp only [if_true]
      by_cases hj3 : j = 3
      · subst hj3
        rw [if_pos rfl, if_pos (by rw [rows4_len, r4_len]; omega)]
        rfl
      · rw [if_neg (by omega)]
        rcases (by omega : j = 0 ∨ j = 1 ∨ j = 2) with rfl | rfl | rfl <;> rfl
    · rw [if_neg (by omega), if_neg hkc, if_neg hkc]
  · rw [if_neg (by omega), List.getElem?_eq_none (by rw [rows4_len, r4_len]; omega), List.getElem?_eq_none (by rw [rows4_len, r4_len, setL_length]; omega)]

/-- The cells of own methods. -/
def ocells (l : List (Int × Int)) : List Value := l.flatMap fun o => [.int .i64 o.1, .int .i64 o.2]
theorem ocells_len (l : List (Int × Int)) : (ocells l).length = l.length * 2 := by
  induction l with
  | nil => rfl
  | cons o l ih =>
    have e : ocells (o :: l) = [.int .i64 o.1, .int .i64 o.2] ++ ocells l := by simp [ocells]
    rw [e, List.length_append, ih]
    simp
    omega
theorem ocells_snoc (l : List (Int × Int)) (o : Int × Int) : ocells (l ++ [o]) = ocells l ++ [.int .i64 o.1, .int .i64 o.2] := by simp [ocells]
theorem ocells_get (l : List (Int × Int)) (k : Nat) (hk : k < l.length) : (ocells l)[k * 2]? = some (.int .i64 l[k].1) ∧ (ocells l)[k * 2 + 1]? = some (.int .i64 l[k].2) := by
  induction l generalizing k with
  | nil => simp at hk
  | cons o l ih =>
    have e : ocells (o :: l) = .int .i64 o.1 :: .int .i64 o.2 :: ocells l := by simp [ocells]
    rw [e]
    cases k with
    | zero => exact ⟨rfl, rfl⟩
    | succ k =>
      obtain ⟨h1, h2⟩ := ih k (by simpa using hk)
      rw [show (k + 1) * 2 = k * 2 + 1 + 1 by omega, show k * 2 + 1 + 1 + 1 = (k * 2 + 1) + 1 + 1 by omega]
      simp only [List.getElem?_cons_succ, List.getElem_cons_succ]
      exact ⟨h1, h2⟩
theorem ownR_of {w : World} {B n : Nat} {v : Value} {l : List (Int × Int)} (h : w.ownsRow B 150 2 v n (ocells l)) (hn : l.length = n) : OwnR w v l := by
  subst hn
  rcases h.2 with ⟨rfl, hl⟩ | ⟨g, cap, cur, rfl, hb, hg, h1, h2, h3, h4⟩
  · exact ⟨none, 0, by rw [hl], .inl hl⟩
  · refine ⟨_, _, rfl, .inr ⟨g, cur, rfl, hg, fun j hj => ?_⟩⟩
    obtain ⟨e0, e1⟩ := ocells_get l j hj
    rw [← h4, List.getElem?_take, if_pos (by omega), Array.getElem?_toList] at e0 e1
    exact ⟨e0, e1⟩

/-- Is a class an heir without room for one more? -/
def fullAt (L : List RC) (c : Nat) (sel : Int) (i : Nat) : Bool := heirN L c sel i && (walkN L sel i).isNone && decide ((L.getD i ⟨0, 0, 0, []⟩).slots ≤ ((domL L i).length : Nat))
def rsetc (L : List RC) (c : Nat) (sel : Int) : Int := if sel < 1 then -256 else if (List.range L.length).any (fullAt L c sel) = true then -2051 else 0

theorem infoOwn : (Try.prog.info? 150).map (fun i => (i.zero, i.size, i.bytes)) = some (some (.agg #[.int .i64 0, .int .i64 0]), 2, 16) := by kernel_rfl

theorem cell_two_new (w : World) (x0 x1 : Value) (t : TypeId) : ∀ j u, [x0, x1][j]? = some u → (w.alloc (.cells #[x0, x1] t)).cell? ((⟨w.heap.size, 0, none⟩ : Addr).add j) = some u := by
  intro j u hu
  rw [addr_add', cell_of_row _ _ _ _ _ _ (heap_alloc_last w (.cells #[x0, x1] t))]
  match j, hu with
  | 0, hu => exact hu
  | 1, hu => exact hu

/-- What Set returns. -/
def RSet (L : List RC) (vs : Nat → Value) (gL n c cc : Nat) (sel xt : Int) (w : World) (e : Ending) (w' : World) : Prop :=
  Fr (fun _ => False) w w' ∧ ((rsetc L c sel ≠ 0 ∧ e = .returned (.tuple #[.slice (some ⟨gL, 0, none⟩) n cc, .int .i64 (rsetc L c sel)])) ∨
    (rsetc L c sel = 0 ∧ ∃ (gO cO : Nat) (u : Value), e = .returned (.tuple #[.slice (some ⟨gO, 0, none⟩) n cO, .int .i64 0]) ∧ w'.ownsRow w.heap.size 90 4 (.slice (some ⟨gO, 0, none⟩) n cO) n (rows4 (r4 (setL L c sel xt) (fun j => if j = c then u else vs j))) ∧
      OwnR w' u (setOwn (L.getD c ⟨0, 0, 0, []⟩).own sel xt) ∧ u.oneCell' = true))

set_option maxRecDepth 100000 in
set_option maxHeartbeats 4000000 in
theorem rset_any (gL n c cc B : Nat) (vs : Nat → Value) (L : List RC) (sel xt : Int) (w : World) (ho : w.ownsRow B 90 4 (.slice (some ⟨gL, 0, none⟩) n cc) n (rows4 (r4 L vs))) (hn : L.length = n) (hv1 : ∀ j, (vs j).oneCell' = true)
    (hown : ∀ j (h : j < L.length), OwnR w (vs j) L[j].own) (hfew : ∀ j (h : j < L.length), L[j].own.length ≤ 64) (hw : WFL L) (hL : n ≤ 64) (hc : c < n) :
    Calls Try.prog 34 #[.slice (some ⟨gL, 0, none⟩) n cc, .int .i64 c, .int .i64 sel, .int .i64 xt] w (RSet L vs gL n c cc sel xt w) := by
  have hRL := rlat_of ho hown hfew
  have hone := rows4_one (r4 L vs) (fun r hr => by
    simp only [r4, List.mem_mapIdx] at hr
    obtain ⟨j, hj, rfl⟩ := hr
    exact hv1 j)
  obtain ⟨i0, hi, hz0, hz1, hz2⟩ := info_parts infoRCl
  have HI := Lib.hid hi
  have HZ := Lib.hid (And.intro hz0 (And.intro hz1 hz2))
  obtain ⟨i1, hi1, hy0, hy1, hy2⟩ := info_parts infoOwn
  have HI1 := Lib.hid hi1
  have HY := Lib.hid (And.intro hy0 (And.intro hy1 hy2))
  have HN := Lib.hid hn
  have HW := Lib.hid hw
  have HONE := Lib.hid hone
  have HO := Lib.hid ho
  have HRL := Lib.hid hRL
  have HCL := Lib.hid (show c < L.length by omega)
  have HHE := Lib.hid (fun (k : Nat) W (hk : k < n) (hW : Fr (fun _ => False) w W) => (show Calls Try.prog 83 #[.slice (some ⟨gL, 0, none⟩) n cc, .int .i64 k, .int .i64 c, .int .i64 sel] W fun e w' => e = .returned (.bool (heirN L c sel k)) ∧ Fr (fun _ => False) W w' by
    have h := rheir_any gL cc c vs L k sel W (hRL.old hW) hw (by omega) (by omega) (by omega)
    rw [hn, show heirI L c sel (k : Int) = heirN L c sel k by unfold heirI; rw [if_pos (by omega), Int.toNat_natCast]] at h
    exact h))
  have HWA := Lib.hid (fun (k : Nat) W (hk : k < n) (hW : Fr (fun _ => False) w W) => (show Calls Try.prog 36 #[.slice (some ⟨gL, 0, none⟩) n cc, .int .i64 k, .int .i64 sel] W fun e w' => e = .returned (.tuple #[.int .i64 (wres (walkN L sel k)).1, .int .i64 (wres (walkN L sel k)).2.1, .bool (wres (walkN L sel k)).2.2]) ∧ Fr (fun _ => False) W w' by
    have h := rwalk_any gL cc vs L k sel W (hRL.old hW) hw (by omega) (by omega)
    rw [hn, show walkI L sel (k : Int) = walkN L sel k by unfold walkI; rw [if_pos (by omega), Int.toNat_natCast]] at h
    exact h))
  have HSE := Lib.hid (fun (k : Nat) W (hk : k < n) (hW : Fr (fun _ => False) w W) => (show Calls Try.prog 84 #[.slice (some ⟨gL, 0, none⟩) n cc, .int .i64 k] W fun e w' => e = .returned (.int .i64 ((domL L k).length : Nat)) ∧ Fr (fun _ => False) W w' by
    have h := rseen_any gL cc vs L k W (hRL.old hW) hw (by omega) (by omega)
    rw [hn, show seenI L (k : Int) [] = domL L k by unfold seenI domL; rw [if_pos (by omega), Int.toNat_natCast]] at h
    exact h))
  have hlast : ∀ (k : Nat) (hk : k < L.length), L.getD k ⟨0, 0, 0, []⟩ = L[k] := fun k hk => by simp [List.getD_eq_getElem?_getD, List.getElem?_eq_getElem hk]
  have HLD := Lib.hid hlast
  clear hRL hone hi hz0 hz1 hz2 hi1 hy0 hy1 hy2 hn hw ho hown hfew hv1 hlast
  go_enter Try.func34, Try.ntmps34
  by_cases hs1 : sel < 1
  · have hcode := Lib.hid (show rsetc L c sel = -256 by unfold rsetc; rw [if_pos hs1])
    go_wp2_with fail
    go_ret2
    unfold RSet
    rw [hcode.out]
    exact ⟨Fr.refl _ _, .inl ⟨by decide, rfl⟩⟩
  · go_wp2_with fail
    go_loopw [10] (fun iv wr => ∃ k : Nat, k ≤ n ∧ iv = .int .i64 k ∧ (∀ i, i < k → fullAt L c sel i = false) ∧ Fr (fun _ => False) w wr) (fun iv _ => n - (intOf iv).toNat)
    case atStart => exact ⟨0, Nat.zero_le _, rfl, fun i hi => absurd hi (Nat.not_lt_zero i), Fr.refl _ _⟩
    case round =>
      obtain ⟨k, hk, rfl, hno, hF⟩ := hrel
      have HF := Lib.hid hF
      have HNO := Lib.hid hno
      clear hno
      by_cases hlt : k < n
      · have hhe := HHE.out k wr hlt hF
        have hfa : fullAt L c sel k = (heirN L c sel k && (walkN L sel k).isNone && decide ((L[k]'(by rw [HN.out]; exact hlt)).slots ≤ ((domL L k).length : Nat))) := by unfold fullAt; rw [HLD.out k (by rw [HN.out]; exact hlt)]
        have HC2 := Lib.hid (fun W (hW : Fr (fun _ => False) w W) => (HRL.out.old hW).c2 k (by rw [HN.out]; exact hlt))
        obtain ⟨sl, hsl⟩ : ∃ sl, (L[k]'(by rw [HN.out]; exact hlt)).slots = sl := ⟨_, rfl⟩
        rw [hsl] at HC2 hfa
        obtain ⟨hb, hhb⟩ : ∃ hb, heirN L c sel k = hb := ⟨_, rfl⟩
        obtain ⟨wk, hwk⟩ : ∃ wk, walkN L sel k = wk := ⟨_, rfl⟩
        obtain ⟨dl, hdl⟩ : ∃ dl : Nat, (domL L k).length = dl := ⟨_, rfl⟩
        rw [hhb] at hhe hfa
        rw [hwk] at hfa
        rw [hdl] at hfa
        have HHB := Lib.hid hhe
        have HFA := Lib.hid hfa
        have HWK := Lib.hid hwk
        have HDL := Lib.hid hdl
        clear hhe hfa hhb hsl hF hwk hdl
        go_wp2_with fail
        refine HHB.out.mono ?_
        rintro e w1 ⟨rfl, hf⟩
        have HF1 := Lib.hid (HF.out.trans hf)
        have hwa := HWA.out k w1 hlt HF1.out
        rw [HWK.out] at hwa
        obtain ⟨⟨a1, a2, a3⟩, ha⟩ : ∃ a, wres wk = a := ⟨_, rfl⟩
        rw [ha] at hwa
        have HWA1 := Lib.hid hwa
        have HAA := Lib.hid ha
        clear hf hwa ha
        go_wp2_with fail
        refine HWA1.out.mono ?_
        rintro e w2 ⟨rfl, hf⟩
        have HF2 := Lib.hid (HF1.out.trans hf)
        clear hf
        have hnone : wk.isNone = !a3 := by
          have := HAA.out
          cases wk with
          | none => simp only [wres, Prod.mk.injEq] at this; rw [← this.2.2]; rfl
          | some x => simp only [wres, Prod.mk.injEq] at this; rw [← this.2.2]; rfl
        have HNO2 := Lib.hid hnone
        have hnext : fullAt L c sel k = false → ∀ i, i < k + 1 → fullAt L c sel i = false := fun h i hi => by
          rcases Nat.lt_or_eq_of_le (Nat.le_of_lt_succ hi) with h1 | rfl
          · exact HNO.out i h1
          · exact h
        have HNX := Lib.hid hnext
        clear hnone hnext
        have hk0 : (0 : Int) ≤ k := by omega
        have hkn : (k : Int) < n := by omega
        cases hb with
        | false =>
          go_wp2_with fail
          go_quiet (fail)
          go_wp2
          go_roundw
          case rel => exact ⟨k + 1, by omega, by go_num, HNX.out (by rw [HFA.out]; rfl), HF2.out.drewN _⟩
          case measure => simp [intOf]; omega
        | true =>
          cases a3 with
          | true =>
            go_wp2_with fail
            go_quiet (fail)
            go_wp2
            go_roundw
            case rel => exact ⟨k + 1, by omega, by go_num, HNX.out (by rw [HFA.out, HNO2.out]; rfl), HF2.out.drewN _⟩
            case measure => simp [intOf]; omega
          | false =>
            have q2 := HC2.out _ HF2.out
            have hse := fun W hW => HSE.out k W hlt hW
            rw [HDL.out] at hse
            have HSE2 := Lib.hid hse
            clear hse
            by_cases hfull : sl ≤ (dl : Int)
            · have d1 : decide (sl ≤ (dl : Int)) = true := decide_eq_true hfull
              have HD1 := Lib.hid d1
              go_wp2_with fail
              go_region_held3 (fun W => W.cell? ⟨gL, k * 4 + 2, none⟩ = some (.int .i64 sl) ∧ Fr (fun _ => False) w2 W)
                ((go_split_ands; refine (fun hF => ⟨Fr.cell hF q2 id, hF⟩ : Fr (fun _ => False) w2 _ → _) ?_; repeat' first | exact Fr.refl _ _ | assumption | apply Fr.drew | apply Fr.alloc))
                (first | (go_at_call 84; go_split_ands; refine (HSE2.out _ (HF2.out.trans (by repeat' first | exact Fr.refl _ _ | assumption | apply Fr.drew | apply Fr.alloc))).mono ?_; rintro e w3 ⟨rfl, hf⟩; have hf3 : Fr (fun _ => False) w2 w3 := Fr.trans (by repeat' first | exact Fr.refl _ _ | assumption | apply Fr.drew | apply Fr.alloc) hf) | fail)
              all_goals
                go_wp2_with fail
                go_ret2
                have hcode : rsetc L c sel = -2051 := by
                  unfold rsetc
                  rw [if_neg (show ¬ sel < 1 by omega), if_pos]
                  refine List.any_eq_true.2 ⟨k, List.mem_range.2 (by rw [HN.out]; exact hlt), ?_⟩
                  rw [HFA.out, HNO2.out, HD1.out]
                  rfl
                unfold RSet
                rw [hcode]
                exact ⟨HF2.out.trans (by repeat' first | assumption | apply Fr.drew | apply Fr.alloc), .inl ⟨by decide, rfl⟩⟩
            · have d1 : decide (sl ≤ (dl : Int)) = false := decide_eq_false hfull
              have HD1 := Lib.hid d1
              go_wp2_with fail
              go_region_held3 (fun W => W.cell? ⟨gL, k * 4 + 2, none⟩ = some (.int .i64 sl) ∧ Fr (fun _ => False) w2 W)
                ((go_split_ands; refine (fun hF => ⟨Fr.cell hF q2 id, hF⟩ : Fr (fun _ => False) w2 _ → _) ?_; repeat' first | exact Fr.refl _ _ | assumption | apply Fr.drew | apply Fr.alloc))
                (first | (go_at_call 84; go_split_ands; refine (HSE2.out _ (HF2.out.trans (by repeat' first | exact Fr.refl _ _ | assumption | apply Fr.drew | apply Fr.alloc))).mono ?_; rintro e w3 ⟨rfl, hf⟩; have hf3 : Fr (fun _ => False) w2 w3 := Fr.trans (by repeat' first | exact Fr.refl _ _ | assumption | apply Fr.drew | apply Fr.alloc) hf) | fail)
              all_goals
                go_wp2_with fail
                go_roundw
                case rel => exact ⟨k + 1, by omega, by go_num, HNX.out (by rw [HFA.out, HD1.out, Bool.and_false]), HF2.out.trans (by repeat' first | assumption | apply Fr.drew | apply Fr.alloc)⟩
                case measure => simp [intOf]; omega
      · obtain rfl : n = k := by omega
        have hcode : rsetc L c sel = 0 := by
          unfold rsetc
          rw [if_neg (show ¬ sel < 1 by omega), if_neg]
          intro h
          obtain ⟨i, hi, hf⟩ := List.any_eq_true.1 h
          rw [HNO.out i (by have := List.mem_range.1 hi; rw [HN.out] at this; exact this)] at hf
          cases hf
        have HCD := Lib.hid hcode
        have HNEWS := Lib.hid (fun W (hW : Fr (fun _ => False) w W) j u (hu : (rows4 (r4 L vs))[j]? = some u) => Fr.cell hW (owns_holds HO.out ⟨gL, 0, none⟩ rfl j u hu) id)
        have HRLN := Lib.hid (owns_length HO.out)
        have hbase : w.heap.size ≤ wr.heap.size := hF.size
        clear hF hcode
        go_wp2_with (at_builtin; refine wpList_append_lies _ rfl (.tmp 57) (.tmp 58) 54 rfl w.heap.size 90 i0 _ 4 48 Try.underlying54 HI.out HZ.out.1 HZ.out.2.1 HZ.out.2.2 rfl (by decide) (.slice (some ⟨wr.heap.size, 0, none⟩) 0 0) 0 [] rfl (owns_empty (heap_alloc_last _ _) hbase) ⟨gL, 0, none⟩ n cc (rows4 (r4 L vs)) rfl HRLN.out (HNEWS.out _ (HF.out.alloc _)) HONE.out (by omega) (by unfold maxLen; omega) (by omega) (by simp; omega) (wr.heap.size + 1) (by simp) ?_; intro gO cO wA ho1 hg1 hd1 hl1; have HO1 := Lib.hid ho1; have HFA := Lib.hid (show Fr (fun _ => False) w wA from Fr.grown (HF.out.alloc _) hg1 (fun j hj => .inl (by cases hj; exact hbase))); have HGO := Lib.hid (show w.heap.size ≤ gO ∧ gO < wA.heap.size from ⟨(ho1.lt gO rfl).1, hl1⟩); clear ho1 hg1 hd1 hl1)
        have hO1 : wA.ownsRow w.heap.size 90 4 (.slice (some ⟨gO, 0, none⟩) n cO) n (rows4 (r4 L vs)) := by
          have := HO1.out
          rwa [Nat.zero_add, List.nil_append] at this
        have HOO := Lib.hid hO1
        have HCC := Lib.hid (fun W (hW : Fr (fun _ => False) w W) => (show W.cell? ⟨gL, c * 4 + 3, none⟩ = some (vs c) ∧ OwnR W (vs c) (L[c]'HCL.out).own from ⟨(HRL.out.old hW).c3 c HCL.out, (HRL.out.old hW).own c HCL.out⟩))
        have hfew := HRL.out.few c HCL.out
        have HLC := Lib.hid (HLD.out c HCL.out)
        obtain ⟨l, hl⟩ : ∃ l, (L[c]'HCL.out).own = l := ⟨_, rfl⟩
        rw [hl] at HCC hfew
        have HLL := Lib.hid hl
        obtain ⟨ov, oc, hvs, _⟩ := (HCC.out _ HFA.out).2
        rw [hvs] at HCC
        obtain ⟨m, hm⟩ : ∃ m, l.length = m := ⟨_, rfl⟩
        have HM := Lib.hid hm
        rw [hm] at hfew HCC
        have hc0 : (0 : Int) ≤ c := by omega
        have hcn : (c : Int) < n := by omega
        have HBA := Lib.hid (show w.heap.size ≤ wA.heap.size from HFA.out.size)
        clear hO1 hl hvs hm
        obtain ⟨wo, hwo⟩ : ∃ wo, wo = wr := ⟨_, rfl⟩
        subst hwo
        go_wp2_with fail
        go_loopw [16, 17] (fun av iv ws => ∃ (i : Nat) (acc : List (Int × Int)) (v : Value), v = av ∧ i ≤ m ∧ iv = .int .i64 i ∧ ((l.take i).filter fun o => o.1 != sel) = acc ∧ ws.ownsRow wA.heap.size 150 2 v acc.length (ocells acc) ∧ acc.length ≤ i ∧ Fr (fun _ => False) wA ws) (fun _ iv _ => m - (intOf iv).toNat)
        case atStart => exact ⟨0, [], _, rfl, Nat.zero_le _, rfl, rfl, World.ownsRow_nil _ _ _ _, Nat.le_refl _, Fr.refl _ _⟩
        case round =>
          obtain ⟨i, acc, v, rfl, hi, rfl, hacc, hrow, hal, hG⟩ := hrel
          have HG := Lib.hid hG
          have HRW := Lib.hid hrow
          obtain ⟨q3, hown⟩ := HCC.out _ (HFA.out.trans hG)
          by_cases hlt : i < m
          · have hil : i < l.length := by rw [HM.out]; exact hlt
            have hcells : ∃ gg, ov = some ⟨gg, 0, none⟩ ∧ ∀ j (hj : j < l.length), wr.cell? ⟨gg, j * 2, none⟩ = some (.int .i64 l[j].1) ∧ wr.cell? ⟨gg, j * 2 + 1, none⟩ = some (.int .i64 l[j].2) := by
              obtain ⟨o', c', hv', hcells⟩ := own_cells hown
              have e : ov = o' := by injection hv'
              rw [e]
              exact hcells (by omega)
            obtain ⟨gg, rfl, hcs⟩ := hcells
            have b0 := (hcs i hil).1
            have b1 := (hcs i hil).2
            have htk : l.take (i + 1) = l.take i ++ [l[i]] := by rw [List.take_add_one, List.getElem?_eq_getElem hil, Option.toList_some]
            obtain ⟨⟨y0, y1⟩, hy⟩ : ∃ y, l[i] = y := ⟨_, rfl⟩
            rw [hy] at b0 b1 htk
            dsimp only at b0 b1
            have hi0 : (0 : Int) ≤ i := by omega
            have him : (i : Int) < m := by omega
            cases hys : (y0 != sel) with
            | true =>
              have HAC := Lib.hid (show ((l.take (i + 1)).filter fun o => o.1 != sel) = acc ++ [(y0, y1)] by rw [htk, List.filter_append, hacc, List.filter_cons_of_pos (by exact hys), List.filter_nil])
              have HT := Lib.hid (cell_two_new wr (.int .i64 y0) (.int .i64 y1) 150)
              have hbs : wA.heap.size ≤ wr.heap.size := hG.size
              clear hown hcs hil hy hacc htk hrow hG
              go_wp2_with (at_builtin; refine wpList_append_own _ rfl (.tmp 81) (.tmp 90) 88 rfl wA.heap.size 150 i1 _ 2 16 Try.underlying88 HI1.out HY.out.1 HY.out.2.1 HY.out.2.2 rfl (by decide) _ acc.length (ocells acc) rfl (HRW.out.alloc _) ⟨_, 0, none⟩ 1 1 [.int .i64 y0, .int .i64 y1] rfl rfl HT.out (by simp [Value.oneCell']) (by unfold maxLen; omega) (by omega) (by simp; omega) ?_; intro v5 w5 hown5 hgrow5 _; have HV5 := Lib.hid hown5; have HF5 := Lib.hid (Fr.grown (HG.out.alloc _) hgrow5 (fun j hj => .inl (HRW.out.lt j hj).1)); clear hown5 hgrow5)
              go_roundw
              case rel => exact ⟨i + 1, acc ++ [(y0, y1)], _, rfl, by omega, by go_num, HAC.out, by rw [List.length_append, ocells_snoc]; exact HV5.out, by rw [List.length_append, List.length_singleton]; omega, HF5.out⟩
              case measure => simp [intOf]; omega
            | false =>
              have HAC := Lib.hid (show ((l.take (i + 1)).filter fun o => o.1 != sel) = acc by rw [htk, List.filter_append, hacc, List.filter_cons_of_neg (by simpa using hys), List.filter_nil, List.append_nil])
              clear hown hcs hil hy hacc htk hrow hG
              go_wp2_with fail
              go_roundw
              case rel => exact ⟨i + 1, acc, _, rfl, by omega, by go_num, HAC.out, HRW.out, by omega, HG.out⟩
              case measure => simp [intOf]; omega
          · obtain rfl : m = i := by omega
            rw [List.take_of_length_le (by rw [HM.out]; exact Nat.le_refl _)] at hacc
            have HAC := Lib.hid hacc
            have HT := Lib.hid (cell_two_new wr (.int .i64 sel) (.int .i64 xt) 150)
            have hbs : wA.heap.size ≤ wr.heap.size := hG.size
            clear hown hrow hG hacc
            go_wp2_with (at_builtin; refine wpList_append_own _ rfl (.tmp 94) (.tmp 98) 88 rfl wA.heap.size 150 i1 _ 2 16 Try.underlying88 HI1.out HY.out.1 HY.out.2.1 HY.out.2.2 rfl (by decide) _ acc.length (ocells acc) rfl (HRW.out.alloc _) ⟨_, 0, none⟩ 1 1 [.int .i64 sel, .int .i64 xt] rfl rfl HT.out (by simp [Value.oneCell']) (by unfold maxLen; omega) (by omega) (by simp; omega) ?_; intro v5 w5 hown5 hgrow5 _; have hF5 : Fr (fun _ => False) wA w5 := Fr.grown (HG.out.alloc _) hgrow5 (fun j hj => .inl (HRW.out.lt j hj).1); have hO5 := hF5.owns HOO.out (fun _ _ => id); have hcl5 := owns_holds hO5 ⟨gO, 0, none⟩ rfl (c * 4 + 3) (vs c) (by rw [rows4_get _ _ _ _ (r4_get L vs c HCL.out) (by omega)]; rfl); rw [addr_add'] at hcl5; have hfz5 : w5.frozen? ⟨gO, c * 4 + 3, none⟩ = false := (by rcases hO5.2 with ⟨e, _⟩ | ⟨g', cap, cur, hv, _, hg, _⟩; (· cases e); (· simp only [Value.slice.injEq, Option.some.injEq, Addr.mk.injEq, and_true, true_and] at hv; obtain ⟨rfl, rfl⟩ := hv; exact frozen_of_row w5 _ _ _ _ hg)); have HV5 := Lib.hid hown5; have HF5 := Lib.hid hF5; have HO5 := Lib.hid hO5; obtain ⟨o5, c5, rfl, _, _, _, _⟩ := owns_form hown5; clear hown5 hgrow5 hF5 hO5)
            go_ret2
            have hcl := HCL.out
            have hln := HM.out
            have hlc := HLL.out
            have hset := rows4_set L vs c sel xt (.slice o5 (acc.length + 1) c5) hcl
            obtain ⟨hst, hgst⟩ := HO5.out.stored (c * 4 + 3) (.slice o5 (acc.length + 1) c5)
            rw [hset] at hst
            have hFin : Fr (fun j => j = gO) w5 (w5.setCell ⟨gO, c * 4 + 3, none⟩ (.slice o5 (acc.length + 1) c5)) := Fr.setOne (p := gO) (Fr.refl _ _) _ _
            have hFw : Fr (fun _ => False) w (w5.setCell ⟨gO, c * 4 + 3, none⟩ (.slice o5 (acc.length + 1) c5)) := (HFA.out.trans HF5.out).after hFin (fun k hk e => by have := HGO.out.1; omega)
            unfold RSet
            rw [HCD.out]
            refine ⟨hFw, .inr ⟨rfl, gO, cO, .slice o5 (acc.length + 1) c5, rfl, hst, ?_, rfl⟩⟩
            have how : OwnR w5 (.slice o5 (acc.length + 1) c5) (acc ++ [(sel, xt)]) := ownR_of (by rw [ocells_snoc]; exact HV5.out) (by rw [List.length_append, List.length_singleton])
            rw [HLC.out, hlc]
            unfold setOwn
            rw [HAC.out]
            exact how.fr hFin (fun k cs hk e => by
              subst e
              obtain ⟨cs2, h2⟩ := (rlat_of HO5.out (fun j h => ((HRL.out.old (HFA.out.trans HF5.out)).own j h)) HRL.out.few).obj
              rw [h2] at hk
              simp at hk)
end Go.Proofs.Ytajeiccfgnpbpaa.Mem
