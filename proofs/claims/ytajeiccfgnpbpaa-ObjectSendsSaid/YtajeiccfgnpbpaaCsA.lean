/- Contracts: slices.Reverse of classes. -/
import Derived.Test.YtajeiccfgnpbpaaQh
import Derived.Deep.OwnRows
import Derived.BigRegion
import Derived.RegionTactic
set_option linter.unusedSimpArgs false
set_option linter.unusedVariables false

namespace Go.Proofs.Ytajeiccfgnpbpaa.Mem
open Go.RowKit

/-- A class's field. -/
def clf (c : Cl) (j : Nat) : Int := match j with
  | 0 => c.a
  | 1 => c.par
  | 2 => c.size
  | 3 => c.tab
  | _ => c.prev
/-- What a row of classes holds, by the index; behind them what was there. -/
def cont (n : Nat) (M : Nat → Cl) (old : Nat → Value) (x : Nat) : Value := if x < 5 * n then .int .i64 (clf (M (x / 5)) (x % 5)) else old x
/-- The classes behind i exchanges. -/
def rvk (n i : Nat) (M : Nat → Cl) (k : Nat) : Cl := if k < i ∨ n - 1 - i < k then M (n - 1 - k) else M k

theorem cont_at {n : Nat} {M : Nat → Cl} {old : Nat → Value} {k j : Nat} (hk : k < n) (hj : j < 5) : cont n M old (k * 5 + j) = .int .i64 (clf (M k) j) := by
  unfold cont
  rw [if_pos (by omega), show (k * 5 + j) / 5 = k by omega, show (k * 5 + j) % 5 = j by omega]

theorem rvk_low {n i : Nat} {M : Nat → Cl} (h : 2 * i + 1 < n) : rvk n i M i = M i ∧ rvk n i M (n - 1 - i) = M (n - 1 - i) ∧ rvk n (i + 1) M i = M (n - 1 - i) ∧ rvk n (i + 1) M (n - 1 - i) = M i := by
  unfold rvk
  refine ⟨if_neg (by omega), if_neg (by omega), if_pos (by omega), ?_⟩
  rw [if_pos (by omega), show n - 1 - (n - 1 - i) = i by omega]
theorem rvk_else {n i q : Nat} {M : Nat → Cl} (h1 : q ≠ i) (h2 : q ≠ n - 1 - i) : rvk n (i + 1) M q = rvk n i M q := by
  unfold rvk
  by_cases h : q < i ∨ n - 1 - i < q
  · rw [if_pos h, if_pos (by omega)]
  · rw [if_neg h, if_neg (by omega)]

theorem swap_row {W : World} {gA N n i k : Nat} {t : TypeId} {M : Nat → Cl} {old : Nat → Value} {x0 x1 x2 x3 x4 y0 y1 y2 y3 y4 : Int} (h : W.rowIs gA t N (cont n (rvk n i M) old)) (hk : (n : Int) - 1 - i = k) (hik : i < k) (hkn : k < n)
    (hx : rvk n i M i = ⟨x0, x1, x2, x3, x4⟩) (hy : rvk n i M k = ⟨y0, y1, y2, y3, y4⟩) :
    ((((((((((W.setCell ⟨gA, i * 5, none⟩ (.int .i64 y0)).setCell ⟨gA, i * 5 + 1, none⟩ (.int .i64 y1)).setCell ⟨gA, i * 5 + 2, none⟩ (.int .i64 y2)).setCell ⟨gA, i * 5 + 3, none⟩ (.int .i64 y3)).setCell ⟨gA, i * 5 + 4, none⟩ (.int .i64 y4)).setCell ⟨gA, k * 5, none⟩ (.int .i64 x0)).setCell ⟨gA, k * 5 + 1, none⟩ (.int .i64 x1)).setCell ⟨gA, k * 5 + 2, none⟩ (.int .i64 x2)).setCell ⟨gA, k * 5 + 3, none⟩ (.int .i64 x3)).setCell ⟨gA, k * 5 + 4, none⟩ (.int .i64 x4)).rowIs gA t N (cont n (rvk n (i + 1) M) old) := by
  obtain rfl : k = n - 1 - i := by omega
  obtain ⟨e1, e2, e3, e4⟩ := rvk_low (M := M) (show 2 * i + 1 < n by omega)
  have hx' : rvk n (i + 1) M (n - 1 - i) = ⟨x0, x1, x2, x3, x4⟩ := by rw [e4, ← e1, hx]
  have hy' : rvk n (i + 1) M i = ⟨y0, y1, y2, y3, y4⟩ := by rw [e3, ← e2, hy]
  obtain ⟨k, hk⟩ : ∃ k, n - 1 - i = k := ⟨_, rfl⟩
  have helse := fun q => @rvk_else n i q M
  rw [hk] at hik hkn hx' helse ⊢
  clear e1 e2 e3 e4 hx hy hk
  refine ((((((((((h.set _ _).set _ _).set _ _).set _ _).set _ _).set _ _).set _ _).set _ _).set _ _).set _ _).congr fun x hxN => ?_
  by_cases hxn : x < 5 * n
  · by_cases hqi : x / 5 = i
    · unfold cont
      rw [if_pos hxn, hqi, hy']
      rcases (by omega : x = i * 5 ∨ x = i * 5 + 1 ∨ x = i * 5 + 2 ∨ x = i * 5 + 3 ∨ x = i * 5 + 4) with e | e | e | e | e
      all_goals
        have hm : x % 5 = x - i * 5 := by omega
        rw [hm]
        subst e
        simp (disch := omega) only [if_neg, if_pos, if_true, Nat.sub_self, Nat.add_sub_cancel_left, clf]
    · by_cases hqk : x / 5 = k
      · unfold cont
        rw [if_pos hxn, hqk, hx']
        rcases (by omega : x = k * 5 ∨ x = k * 5 + 1 ∨ x = k * 5 + 2 ∨ x = k * 5 + 3 ∨ x = k * 5 + 4) with e | e | e | e | e
        all_goals
          have hm : x % 5 = x - k * 5 := by omega
          rw [hm]
          subst e
          simp (disch := omega) only [if_neg, if_pos, if_true, Nat.sub_self, Nat.add_sub_cancel_left, clf]
      · simp (disch := omega) only [if_neg]
        unfold cont
        rw [if_pos hxn, if_pos hxn, helse _ hqi hqk]
  · simp (disch := omega) only [if_neg]
    unfold cont
    rw [if_neg hxn, if_neg hxn]

theorem Fr.set10 {g : Nat} {a b : World} (h : Fr (fun j => j = g) a b) (o0 o1 o2 o3 o4 o5 o6 o7 o8 o9 : Nat) (v0 v1 v2 v3 v4 v5 v6 v7 v8 v9 : Value) :
    Fr (fun j => j = g) a ((((((((((b.setCell ⟨g, o0, none⟩ v0).setCell ⟨g, o1, none⟩ v1).setCell ⟨g, o2, none⟩ v2).setCell ⟨g, o3, none⟩ v3).setCell ⟨g, o4, none⟩ v4).setCell ⟨g, o5, none⟩ v5).setCell ⟨g, o6, none⟩ v6).setCell ⟨g, o7, none⟩ v7).setCell ⟨g, o8, none⟩ v8).setCell ⟨g, o9, none⟩ v9) :=
  (((((((((h.setOne _ _).setOne _ _).setOne _ _).setOne _ _).setOne _ _).setOne _ _).setOne _ _).setOne _ _).setOne _ _).setOne _ _

set_option maxRecDepth 100000 in
set_option maxHeartbeats 4000000 in
theorem reverse_row (gA N n c : Nat) (M : Nat → Cl) (old : Nat → Value) (w : World) (hN : 5 * n ≤ N) (hn : n ≤ 1048577) (h : w.rowIs gA 142 N (cont n M old)) :
    Calls Try.prog 124 #[.slice (some ⟨gA, 0, none⟩) n c] w
      fun e w' => e = .returned (.tuple #[]) ∧ w'.rowIs gA 142 N (cont n (fun k => M (n - 1 - k)) old) ∧ Fr (fun j => j = gA) w w' := by
  have H := Lib.hid h
  clear h
  go_enter Try.func124, Try.ntmps124
  go_wp2_with fail
  go_loopw [2, 3] (fun iv jv wr => ∃ i : Nat, 2 * i ≤ n + 1 ∧ iv = .int .i64 i ∧ jv = .int .i64 ((n : Int) - 1 - i) ∧ wr.rowIs gA 142 N (cont n (rvk n i M) old) ∧ Fr (fun j => j = gA) w wr) (fun iv _ _ => n - (intOf iv).toNat)
  case atStart => exact ⟨0, by omega, rfl, by simp, H.out.congr (fun x _ => by
      unfold cont
      split
      · rw [show rvk n 0 M (x / 5) = M (x / 5) by unfold rvk; rw [if_neg (by omega)]]
      · rfl), Fr.refl _ _⟩
  case round =>
    obtain ⟨i, hi, rfl, rfl, hR, hF⟩ := hrel
    have HR := Lib.hid hR
    have HF := Lib.hid hF
    by_cases hlt : (i : Int) < (n : Int) - 1 - i
    · obtain ⟨k, hk⟩ : ∃ k : Nat, (n : Int) - 1 - i = k := ⟨n - 1 - i, by omega⟩
      have hkn : k < n := by omega
      have hik : i < k := by omega
      have c0 := hR.cell (i := i * 5) (by omega)
      have c1 := hR.cell (i := i * 5 + 1) (by omega)
      have c2 := hR.cell (i := i * 5 + 2) (by omega)
      have c3 := hR.cell (i := i * 5 + 3) (by omega)
      have c4 := hR.cell (i := i * 5 + 4) (by omega)
      have d0 := hR.cell (i := k * 5) (by omega)
      have d1 := hR.cell (i := k * 5 + 1) (by omega)
      have d2 := hR.cell (i := k * 5 + 2) (by omega)
      have d3 := hR.cell (i := k * 5 + 3) (by omega)
      have d4 := hR.cell (i := k * 5 + 4) (by omega)
      have fz := fun j => hR.frozen j
      rw [show i * 5 = i * 5 + 0 from rfl, cont_at (by omega) (by omega)] at c0
      rw [cont_at (by omega) (by omega)] at c1 c2 c3 c4
      rw [show k * 5 = k * 5 + 0 from rfl, cont_at (by omega) (by omega)] at d0
      rw [cont_at (by omega) (by omega)] at d1 d2 d3 d4
      obtain ⟨⟨x0, x1, x2, x3, x4⟩, hx⟩ : ∃ x, rvk n i M i = x := ⟨_, rfl⟩
      obtain ⟨⟨y0, y1, y2, y3, y4⟩, hy⟩ : ∃ x, rvk n i M k = x := ⟨_, rfl⟩
      rw [hx] at c0 c1 c2 c3 c4
      rw [hy] at d0 d1 d2 d3 d4
      simp only [clf, Nat.add_zero] at c0 c1 c2 c3 c4 d0 d1 d2 d3 d4
      have HX := Lib.hid hx
      have HY := Lib.hid hy
      have z0 := fz (i * 5)
      have z1 := fz (i * 5 + 1)
      have z2 := fz (i * 5 + 2)
      have z3 := fz (i * 5 + 3)
      have z4 := fz (i * 5 + 4)
      have v0 := fz (k * 5)
      have v1 := fz (k * 5 + 1)
      have v2 := fz (k * 5 + 2)
      have v3 := fz (k * 5 + 3)
      have v4 := fz (k * 5 + 4)
      rw [hk]
      have HK := Lib.hid hk
      have hlt' : (i : Int) < (k : Int) := by omega
      have hi0 : (0 : Int) ≤ i := by omega
      have hk0 : (0 : Int) ≤ k := by omega
      have hin : (i : Int) < n := by omega
      have hkn' : (k : Int) < n := by omega
      clear hx hy hR hF hk hlt fz
      go_wp2_with fail
      go_region
      go_wp2
      go_roundw
      case rel => exact ⟨i + 1, by have := HK.out; omega, by go_num, by rw [show (n : Int) - 1 - ((i + 1 : Nat) : Int) = (k : Int) - 1 by have := HK.out; omega], (swap_row HR.out HK.out hik hkn HX.out HY.out).drew, (Fr.set10 HF.out _ _ _ _ _ _ _ _ _ _ _ _ _ _ _ _ _ _ _ _).drew⟩
      case measure => simp [intOf]; omega
    · have hn1 : ¬ (i : Int) < (n : Int) - 1 - i := hlt
      go_wp2
      go_end0
      refine ⟨rfl, HR.out.congr fun x hx => ?_, HF.out⟩
      unfold cont
      split
      · rename_i hxn
        have : rvk n i M (x / 5) = M (n - 1 - x / 5) := by
          unfold rvk
          by_cases h : x / 5 < i ∨ n - 1 - i < x / 5
          · rw [if_pos h]
          · rw [if_neg h, show n - 1 - x / 5 = x / 5 by omega]
        rw [this]
      · rfl
end Go.Proofs.Ytajeiccfgnpbpaa.Mem

namespace Go.Proofs.Ytajeiccfgnpbpaa.Mem
open Go.RowKit

theorem clcells_len (L : List Cl) : (clcells L).length = L.length * 5 := by
  induction L with
  | nil => rfl
  | cons c L ih =>
    have e : clcells (c :: L) = [.int .i64 c.a, .int .i64 c.par, .int .i64 c.size, .int .i64 c.tab, .int .i64 c.prev] ++ clcells L := by simp [clcells]
    rw [e, List.length_append, ih]
    simp
    omega
theorem clcells_get (L : List Cl) (k j : Nat) (hk : k < L.length) (hj : j < 5) : (clcells L)[k * 5 + j]? = some (.int .i64 (clf L[k] j)) := by
  induction L generalizing k with
  | nil => simp at hk
  | cons c L ih =>
    have e : clcells (c :: L) = [.int .i64 c.a, .int .i64 c.par, .int .i64 c.size, .int .i64 c.tab, .int .i64 c.prev] ++ clcells L := by simp [clcells]
    rw [e]
    cases k with
    | zero =>
      rw [List.getElem?_append_left (by simp; omega)]
      rcases (by omega : j = 0 ∨ j = 1 ∨ j = 2 ∨ j = 3 ∨ j = 4) with rfl | rfl | rfl | rfl | rfl <;> rfl
    | succ k =>
      rw [List.getElem?_append_right (by simp; omega)]
      have := ih k (by simpa using hk)
      simp only [List.length_cons, List.length_nil, List.getElem_cons_succ]
      rw [← this]
      congr 1
      omega

theorem row_of_owns {W : World} {B g n c : Nat} {t : TypeId} {L : List Cl} (h : W.ownsRow B t 5 (.slice (some ⟨g, 0, none⟩) n c) n (clcells L)) (hn : L.length = n) :
    ∃ old, W.rowIs g t (c * 5) (cont n (fun k => L.getD k ⟨0, 0, 0, 0, 0⟩) old) ∧ n ≤ c ∧ c ≤ maxLen ∧ B ≤ g := by
  rcases h.2 with ⟨e, _⟩ | ⟨g', cap, cur, hv, hb, hg, h1, h2, h3, h4⟩
  · cases e
  · simp only [Value.slice.injEq, Option.some.injEq, Addr.mk.injEq, and_true, true_and] at hv
    obtain ⟨rfl, rfl⟩ := hv
    refine ⟨fun x => cur.toList.getD x undef, ⟨cur, hg, h3, fun x hx => ?_⟩, h1, h2, hb⟩
    have hx2 : x < cur.toList.length := by simpa [h3] using hx
    unfold cont
    split
    · rename_i hxn
      have hlt : x / 5 < L.length := by omega
      have := clcells_get L (x / 5) (x % 5) hlt (Nat.mod_lt _ (by omega))
      rw [show x / 5 * 5 + x % 5 = x by omega, ← h4, List.getElem?_take, if_pos (by omega)] at this
      rw [← Array.getElem?_toList, this]
      simp [List.getD_eq_getElem?_getD, List.getElem?_eq_getElem hlt]
    · rw [← Array.getElem?_toList, List.getElem?_eq_getElem hx2]
      simp [List.getD_eq_getElem?_getD, List.getElem?_eq_getElem hx2]

theorem owns_of_row {W : World} {B g n c : Nat} {t : TypeId} {M : Nat → Cl} {old : Nat → Value} (h : W.rowIs g t (c * 5) (cont n M old)) (hn : n ≤ c) (hc : c ≤ maxLen) (hb : B ≤ g) :
    W.ownsRow B t 5 (.slice (some ⟨g, 0, none⟩) n c) n (clcells ((List.range n).map M)) := by
  obtain ⟨cur, hg, hs, hcell⟩ := h
  refine ⟨by rw [clcells_len]; simp, .inr ⟨g, c, cur, rfl, hb, hg, hn, hc, hs, ?_⟩⟩
  apply List.ext_getElem?
  intro x
  rw [List.getElem?_take]
  by_cases hx : x < n * 5
  · rw [if_pos hx, Array.getElem?_toList, hcell x (by omega)]
    have := clcells_get ((List.range n).map M) (x / 5) (x % 5) (by simp; omega) (Nat.mod_lt _ (by omega))
    rw [show x / 5 * 5 + x % 5 = x by omega] at this
    rw [this]
    unfold cont
    rw [if_pos (by omega)]
    simp
  · rw [if_neg hx, List.getElem?_eq_none (by rw [clcells_len]; simp; omega)]

theorem reversed (L : List Cl) : (List.range L.length).map (fun k => L.getD (L.length - 1 - k) ⟨0, 0, 0, 0, 0⟩) = L.reverse := by
  apply List.ext_getElem
  · simp
  · intro i h1 h2
    simp only [List.length_map, List.length_range] at h1
    rw [List.getElem_map, List.getElem_range, List.getElem_reverse]
    simp [List.getD_eq_getElem?_getD, List.getElem?_eq_getElem (show L.length - 1 - i < L.length by omega)]

set_option maxRecDepth 100000 in
set_option maxHeartbeats 1000000 in
theorem call_any (p g : Nat) (bs : List UInt8) (root : Int) (w : World) (h : Mat 108 w p g bs) :
    Calls Try.prog 109 #[.pointer (some ⟨p, 0, none⟩), .int .i64 root] w
      fun e w' => ∃ v, e = .returned v ∧ w'.ownsRow w.heap.size 142 5 v (visited bs root).length (clcells (visited bs root).reverse) ∧ Fr (fun _ => False) w w' := by
  have hmf : ∀ (fn : Fn) (first cap : Array Value) (w : World), (Instr.makeFunc fn first cap).run Try.prog w = .ok (.func fn first cap) w := fun _ _ _ _ => rfl
  have hb := heap_alloc_last w (.cells #[.slice none 0 0] 151)
  have FA := (Fr.refl (fun _ => False) w).alloc (.cells #[.slice none 0 0] 151)
  have hl := h.lt
  have hvl := chain_length bs (bs.length + 1) bs.length (cell bs root).1
  have hbl := h.2.2.2
  have HE := Lib.hid (eachAll_any p g w.heap.size bs root 151 _ (h.fr FA id id) ⟨_, hb, World.ownsRow_nil _ _ _ _⟩ hl.1 hl.2)
  have HFA := Lib.hid FA
  have hLn : (visited bs root).length ≤ 1048577 := by unfold visited; omega
  obtain ⟨L, hL⟩ : ∃ L, visited bs root = L := ⟨_, rfl⟩
  rw [hL] at HE hLn ⊢
  clear h hb FA hL hl hvl hbl
  go_enter Try.func109, Try.ntmps109
  go_wp2_with fail
  refine HE.out.mono ?_
  rintro e w1 ⟨rfl, ⟨v, hv, ho⟩, hf⟩
  obtain ⟨o, c, rfl, _, _, h3, h4⟩ := owns_form ho
  have hc1 := cell_of_one hv
  have HO := Lib.hid ho
  have HV := Lib.hid hv
  have F1 := Lib.hid (HFA.out.after hf (S := fun _ => False) (fun k hk e => by omega))
  by_cases h0 : L.length ≤ 1
  · have hrev : L.reverse = L := by
      match L, h0 with
      | [], _ => rfl
      | [x], _ => rfl
    have HRV := Lib.hid hrev
    clear hv ho hf h3 h4 hrev
    go_wp2_with fail
    refine (reverse_short o L.length c h0 _).mono ?_
    rintro e w' ⟨rfl, h0⟩
    obtain rfl := h0.symm
    go_wp2_with fail
    go_ret
    exact ⟨_, rfl, by rw [HRV.out]; exact owns_mono HO.out (by omega), F1.out⟩
  · obtain ⟨gA, rfl, hgA, hgl⟩ : ∃ gA, o = some ⟨gA, 0, none⟩ ∧ w.heap.size + 1 ≤ gA ∧ gA < w1.heap.size := by
      cases o with
      | none => have := h3 rfl; omega
      | some bb =>
        obtain ⟨e1, e2, e3, e4⟩ := h4 bb rfl
        obtain ⟨b0, o0, p0⟩ := bb
        dsimp only at *
        subst e1; subst e2
        exact ⟨b0, rfl, by omega, e4⟩
    obtain ⟨old, hrow, hnc, hcm, _⟩ := row_of_owns ho rfl
    have HRW := Lib.hid (reverse_row gA (c * 5) L.length c _ old w1 (by omega) hLn hrow)
    have HNC := Lib.hid (And.intro hnc hcm)
    have HRD := Lib.hid (reversed L)
    obtain ⟨n, hn⟩ : ∃ n, L.length = n := ⟨_, rfl⟩
    have HN := Lib.hid hn
    rw [hn] at HRW HNC HRD hc1
    clear hv ho hf h3 h4 h0 hrow hnc hcm hn
    go_wp2_with fail
    refine HRW.out.mono ?_
    rintro e w2 ⟨rfl, hr, hf⟩
    have hc2 := hf.cell hc1 (show ¬ w.heap.size = gA by omega)
    have HR2 := Lib.hid hr
    have F2 := Lib.hid (F1.out.after hf (S := fun _ => False) (fun k hk e => by omega))
    clear hr hf
    go_wp2_with fail
    go_ret
    refine ⟨_, rfl, ?_, F2.out⟩
    have := owns_of_row (B := w.heap.size) HR2.out HNC.out.1 HNC.out.2 (by omega)
    rw [HRD.out] at this
    have e := HN.out
    subst e
    exact this
end Go.Proofs.Ytajeiccfgnpbpaa.Mem

namespace Go.Proofs.Ytajeiccfgnpbpaa.Mem
open Go.RowKit Go.Maps

/-- Has a class its own method of a selector? -/
def ownsv (bs : List UInt8) (c : Cl) (sel : Int) : Bool := (getv bs c.tab sel).2.2 && ((getv bs c.tab sel).1.cls == c.a)

set_option maxRecDepth 100000 in
set_option maxHeartbeats 2000000 in
theorem owns_any (p g : Nat) (bs : List UInt8) (x0 x1 x2 x3 x4 sel : Int) (w : World) (h : Mat 108 w p g bs) :
    Calls Try.prog 110 #[.pointer (some ⟨p, 0, none⟩), .agg #[.int .i64 x0, .int .i64 x1, .int .i64 x2, .int .i64 x3, .int .i64 x4], .int .i64 sel] w
      fun e w' => e = .returned (.bool (ownsv bs ⟨x0, x1, x2, x3, x4⟩ sel)) ∧ Fr (fun _ => False) w w' := by
  obtain ⟨res, hres⟩ : ∃ r, ownsv bs ⟨x0, x1, x2, x3, x4⟩ sel = r := ⟨_, rfl⟩
  rw [hres]
  have hg := fun W h => get_any p g bs x3 sel W h
  unfold ownsv at hres
  dsimp only at hres
  obtain ⟨⟨⟨e0, e1, e2⟩, n, ok⟩, hv⟩ : ∃ v, getv bs x3 sel = v := ⟨_, rfl⟩
  rw [hv] at hg hres
  simp only [entv] at hg
  dsimp only at hres
  have FA := (Fr.refl (fun _ => False) w).alloc (.cells #[.int .i64 x0, .int .i64 x1, .int .i64 x2, .int .i64 x3, .int .i64 x4] 142)
  have OA := heap_alloc_last w (.cells #[.int .i64 x0, .int .i64 x1, .int .i64 x2, .int .i64 x3, .int .i64 x4] 142)
  have HG := Lib.hid (hg _ (h.fr FA id id))
  have HFA := Lib.hid FA
  have HOA := Lib.hid OA
  have HRES := Lib.hid hres
  clear h hg hv hres FA OA
  go_enter Try.func110, Try.ntmps110
  go_wp2_with fail
  refine HG.out.mono ?_
  rintro e w1 ⟨rfl, hf⟩
  obtain ⟨q0, q1, q2, q3, q4, _, _, _, _, _, ql⟩ := five_cells (hf.obj HOA.out id)
  have F1 := Lib.hid (HFA.out.trans hf)
  clear hf
  cases ok with
  | true =>
    cases he : (e2 == x0) with
    | true =>
      go_wp2_with fail
      go_ret
      rw [← HRES.out, he]
      exact ⟨rfl, F1.out.alloc _⟩
    | false =>
      go_wp2_with fail
      go_ret
      rw [← HRES.out, he]
      exact ⟨rfl, F1.out.alloc _⟩
  | false =>
    go_wp2_with fail
    go_ret
    rw [← HRES.out]
    exact ⟨rfl, F1.out.alloc _⟩

/-- One class more: is it an heir? -/
def hstep (bs : List UInt8) (at_ sel : Int) (acc : List Cl) (c : Cl) : List Cl := if c.a = at_ ∨ (c.par ∈ acc.map Cl.a ∧ ownsv bs c sel = false) then acc ++ [c] else acc
def heirsl (bs : List UInt8) (root at_ sel : Int) : List Cl := (visited bs root).reverse.foldl (hstep bs at_ sel) []

def cdat (c : Cl) : DataW Unit := .agg [.lit (.int .i64 c.a), .lit (.int .i64 c.par), .lit (.int .i64 c.size), .lit (.int .i64 c.tab), .lit (.int .i64 c.prev)]
/-- The map of the heirs. -/
def hmap (acc : List Cl) : DataW Unit := acc.foldl (fun m c => m.put (.int .i64 c.a) (cdat c)) (.map [])
theorem hmap_snoc (acc : List Cl) (c : Cl) : hmap (acc ++ [c]) = (hmap acc).put (.int .i64 c.a) (cdat c) := by simp [hmap]
theorem fold_isMap : ∀ (acc : List Cl) (m : DataW Unit), IsMap m → IsMap (acc.foldl (fun m c => m.put (.int .i64 c.a) (cdat c)) m)
  | [], _, h => h
  | c :: acc, m, h => fold_isMap acc _ (h.put _ _)
theorem fold_has (x : Int) : ∀ (acc : List Cl) (m : DataW Unit), IsMap m → Maps.has (acc.foldl (fun m c => m.put (.int .i64 c.a) (cdat c)) m) (.int .i64 x) = (Maps.has m (.int .i64 x) || decide (x ∈ acc.map Cl.a))
  | [], m, _ => by simp
  | c :: acc, m, h => by
    rw [List.foldl_cons, fold_has x acc _ (h.put _ _)]
    by_cases hx : x = c.a
    · subst hx
      rw [has_put_same h (show WideAt.IsKeyLit (.int .i64 c.a) from trivial)]
      simp
    · rw [has_put_other (by simp; exact hx)]
      simp [hx]
theorem hmap_has (acc : List Cl) (x : Int) : Maps.has (hmap acc) (.int .i64 x) = decide (x ∈ acc.map Cl.a) := by
  unfold hmap
  rw [fold_has x acc _ isMap_empty]
  simp [Maps.has]

theorem clElem_form {v : Value} {d : DataW Unit} {ps : List MemPlace} (h : clElem v = some (d, ps)) : ∃ a b c d e : Int, v = .agg #[.int .i64 a, .int .i64 b, .int .i64 c, .int .i64 d, .int .i64 e] := by
  unfold clElem at h
  split at h
  · exact ⟨_, _, _, _, _, rfl⟩
  · cases h

theorem chain_wf (bs : List UInt8) : ∀ f (lim x : Int), lim ≤ 1048576 → ∀ c ∈ chain bs f lim x, (Lit.int .i64 c.a).wf = true ∧ (Lit.int .i64 c.par).wf = true
  | 0, _, _, _, c, hc => by simp [chain] at hc
  | f + 1, lim, x, hl, c, hc => by
    rw [chain] at hc
    split at hc
    · rename_i h
      rcases List.mem_cons.1 hc with rfl | hc
      · have hv : clv bs x = ⟨x, (cell bs (x + 8)).1, (cell bs (x + 16)).1, (cell bs (x + 24)).1, (cell bs (x + 32)).1⟩ := by unfold clv; rw [if_pos h.2.2]
        rw [hv]
        have hb := cell_bd' bs (x + 8)
        dsimp only
        exact ⟨WalkArith.wf_i64 (by omega), WalkArith.wf_i64 (by omega)⟩
      · exact chain_wf bs f x _ (by omega) c hc
    · simp at hc

/-- What holds at a round's head. -/
def HrI (w1 : World) (bs : List UInt8) (at_ sel : Int) (L : List Cl) (MB k : Nat) (lv : Value) (wr : World) : Prop :=
  ∃ acc : List Cl, (L.take k).foldl (hstep bs at_ sel) [] = acc ∧ acc.length ≤ k ∧ wr.ownsMap Try.prog 2 clElem MB acc.length (hmap acc) ∧ wr.ownsRow w1.heap.size 142 5 lv acc.length (clcells acc) ∧ Fr (fun j => j = MB ∨ w1.heap.size ≤ j) w1 wr

theorem ownsMap_fr {S : Nat → Prop} {W W' : World} {P : Program} {k : TypeId} {R : Value → Option (DataW Unit × List MemPlace)} {b n : Nat} {D : DataW Unit} (h : W.ownsMap P k R b n D) (f : Fr S W W') (hs : ¬ S b) : W'.ownsMap P k R b n D := by
  obtain ⟨es, ck, h1, h2, h3, h4⟩ := h
  exact ⟨es, ck, f.obj h1 hs, h2, h3, h4⟩

set_option maxRecDepth 100000 in
set_option maxHeartbeats 4000000 in
theorem heirs_any (p g : Nat) (bs : List UInt8) (root at_ sel : Int) (w : World) (h : Mat 108 w p g bs) :
    Calls Try.prog 85 #[.pointer (some ⟨p, 0, none⟩), .int .i64 root, .int .i64 at_, .int .i64 sel] w
      fun e w' => ∃ v, e = .returned v ∧ w'.ownsRow w.heap.size 142 5 v (heirsl bs root at_ sel).length (clcells (heirsl bs root at_ sel)) ∧ Fr (fun _ => False) w w' := by
  have hmm := @run_makeMap Try.prog
  obtain ⟨i0, hi, hz0, hz1, hz2⟩ := info_parts infoCl
  have HI := Lib.hid hi
  have HZ := Lib.hid (And.intro hz0 (And.intro hz1 hz2))
  clear hi hz0 hz1 hz2
  have ha := fun W h => call_any p g bs root W h
  have HWF := Lib.hid (fun c hc => chain_wf bs (bs.length + 1) bs.length (cell bs root).1 (by have := h.2.2.2; omega) c (show c ∈ visited bs root from List.mem_reverse.1 hc))
  have hlen : (visited bs root).length ≤ 1048577 := by
    have := chain_length bs (bs.length + 1) bs.length (cell bs root).1
    have := h.2.2.2
    unfold visited
    omega
  have hrl : (visited bs root).reverse.length = (visited bs root).length := List.length_reverse
  obtain ⟨L, hL⟩ : ∃ L, (visited bs root).reverse = L := ⟨_, rfl⟩
  have hres : heirsl bs root at_ sel = L.foldl (hstep bs at_ sel) [] := by unfold heirsl; rw [hL]
  rw [hL] at ha HWF hrl
  rw [← hrl] at ha hlen
  have HRES := Lib.hid hres
  have HA := Lib.hid ha
  have H := Lib.hid h
  have HOV := Lib.hid (fun x0 x1 x2 x3 x4 W h => owns_any p g bs x0 x1 x2 x3 x4 sel W h)
  obtain ⟨n, hn⟩ : ∃ n, L.length = n := ⟨_, rfl⟩
  have HN := Lib.hid hn
  rw [hn] at hlen HA
  clear ha h hrl hL hres hn
  go_enter Try.func85, Try.ntmps85
  go_wp2_with fail
  refine (HA.out _ (H.out.fr ((Fr.refl (fun _ => False) w).alloc _) id id)).mono ?_
  rintro e w1 ⟨v, rfl, ho, hf⟩
  obtain ⟨o, cc, rfl, _, _, h3, h4⟩ := owns_form ho
  have hM := hf.obj (heap_alloc_last w (.map #[] 0)) id
  have HOM := Lib.hid (show World.ownsMap w1 Try.prog 2 clElem w.heap.size 0 (.map []) from by
    obtain ⟨es, ck, q1, q2, q3, q4⟩ := World.ownsMap_made w Try.prog 2 clElem
    exact ⟨es, ck, hf.obj q1 id, q2, q3, q4⟩)
  have HO := Lib.hid ho
  have F1 := Lib.hid (((Fr.refl (fun _ => False) w).alloc _).trans hf)
  have hl1 := lt_of_block hM
  obtain ⟨MB, hMB⟩ : ∃ MB, w.heap.size = MB := ⟨_, rfl⟩
  have HMB := Lib.hid hMB
  rw [hMB] at HOM hl1 ⊢
  have hs1 : (w.alloc (.map #[] 0)).heap.size = w.heap.size + 1 := by simp
  have HS1 := Lib.hid hs1
  clear ho hf h3 h4 hM hMB hs1
  go_wp2_with fail
  go_loopw [9, 20] (fun lv iv wr => ∃ (k : Nat) (lv' : Value), lv' = lv ∧ k ≤ n ∧ iv = .int .i64 k ∧ HrI w1 bs at_ sel L MB k lv' wr) (fun _ iv _ => n - (intOf iv).toNat)
  case atStart => exact ⟨0, _, rfl, Nat.zero_le _, rfl, [], rfl, Nat.le_refl _, HOM.out, World.ownsRow_nil _ _ _ _, Fr.refl _ _⟩
  case round =>
    obtain ⟨k, lv, rfl, hk, rfl, acc, hacc, hal, hmp0, hrow, hF⟩ := hrel
    have HF := Lib.hid hF
    by_cases hlt : k < n
    · have hkl : k < L.length := by rw [HN.out]; exact hlt
      obtain ⟨gA, rfl, hgA, hgl⟩ : ∃ gA, o = some ⟨gA, 0, none⟩ ∧ MB < gA ∧ gA < w1.heap.size := by
        obtain ⟨o', c', hv, _, _, h3, h4⟩ := owns_form HO.out
        cases hv
        cases o with
        | none => have := h3 rfl; omega
        | some bb =>
          obtain ⟨e1, e2, e3, e4⟩ := h4 bb rfl
          obtain ⟨b0, o0, p0⟩ := bb
          dsimp only at *
          subst e1; subst e2
          have := HS1.out
          have := HMB.out
          exact ⟨b0, rfl, by omega, e4⟩
      have hcw := fun j (hj : j < 5) => hF.cell (HO.out.cells rfl (k * 5 + j) _ (clcells_get L k j hkl hj)) (fun e => by
        rw [addr_add''] at e
        dsimp only at e
        omega)
      have hwf := HWF.out L[k] (List.getElem_mem _)
      have hstp : (L.take (k + 1)).foldl (hstep bs at_ sel) [] = hstep bs at_ sel acc L[k] := by
        rw [List.take_add_one, List.getElem?_eq_getElem hkl, Option.toList_some, List.foldl_append, hacc]
        rfl
      obtain ⟨⟨y0, y1, y2, y3, y4⟩, hy⟩ : ∃ y, L[k] = y := ⟨_, rfl⟩
      rw [hy] at hcw hwf hstp
      have c0 := hcw 0 (by omega)
      have c1 := hcw 1 (by omega)
      have c2 := hcw 2 (by omega)
      have c3 := hcw 3 (by omega)
      have c4 := hcw 4 (by omega)
      rw [addr_add''] at c0 c1 c2 c3 c4
      simp only [clf, Nat.add_zero] at c0 c1 c2 c3 c4
      dsimp only at hwf
      have K1 := Lib.hid (keyOf_int_mk (P := Try.prog) Try.underlying2 hwf.2)
      have K0 := Lib.hid (keyOf_int_mk (P := Try.prog) Try.underlying2 hwf.1)
      have HHS := Lib.hid (hmap_has acc y1)
      have HMP := Lib.hid hmp0
      have HRW := Lib.hid hrow
      have HST := Lib.hid hstp
      have HM := Lib.hid (H.out.fr (F1.out.trans (Fr.refl _ w1)) id id)
      have HW1 := Lib.hid hl1
      obtain ⟨bp, hbp⟩ : ∃ bp, decide (y1 ∈ acc.map Cl.a) = bp := ⟨_, rfl⟩
      rw [hbp] at HHS
      have HBP := Lib.hid hbp
      have hB0 := hF.size
      have hlvb : ∀ j, lv.ownBlock = some j → w1.heap.size ≤ j := fun j hj => (hrow.lt j hj).1
      have HLV := Lib.hid hlvb
      have HNE := Lib.hid (show ¬ wr.heap.size = MB by omega)
      have HBS := Lib.hid (show w1.heap.size ≤ (wr.alloc (.cells #[.int .i64 y0, .int .i64 y1, .int .i64 y2, .int .i64 y3, .int .i64 y4] 142)).heap.size by simp; omega)
      have HMPW := Lib.hid (fun W (hW : Fr (fun _ => False) (wr.alloc (.cells #[.int .i64 y0, .int .i64 y1, .int .i64 y2, .int .i64 y3, .int .i64 y4] 142)) W) => ownsMap_fr hmp0 (((Fr.refl (fun _ => False) wr).alloc _).trans hW) id)
      have HRWW := Lib.hid (fun W (hW : Fr (fun j => j = MB) (wr.alloc (.cells #[.int .i64 y0, .int .i64 y1, .int .i64 y2, .int .i64 y3, .int .i64 y4] 142)) W) => (((Fr.refl (fun j => j = MB) wr).alloc _).trans hW).owns hrow (fun j hj e => by have := hlvb j hj; omega))
      have HM2 := Lib.hid (fun W (hW : Fr (fun _ => False) (wr.alloc (.cells #[.int .i64 y0, .int .i64 y1, .int .i64 y2, .int .i64 y3, .int .i64 y4] 142)) W) => (show Mat 108 W p g bs from H.out.fr ((F1.out.after hF (S := fun _ => False) (fun j hj e => by have := HS1.out; have := HMB.out; omega)).trans (((Fr.refl (fun _ => False) wr).alloc _).trans hW)) id id))
      have hsel : (y0 == at_) = true ∨ (bp = true ∧ ownsv bs ⟨y0, y1, y2, y3, y4⟩ sel = false) → (L.take (k + 1)).foldl (hstep bs at_ sel) [] = acc ++ [⟨y0, y1, y2, y3, y4⟩] := fun hh => by
        rw [hstp]
        unfold hstep
        rw [if_pos (hh.imp (fun e => by simpa using e) (fun e => ⟨of_decide_eq_true (hbp.trans e.1), e.2⟩))]
      have hnsel : (y0 == at_) = false → (bp = false ∨ ownsv bs ⟨y0, y1, y2, y3, y4⟩ sel = true) → (L.take (k + 1)).foldl (hstep bs at_ sel) [] = acc := fun h1 hh => by
        rw [hstp]
        unfold hstep
        rw [if_neg]
        rintro (e | ⟨e1, e2⟩)
        · have e : y0 = at_ := e
          rw [e] at h1
          simp at h1
        · rcases hh with hh | hh
          · rw [hh] at hbp
            exact (of_decide_eq_false hbp) e1
          · rw [hh] at e2
            cases e2
      have hfin : ∀ (w3 w5 : World) (v5 : Value), w3.ownsMap Try.prog 2 clElem MB (acc.length + 1) ((hmap acc).put (.int .i64 y0) (cdat ⟨y0, y1, y2, y3, y4⟩)) → Fr (fun j => j = MB) (wr.alloc (.cells #[.int .i64 y0, .int .i64 y1, .int .i64 y2, .int .i64 y3, .int .i64 y4] 142)) w3 →
          w5.ownsRow w1.heap.size 142 5 v5 (acc.length + 1) (clcells acc ++ [.int .i64 y0, .int .i64 y1, .int .i64 y2, .int .i64 y3, .int .i64 y4]) → (w3.alloc (.cells #[.int .i64 y0, .int .i64 y1, .int .i64 y2, .int .i64 y3, .int .i64 y4] 142)).grownBy w5 lv.ownBlock →
          (L.take (k + 1)).foldl (hstep bs at_ sel) [] = acc ++ [⟨y0, y1, y2, y3, y4⟩] → HrI w1 bs at_ sel L MB (k + 1) v5 w5 := fun w3 w5 v5 hm hq ho hg hs => by
        have f5 : Fr (fun j => lv.ownBlock = some j) w3 w5 := Fr.grown ((Fr.refl _ _).alloc _) hg (fun j hj => .inr hj)
        refine ⟨_, hs, by rw [List.length_append, List.length_singleton]; omega, ?_, ?_, ?_⟩
        · rw [List.length_append, List.length_singleton, hmap_snoc]
          exact ownsMap_fr hm f5 (fun e => by have := hlvb _ e; omega)
        · rw [List.length_append, List.length_singleton, clcells_snoc]
          exact ho
        · exact hF.trans ((Fr.some (((Fr.refl (fun j => j = MB) wr).alloc _).trans hq) fun _ e => .inl e).trans (Fr.some f5 fun j e => .inr (hlvb j e)))
      have hfin0 : ∀ W, Fr (fun _ => False) wr W → (L.take (k + 1)).foldl (hstep bs at_ sel) [] = acc → HrI w1 bs at_ sel L MB (k + 1) lv W := fun W hW hs =>
        ⟨acc, hs, by omega, ownsMap_fr hmp0 hW id, hW.owns hrow (fun _ _ => id), hF.trans (Fr.some hW fun _ e => e.elim)⟩
      have HSEL := Lib.hid hsel
      have HNSEL := Lib.hid hnsel
      have HFIN := Lib.hid hfin
      have HFIN0 := Lib.hid hfin0
      have hal2 : acc.length ≤ 1048577 := by omega
      clear hcw hwf hy hacc hmp0 hrow hF hstp hkl hbp hlvb hsel hnsel hfin hfin0 hB0
      cases hya : (y0 == at_) with
      | true =>
        have HYA := Lib.hid hya
        obtain rfl : y0 = at_ := by simpa using hya
        clear hya
        cases bp with
        | true =>
          go_wp2_with (first | (at_lookup; refine wpList_lookup_own_ok _ rfl _ _ 187 rfl 2 142 lawKey Try.underlying187 clElem (zeroCl _) (.agg [.lit (.int .i64 0), .lit (.int .i64 0), .lit (.int .i64 0), .lit (.int .i64 0), .lit (.int .i64 0)]) [] rfl MB acc.length (hmap acc) rfl (HMP.out.alloc _) _ _ rfl K1.out ?_; intro vv ps hvv; obtain ⟨t0, t1, t2, t3, t4, rfl⟩ := clElem_form hvv; rw [HHS.out]; clear hvv) | (at_mapUpdate; refine wpList_mapUpdate_own _ rfl _ _ _ 187 rfl 2 142 lawKey Try.underlying187 clElem MB acc.length (hmap acc) rfl (HMPW.out _ ?_) (by unfold maxLen; omega) _ _ _ rfl rfl K0.out (cdat ⟨y0, y1, y2, y3, y4⟩) [] rfl ?_; (· repeat' first | exact Fr.refl _ _ | assumption | apply Fr.alloc); intro w3 hown3 hgrow3; have hq3 : Fr (fun j => j = MB) (wr.alloc (.cells #[.int .i64 y0, .int .i64 y1, .int .i64 y2, .int .i64 y3, .int .i64 y4] 142)) w3 := (Fr.some (show Fr (fun _ => False) (wr.alloc (.cells #[.int .i64 y0, .int .i64 y1, .int .i64 y2, .int .i64 y3, .int .i64 y4] 142)) _ from by repeat' first | exact Fr.refl _ _ | assumption | apply Fr.alloc) fun _ e => e.elim).trans (Fr.grown (Fr.refl _ _) hgrow3 (fun j hj => .inr (Option.some.inj hj).symm)); have HQ3 := Lib.hid hq3; have HM3 := Lib.hid hown3; obtain ⟨k0, k1, k2, k3, k4, _, _, _, _, _, _⟩ := five_cells (hq3.obj (heap_alloc_last wr (.cells #[.int .i64 y0, .int .i64 y1, .int .i64 y2, .int .i64 y3, .int .i64 y4] 142)) HNE.out); have HT := Lib.hid (cell_five_new _ _ _ _ _ _ _ _ (heap_alloc_last w3 (.cells #[.int .i64 y0, .int .i64 y1, .int .i64 y2, .int .i64 y3, .int .i64 y4] 142))); have HB3 := Lib.hid (Nat.le_trans HBS.out hq3.size); clear hown3 hgrow3 hq3) | (at_builtin; refine wpList_append_own _ rfl (.tmp 49) (.tmp 51) 151 rfl w1.heap.size 142 i0 _ 5 40 Try.underlying151 HI.out HZ.out.1 HZ.out.2.1 HZ.out.2.2 rfl (by decide) _ acc.length (clcells acc) rfl (HRWW.out _ (HQ3.out.alloc _)) ⟨_, 0, none⟩ 1 1 [.int .i64 y0, .int .i64 y1, .int .i64 y2, .int .i64 y3, .int .i64 y4] rfl rfl HT.out (by simp [Value.oneCell']) (by unfold maxLen; omega) (by omega) (by have := HB3.out; simp; omega) ?_; intro v5 w5 hown5 hgrow5 _; have HV5 := Lib.hid hown5; have HG5 := Lib.hid hgrow5; clear hown5 hgrow5))
          go_roundw
          case rel => exact ⟨k + 1, _, rfl, by omega, by go_num, HFIN.out _ _ _ HM3.out HQ3.out HV5.out HG5.out (HSEL.out (.inl HYA.out))⟩
          case measure => simp [intOf]; omega
        | false =>
          go_wp2_with (first | (at_lookup; refine wpList_lookup_own_ok _ rfl _ _ 187 rfl 2 142 lawKey Try.underlying187 clElem (zeroCl _) (.agg [.lit (.int .i64 0), .lit (.int .i64 0), .lit (.int .i64 0), .lit (.int .i64 0), .lit (.int .i64 0)]) [] rfl MB acc.length (hmap acc) rfl (HMP.out.alloc _) _ _ rfl K1.out ?_; intro vv ps hvv; obtain ⟨t0, t1, t2, t3, t4, rfl⟩ := clElem_form hvv; rw [HHS.out]; clear hvv) | (at_mapUpdate; refine wpList_mapUpdate_own _ rfl _ _ _ 187 rfl 2 142 lawKey Try.underlying187 clElem MB acc.length (hmap acc) rfl (HMPW.out _ ?_) (by unfold maxLen; omega) _ _ _ rfl rfl K0.out (cdat ⟨y0, y1, y2, y3, y4⟩) [] rfl ?_; (· repeat' first | exact Fr.refl _ _ | assumption | apply Fr.alloc); intro w3 hown3 hgrow3; have hq3 : Fr (fun j => j = MB) (wr.alloc (.cells #[.int .i64 y0, .int .i64 y1, .int .i64 y2, .int .i64 y3, .int .i64 y4] 142)) w3 := (Fr.some (show Fr (fun _ => False) (wr.alloc (.cells #[.int .i64 y0, .int .i64 y1, .int .i64 y2, .int .i64 y3, .int .i64 y4] 142)) _ from by repeat' first | exact Fr.refl _ _ | assumption | apply Fr.alloc) fun _ e => e.elim).trans (Fr.grown (Fr.refl _ _) hgrow3 (fun j hj => .inr (Option.some.inj hj).symm)); have HQ3 := Lib.hid hq3; have HM3 := Lib.hid hown3; obtain ⟨k0, k1, k2, k3, k4, _, _, _, _, _, _⟩ := five_cells (hq3.obj (heap_alloc_last wr (.cells #[.int .i64 y0, .int .i64 y1, .int .i64 y2, .int .i64 y3, .int .i64 y4] 142)) HNE.out); have HT := Lib.hid (cell_five_new _ _ _ _ _ _ _ _ (heap_alloc_last w3 (.cells #[.int .i64 y0, .int .i64 y1, .int .i64 y2, .int .i64 y3, .int .i64 y4] 142))); have HB3 := Lib.hid (Nat.le_trans HBS.out hq3.size); clear hown3 hgrow3 hq3) | (at_builtin; refine wpList_append_own _ rfl (.tmp 49) (.tmp 51) 151 rfl w1.heap.size 142 i0 _ 5 40 Try.underlying151 HI.out HZ.out.1 HZ.out.2.1 HZ.out.2.2 rfl (by decide) _ acc.length (clcells acc) rfl (HRWW.out _ (HQ3.out.alloc _)) ⟨_, 0, none⟩ 1 1 [.int .i64 y0, .int .i64 y1, .int .i64 y2, .int .i64 y3, .int .i64 y4] rfl rfl HT.out (by simp [Value.oneCell']) (by unfold maxLen; omega) (by omega) (by have := HB3.out; simp; omega) ?_; intro v5 w5 hown5 hgrow5 _; have HV5 := Lib.hid hown5; have HG5 := Lib.hid hgrow5; clear hown5 hgrow5))
          go_roundw
          case rel => exact ⟨k + 1, _, rfl, by omega, by go_num, HFIN.out _ _ _ HM3.out HQ3.out HV5.out HG5.out (HSEL.out (.inl HYA.out))⟩
          case measure => simp [intOf]; omega
      | false =>
        have HYA := Lib.hid hya
        cases bp with
        | false =>
          go_wp2_with (at_lookup; refine wpList_lookup_own_ok _ rfl _ _ 187 rfl 2 142 lawKey Try.underlying187 clElem (zeroCl _) (.agg [.lit (.int .i64 0), .lit (.int .i64 0), .lit (.int .i64 0), .lit (.int .i64 0), .lit (.int .i64 0)]) [] rfl MB acc.length (hmap acc) rfl (HMP.out.alloc _) _ _ rfl K1.out ?_; intro vv ps hvv; obtain ⟨t0, t1, t2, t3, t4, rfl⟩ := clElem_form hvv; rw [HHS.out]; clear hvv)
          go_roundw
          case rel => exact ⟨k + 1, _, rfl, by omega, by go_num, HFIN0.out _ (((Fr.refl _ _).alloc _).alloc _) (HNSEL.out HYA.out (.inl rfl))⟩
          case measure => simp [intOf]; omega
        | true =>
          go_wp2_with (at_lookup; refine wpList_lookup_own_ok _ rfl _ _ 187 rfl 2 142 lawKey Try.underlying187 clElem (zeroCl _) (.agg [.lit (.int .i64 0), .lit (.int .i64 0), .lit (.int .i64 0), .lit (.int .i64 0), .lit (.int .i64 0)]) [] rfl MB acc.length (hmap acc) rfl (HMP.out.alloc _) _ _ rfl K1.out ?_; intro vv ps hvv; obtain ⟨t0, t1, t2, t3, t4, rfl⟩ := clElem_form hvv; rw [HHS.out]; clear hvv)
          refine (HOV.out _ _ _ _ _ _ (HM2.out _ ((Fr.refl _ _).alloc _))).mono ?_
          rintro e w2 ⟨rfl, hf⟩
          have hf2 : Fr (fun _ => False) (wr.alloc (.cells #[.int .i64 y0, .int .i64 y1, .int .i64 y2, .int .i64 y3, .int .i64 y4] 142)) w2 := ((Fr.refl _ _).alloc _).trans hf
          obtain ⟨q0, q1, q2, q3, q4, _, _, _, _, _, _⟩ := five_cells (hf2.obj (heap_alloc_last wr (.cells #[.int .i64 y0, .int .i64 y1, .int .i64 y2, .int .i64 y3, .int .i64 y4] 142)) id)
          clear hf
          obtain ⟨ob, hob⟩ : ∃ ob, ownsv bs ⟨y0, y1, y2, y3, y4⟩ sel = ob := ⟨_, rfl⟩
          have HOB := Lib.hid hob
          rw [hob]
          clear hob
          cases ob with
          | true =>
            have HF2 := Lib.hid hf2
            clear hf2
            go_wp2_with fail
            go_roundw
            case rel => exact ⟨k + 1, _, rfl, by omega, by go_num, HFIN0.out _ (((Fr.refl _ _).alloc _).trans HF2.out) (HNSEL.out HYA.out (.inr HOB.out))⟩
            case measure => simp [intOf]; omega
          | false =>
            go_wp2_with (first | (at_mapUpdate; refine wpList_mapUpdate_own _ rfl _ _ _ 187 rfl 2 142 lawKey Try.underlying187 clElem MB acc.length (hmap acc) rfl (HMPW.out _ ?_) (by unfold maxLen; omega) _ _ _ rfl rfl K0.out (cdat ⟨y0, y1, y2, y3, y4⟩) [] rfl ?_; (· repeat' first | exact Fr.refl _ _ | assumption | apply Fr.alloc); intro w3 hown3 hgrow3; have hq3 : Fr (fun j => j = MB) (wr.alloc (.cells #[.int .i64 y0, .int .i64 y1, .int .i64 y2, .int .i64 y3, .int .i64 y4] 142)) w3 := (Fr.some (show Fr (fun _ => False) (wr.alloc (.cells #[.int .i64 y0, .int .i64 y1, .int .i64 y2, .int .i64 y3, .int .i64 y4] 142)) _ from by repeat' first | exact Fr.refl _ _ | assumption | apply Fr.alloc) fun _ e => e.elim).trans (Fr.grown (Fr.refl _ _) hgrow3 (fun j hj => .inr (Option.some.inj hj).symm)); have HQ3 := Lib.hid hq3; have HM3 := Lib.hid hown3; obtain ⟨k0, k1, k2, k3, k4, _, _, _, _, _, _⟩ := five_cells (hq3.obj (heap_alloc_last wr (.cells #[.int .i64 y0, .int .i64 y1, .int .i64 y2, .int .i64 y3, .int .i64 y4] 142)) HNE.out); have HT := Lib.hid (cell_five_new _ _ _ _ _ _ _ _ (heap_alloc_last w3 (.cells #[.int .i64 y0, .int .i64 y1, .int .i64 y2, .int .i64 y3, .int .i64 y4] 142))); have HB3 := Lib.hid (Nat.le_trans HBS.out hq3.size); clear hown3 hgrow3 hq3) | (at_builtin; refine wpList_append_own _ rfl (.tmp 49) (.tmp 51) 151 rfl w1.heap.size 142 i0 _ 5 40 Try.underlying151 HI.out HZ.out.1 HZ.out.2.1 HZ.out.2.2 rfl (by decide) _ acc.length (clcells acc) rfl (HRWW.out _ (HQ3.out.alloc _)) ⟨_, 0, none⟩ 1 1 [.int .i64 y0, .int .i64 y1, .int .i64 y2, .int .i64 y3, .int .i64 y4] rfl rfl HT.out (by simp [Value.oneCell']) (by unfold maxLen; omega) (by omega) (by have := HB3.out; simp; omega) ?_; intro v5 w5 hown5 hgrow5 _; have HV5 := Lib.hid hown5; have HG5 := Lib.hid hgrow5; clear hown5 hgrow5))
            go_roundw
            case rel => exact ⟨k + 1, _, rfl, by omega, by go_num, HFIN.out _ _ _ HM3.out HQ3.out HV5.out HG5.out (HSEL.out (.inr ⟨by trivial, HOB.out⟩))⟩
            case measure => simp [intOf]; omega
    · obtain rfl : n = k := by omega
      rw [List.take_of_length_le (by rw [HN.out]; exact Nat.le_refl _)] at hacc
      have HACC := Lib.hid (HRES.out.trans hacc)
      have HRW := Lib.hid hrow
      clear hmp0 hrow hF hacc
      go_wp2_with fail
      go_ret
      rw [HACC.out]
      exact ⟨_, rfl, owns_mono HRW.out (by have := HS1.out; have := HMB.out; have := F1.out.size; omega), F1.out.after HF.out (fun j hj e => by have := HS1.out; have := HMB.out; have := F1.out.size; omega)⟩
end Go.Proofs.Ytajeiccfgnpbpaa.Mem

namespace Go.Proofs.Ytajeiccfgnpbpaa.Mem
open Go.RowKit

/-- An entry put into the tables of some classes. -/
def putall (sel xt cls : Int) (l : List Cl) (bs : List UInt8) : List UInt8 := l.foldl (fun m c => putb m c.tab ⟨sel, xt, cls⟩) bs
theorem putall_length (sel xt cls : Int) : ∀ (l : List Cl) (bs : List UInt8), (putall sel xt cls l bs).length = bs.length
  | [], _ => rfl
  | c :: l, bs => by
    show (putall sel xt cls l (putb bs c.tab ⟨sel, xt, cls⟩)).length = _
    rw [putall_length sel xt cls l, putb_length]
theorem putall_snoc (sel xt cls : Int) (l : List Cl) (c : Cl) (bs : List UInt8) : putall sel xt cls (l ++ [c]) bs = putb (putall sel xt cls l bs) c.tab ⟨sel, xt, cls⟩ := by
  unfold putall
  rw [List.foldl_append]
  rfl
/-- What Set tells, and leaves. -/
def csetv (bs : List UInt8) (root at_ sel xt : Int) : Int × List UInt8 :=
  if (heirsl bs root at_ sel).length = 0 then (-2048, bs) else if sel < 1 then (-256, bs)
  else if (heirsl bs root at_ sel).all (fun c => may bs c.tab sel) = true then (0, putall sel xt at_ (heirsl bs root at_ sel) bs) else (-2051, bs)

theorem heirsl_len (bs : List UInt8) (at_ sel : Int) : ∀ (L acc : List Cl), (L.foldl (hstep bs at_ sel) acc).length ≤ acc.length + L.length
  | [], acc => by simp
  | c :: L, acc => by
    rw [List.foldl_cons]
    have := heirsl_len bs at_ sel L (hstep bs at_ sel acc c)
    have h2 : (hstep bs at_ sel acc c).length ≤ acc.length + 1 := by
      unfold hstep
      split
      · rw [List.length_append, List.length_singleton]; omega
      · omega
    rw [List.length_cons]
    omega

set_option maxRecDepth 100000 in
set_option maxHeartbeats 4000000 in
theorem cset_any (p g : Nat) (bs : List UInt8) (root at_ sel xt : Int) (w : World) (h : Mat 108 w p g bs) :
    Calls Try.prog 35 #[.pointer (some ⟨p, 0, none⟩), .int .i64 root, .int .i64 at_, .int .i64 sel, .int .i64 xt] w
      fun e w' => e = .returned (.int .i64 (csetv bs root at_ sel xt).1) ∧ Mat 108 w' p g (csetv bs root at_ sel xt).2 ∧ Only g w w' := by
  obtain ⟨⟨v1, v2⟩, hv⟩ : ∃ v, csetv bs root at_ sel xt = v := ⟨_, rfl⟩
  rw [hv]
  dsimp only
  unfold csetv at hv
  have hh := heirs_any p g bs root at_ sel w h
  have hlen : (heirsl bs root at_ sel).length ≤ 1048577 := by
    have h1 := heirsl_len bs at_ sel (visited bs root).reverse []
    have h2 := chain_length bs (bs.length + 1) bs.length (cell bs root).1
    have h3 := h.2.2.2
    unfold heirsl
    rw [List.length_reverse, List.length_nil] at h1
    unfold visited at h1 ⊢
    omega
  obtain ⟨L, hL⟩ : ∃ L, heirsl bs root at_ sel = L := ⟨_, rfl⟩
  rw [hL] at hv hh hlen
  have HM := Lib.hid (fun t W h => may_any p g bs t sel W h)
  have hpt := fun m t W h => put_any p g m t ⟨sel, xt, at_⟩ W h
  simp only [entv] at hpt
  have HP := Lib.hid hpt
  have H := Lib.hid h
  have HG := Lib.hid h.lt
  have HH := Lib.hid hh
  have HV := Lib.hid hv
  obtain ⟨n, hn⟩ : ∃ n, L.length = n := ⟨_, rfl⟩
  have HN := Lib.hid hn
  rw [hn] at hlen HH HV
  clear h hv hh hL hn hpt
  go_enter Try.func35, Try.ntmps35
  go_wp2_with fail
  refine HH.out.mono ?_
  rintro e w1 ⟨v, rfl, ho, hf⟩
  obtain ⟨o, cc, rfl, _, _, h3, h4⟩ := owns_form ho
  have HO := Lib.hid ho
  have F1 := Lib.hid hf
  by_cases h0 : n = 0
  · subst h0
    have hv := HV.out
    rw [if_pos rfl] at hv
    cases hv
    clear ho hf h3 h4
    go_wp2_with fail
    go_ret
    exact ⟨rfl, H.out.fr F1.out id id, Fr.some F1.out fun _ e => e.elim⟩
  · obtain ⟨gA, rfl, hgA, hgl⟩ : ∃ gA, o = some ⟨gA, 0, none⟩ ∧ w.heap.size ≤ gA ∧ gA < w1.heap.size := by
      cases o with
      | none => have := h3 rfl; omega
      | some bb =>
        obtain ⟨e1, e2, e3, e4⟩ := h4 bb rfl
        obtain ⟨b0, o0, p0⟩ := bb
        dsimp only at *
        subst e1; subst e2
        exact ⟨b0, rfl, e3, e4⟩
    have hn0 : ((n : Int) == 0) = false := by simp; omega
    have HNE := Lib.hid (show ¬ gA = g by have := HG.out.2; omega)
    have HC := Lib.hid (fun k (hk : k < L.length) (W : World) S (hW : Fr S w1 W) (hS : ¬ S gA) j (hj : j < 5) => (show W.cell? ⟨gA, k * 5 + j, none⟩ = some (.int .i64 (clf L[k] j)) from by
      have := hW.cell (ho.cells rfl (k * 5 + j) _ (clcells_get L k j hk hj)) (by rw [addr_add'']; exact hS)
      rwa [addr_add''] at this))
    have H0 := Lib.hid h0
    clear ho hf h3 h4 h0
    by_cases hs1 : sel < 1
    · have hv := HV.out
      rw [if_neg H0.out, if_pos hs1] at hv
      cases hv
      go_wp2_with fail
      go_ret
      exact ⟨rfl, H.out.fr F1.out id id, Fr.some F1.out fun _ e => e.elim⟩
    · go_wp2_with fail
      go_loopw [28] (fun iv wr => ∃ k : Nat, k ≤ n ∧ iv = .int .i64 k ∧ (∀ c ∈ L.take k, may bs c.tab sel = true) ∧ Fr (fun _ => False) w1 wr) (fun iv _ => n - (intOf iv).toNat)
      case atStart => exact ⟨0, Nat.zero_le _, rfl, fun c hc => by simp at hc, Fr.refl _ _⟩
      case round =>
        obtain ⟨k, hk, rfl, hall, hF⟩ := hrel
        have HF := Lib.hid hF
        have HALL := Lib.hid hall
        by_cases hlt : k < n
        · have hkl : k < L.length := by rw [HN.out]; exact hlt
          have c0 := HC.out k hkl wr _ hF id 0 (by omega)
          have c1 := HC.out k hkl wr _ hF id 1 (by omega)
          have c2 := HC.out k hkl wr _ hF id 2 (by omega)
          have c3 := HC.out k hkl wr _ hF id 3 (by omega)
          have c4 := HC.out k hkl wr _ hF id 4 (by omega)
          have htk : L.take (k + 1) = L.take k ++ [L[k]] := by rw [List.take_add_one, List.getElem?_eq_getElem hkl, Option.toList_some]
          have hmemL : L[k] ∈ L := List.getElem_mem _
          obtain ⟨⟨y0, y1, y2, y3, y4⟩, hy⟩ : ∃ y, L[k] = y := ⟨_, rfl⟩
          rw [hy] at c0 c1 c2 c3 c4 htk hmemL
          simp only [clf, Nat.add_zero] at c0 c1 c2 c3 c4
          have HTK := Lib.hid htk
          have HML := Lib.hid hmemL
          obtain ⟨mb, hmb⟩ : ∃ mb, may bs y3 sel = mb := ⟨_, rfl⟩
          have hm := HM.out y3 (wr.alloc (.cells #[.int .i64 y0, .int .i64 y1, .int .i64 y2, .int .i64 y3, .int .i64 y4] 142)) (H.out.fr ((F1.out.trans hF).alloc _) id id)
          rw [hmb] at hm
          have HMM := Lib.hid hm
          have HMB := Lib.hid hmb
          clear hkl hy hall hF htk hm hmb hmemL
          cases mb with
          | true =>
            go_wp2_with fail
            refine HMM.out.mono ?_
            rintro e w2 ⟨rfl, hf⟩
            have HF2 := Lib.hid ((HF.out.alloc _).trans hf)
            clear hf
            go_wp2_with fail
            go_roundw
            case rel =>
              refine ⟨k + 1, by omega, by go_num, fun c hc => ?_, HF2.out⟩
              rw [HTK.out] at hc
              rcases List.mem_append.1 hc with hc | hc
              · exact HALL.out c hc
              · obtain rfl : c = ⟨y0, y1, y2, y3, y4⟩ := by simpa using hc
                exact HMB.out
            case measure => simp [intOf]; omega
          | false =>
            go_wp2_with fail
            refine HMM.out.mono ?_
            rintro e w2 ⟨rfl, hf⟩
            have HF2 := Lib.hid ((HF.out.alloc _).trans hf)
            clear hf
            go_wp2_with fail
            go_ret
            have hv := HV.out
            rw [if_neg H0.out, if_neg (show ¬ sel < 1 by omega), if_neg (by
              intro hh
              have := List.all_eq_true.1 hh _ HML.out
              rw [HMB.out] at this
              cases this)] at hv
            cases hv
            exact ⟨rfl, H.out.fr (F1.out.trans HF2.out) id id, Fr.some (F1.out.trans HF2.out) fun _ e => e.elim⟩
        · obtain rfl : n = k := by omega
          rw [List.take_of_length_le (by rw [HN.out]; exact Nat.le_refl _)] at hall
          have hv := HV.out
          rw [if_neg H0.out, if_neg (show ¬ sel < 1 by omega), if_pos (List.all_eq_true.2 hall)] at hv
          have HV2 := Lib.hid hv
          have hn0' : ¬ n < n := Nat.lt_irrefl n
          clear hall hF hv HALL
          obtain ⟨wo, hwo⟩ : ∃ wo, wo = wr := ⟨_, rfl⟩
          subst hwo
          go_wp2_with fail
          go_loopw [41] (fun iv ws => ∃ k : Nat, k ≤ n ∧ iv = .int .i64 k ∧ Mat 108 ws p g (putall sel xt at_ (L.take k) bs) ∧ Fr (fun j => j = g) wo ws) (fun iv _ => n - (intOf iv).toNat)
          case atStart => exact ⟨0, Nat.zero_le _, rfl, H.out.fr (F1.out.trans HF.out) id id, Fr.refl _ _⟩
          case round =>
            obtain ⟨k, hk, rfl, hMat, hG⟩ := hrel
            have HG2 := Lib.hid hG
            have HMT := Lib.hid hMat
            by_cases hlt : k < n
            · have hkl : k < L.length := by rw [HN.out]; exact hlt
              have hFG := (Fr.some (T := fun j => j = g) HF.out fun _ e => e.elim).trans hG
              have c0 := HC.out k hkl wr _ hFG HNE.out 0 (by omega)
              have c1 := HC.out k hkl wr _ hFG HNE.out 1 (by omega)
              have c2 := HC.out k hkl wr _ hFG HNE.out 2 (by omega)
              have c3 := HC.out k hkl wr _ hFG HNE.out 3 (by omega)
              have c4 := HC.out k hkl wr _ hFG HNE.out 4 (by omega)
              have htk : L.take (k + 1) = L.take k ++ [L[k]] := by rw [List.take_add_one, List.getElem?_eq_getElem hkl, Option.toList_some]
              obtain ⟨⟨y0, y1, y2, y3, y4⟩, hy⟩ : ∃ y, L[k] = y := ⟨_, rfl⟩
              rw [hy] at c0 c1 c2 c3 c4 htk
              simp only [clf, Nat.add_zero] at c0 c1 c2 c3 c4
              have hps := putall_snoc sel xt at_ (L.take k) ⟨y0, y1, y2, y3, y4⟩ bs
              rw [← htk] at hps
              dsimp only at hps
              have hp := HP.out _ y3 (wr.alloc (.cells #[.int .i64 y0, .int .i64 y1, .int .i64 y2, .int .i64 y3, .int .i64 y4] 142)) (hMat.fr ((Fr.refl (fun _ => False) wr).alloc _) id id)
              rw [← hps] at hp
              have HPP := Lib.hid hp
              clear hkl hy hMat hG hFG htk hp hps
              go_wp2_with fail
              refine HPP.out.mono ?_
              rintro e w2 ⟨rfl, hm2, hf⟩
              have HM2 := Lib.hid hm2
              have HF2 := Lib.hid ((HG2.out.alloc _).trans hf)
              clear hm2 hf
              go_wp2_with fail
              go_roundw
              case rel => exact ⟨k + 1, by omega, by go_num, HM2.out, HF2.out⟩
              case measure => simp [intOf]; omega
            · obtain rfl : n = k := by omega
              rw [List.take_of_length_le (by rw [HN.out]; exact Nat.le_refl _)] at hMat
              have HM2 := Lib.hid hMat
              clear hMat hG
              go_wp2_with fail
              go_ret
              have hv := HV2.out
              cases hv
              exact ⟨rfl, HM2.out, (Fr.some (F1.out.trans HF.out) fun _ e => e.elim).trans HG2.out⟩
end Go.Proofs.Ytajeiccfgnpbpaa.Mem
