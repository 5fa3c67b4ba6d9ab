/- Contracts of package class: All. -/
import Derived.Test.YtajeiccfgnpbpaaClsF
namespace Go.Proofs.Ytajeiccfgnpbpaa.Mem
open Go.RowKit

/-- The classes from x downwards (below lim). -/
def chain (bs : List UInt8) : Nat → Int → Int → List Cl
  | 0, _, _ => []
  | f + 1, lim, x => if 0 < x ∧ x < lim ∧ isCl bs x = true then clv bs x :: chain bs f x (clv bs x).prev else []
theorem chain_end (bs : List UInt8) (f : Nat) (lim x : Int) (h : ¬ (0 < x ∧ x < lim ∧ isCl bs x = true)) : chain bs f lim x = [] := by
  cases f with
  | zero => rfl
  | succ f => rw [chain, if_neg h]
theorem chain_length (bs : List UInt8) : ∀ f lim x, (chain bs f lim x).length ≤ f
  | 0, _, _ => Nat.le_refl _
  | f + 1, lim, x => by
    rw [chain]
    split
    · have := chain_length bs f x (clv bs x).prev
      simp; omega
    · simp
/-- A root's classes, the last one first. -/
def visited (bs : List UInt8) (root : Int) : List Cl := chain bs (bs.length + 1) bs.length (cell bs root).1

/-- The cells of classes. -/
def clcells (l : List Cl) : List Value := l.flatMap fun c => [.int .i64 c.a, .int .i64 c.par, .int .i64 c.size, .int .i64 c.tab, .int .i64 c.prev]
theorem clcells_snoc (l : List Cl) (c : Cl) : clcells (l ++ [c]) = clcells l ++ [.int .i64 c.a, .int .i64 c.par, .int .i64 c.size, .int .i64 c.tab, .int .i64 c.prev] := by simp [clcells]

theorem infoCl : (Try.prog.info? 142).map (fun i => (i.zero, i.size, i.bytes)) = some (some (.agg #[.int .i64 0, .int .i64 0, .int .i64 0, .int .i64 0, .int .i64 0]), 5, 40) := by kernel_rfl

theorem cell_five_new (w : World) (x0 x1 x2 x3 x4 : Value) (t : TypeId) (b : Nat) (h : w.heap[b]? = some (.cells #[x0, x1, x2, x3, x4] t (0, 0))) : ∀ j u, [x0, x1, x2, x3, x4][j]? = some u → w.cell? ((⟨b, 0, none⟩ : Addr).add j) = some u := by
  intro j u hu
  obtain ⟨h0, h1, h2, h3, h4, _⟩ := five_cells h
  have hp : ((⟨b, 0, none⟩ : Addr).add j) = ⟨b, j, none⟩ := by unfold Addr.add; split <;> simp_all
  rw [hp]
  match j, hu with
  | 0, hu => rw [h0]; exact hu
  | 1, hu => rw [h1]; exact hu
  | 2, hu => rw [h2]; exact hu
  | 3, hu => rw [h3]; exact hu
  | 4, hu => rw [h4]; exact hu

/-- Classes in a variable. -/
def InVar (w : World) (vb : Nat) (t : TypeId) (L : List Cl) : Prop := ∃ v, w.heap[vb]? = some (.cells #[v] t (0, 0)) ∧ w.ownsRow (vb + 1) 142 5 v L.length (clcells L)

set_option maxRecDepth 100000 in
set_option maxHeartbeats 1000000 in
/-- The closure of All: one more class. -/
theorem all1_any (vb : Nat) (L : List Cl) (c : Cl) (t : TypeId) (w : World) (hv : InVar w vb t L) (hL : L.length ≤ 1048577) :
    Calls Try.prog 123 #[clval c, .pointer (some ⟨vb, 0, none⟩)] w fun e w' => e = .returned (.bool true) ∧ InVar w' vb t (L ++ [c]) ∧ ∀ v, w.heap[vb]? = some (.cells #[v] t (0, 0)) → Fr (fun j => j = vb ∨ v.ownBlock = some j) w w' := by
  obtain ⟨v, hv, ho⟩ := hv
  obtain ⟨o, cc, rfl, hw1, hw2, hw3, hw4⟩ := owns_form ho
  obtain ⟨i0, hi, hz0, hz1, hz2⟩ := info_parts infoCl
  have HI := Lib.hid hi
  have HZ := Lib.hid (And.intro hz0 (And.intro hz1 hz2))
  obtain ⟨y0, y1, y2, y3, y4⟩ := c
  unfold clval
  dsimp only
  have hvl := lt_of_block hv
  have FA := (Fr.refl (fun _ => False) w).alloc (.cells #[.int .i64 y0, .int .i64 y1, .int .i64 y2, .int .i64 y3, .int .i64 y4] 142)
  have hvA := cell_of_one (FA.obj hv id)
  have HV := Lib.hid hv
  have HO := Lib.hid ho
  have HT := Lib.hid (cell_five_new _ _ _ _ _ _ _ _ (heap_alloc_last (w.alloc (.cells #[.int .i64 y0, .int .i64 y1, .int .i64 y2, .int .i64 y3, .int .i64 y4] 142)) (.cells #[.int .i64 y0, .int .i64 y1, .int .i64 y2, .int .i64 y3, .int .i64 y4] 142)))
  have HLB := Lib.hid (fun j hj => (ho.lt j hj).1)
  clear hi hz0 hz1 hz2 hv ho FA hw3 hw4
  go_enter Try.func123, Try.ntmps123
  go_wp2_with (at_builtin; refine wpList_append_own _ rfl (.tmp 4) (.tmp 6) 151 rfl (vb + 1) 142 i0 _ 5 40 Try.underlying151 HI.out HZ.out.1 HZ.out.2.1 HZ.out.2.2 rfl (by decide) _ L.length (clcells L) rfl ((HO.out.alloc _).alloc _) ⟨_, 0, none⟩ 1 1 [.int .i64 y0, .int .i64 y1, .int .i64 y2, .int .i64 y3, .int .i64 y4] rfl rfl (by simpa using HT.out) (by simp [Value.oneCell']) (by unfold maxLen; omega) (by omega) (by simp; omega) ?_; intro v2 w3 hown2 hgrow2 _; obtain ⟨o2, c2, rfl, _, _, _, _⟩ := owns_form hown2; have HV2 := Lib.hid hown2; have FG := Fr.grown (S := fun j => (Value.slice o L.length cc).ownBlock = some j) (((Fr.refl (fun j => (Value.slice o L.length cc).ownBlock = some j) w).alloc (.cells #[.int .i64 y0, .int .i64 y1, .int .i64 y2, .int .i64 y3, .int .i64 y4] 142)).alloc (.cells #[.int .i64 y0, .int .i64 y1, .int .i64 y2, .int .i64 y3, .int .i64 y4] 142)) hgrow2 (fun j hj => .inr hj); have hv3 := FG.obj HV.out (fun e => by have := HLB.out vb e; omega); have hc3 := cell_of_one hv3; have hf3 := frozen_of_row _ vb 0 _ _ hv3; have H3 := Lib.hid hv3; have HFG := Lib.hid FG; clear hown2 hgrow2 FG hv3)
  go_ret
  have FS := Fr.setOne (p := vb) (Fr.refl _ w3) 0 (.slice o2 (L.length + 1) c2)
  refine ⟨rfl, ⟨_, heap_setCell_same w3 vb 0 _ _ _ H3.out, ?_⟩, fun v hv => ?_⟩
  · rw [clcells_snoc, List.length_append]
    exact FS.owns HV2.out (fun k hk e => by have := (HV2.out.lt k hk).1; omega)
  · have e := hv.symm.trans HV.out
    simp only [Option.some.injEq, Obj.cells.injEq, Array.mk.injEq, List.cons.injEq, and_true] at e
    subst e
    exact (Fr.some HFG.out fun _ e => .inr e).trans (Fr.some FS fun _ e => .inl e)

set_option maxRecDepth 100000 in
set_option maxHeartbeats 4000000 in
theorem eachAll_any (p g vb : Nat) (bs : List UInt8) (root : Int) (t : TypeId) (w : World) (h : Mat 108 w p g bs)
    (h2 : InVar w vb t []) (hpf : p < vb) (hgf : g < vb) :
    Calls Try.prog 79 #[.pointer (some ⟨p, 0, none⟩), .int .i64 root, .func (.func 123) #[] #[.pointer (some ⟨vb, 0, none⟩)]] w
      fun e w' => e = .returned (.tuple #[]) ∧ InVar w' vb t (visited bs root) ∧ Fr (fun j => vb ≤ j) w w' := by
  have HS := Lib.hid (size_any p g bs w h)
  have HC := Lib.hid (cell_any p g bs root w h)
  have HR := Lib.hid (fun x w h hx => cread_any p g bs x w h hx)
  have H := Lib.hid h
  have hbl := h.2.2.2
  have hx0 := cell_bd' bs root
  have HI := Lib.hid (show chain bs (bs.length + 1) bs.length (cell bs root).1 = visited bs root from rfl)
  have hvl := chain_length bs (bs.length + 1) bs.length (cell bs root).1
  rw [HI.out] at hvl
  obtain ⟨n, hn⟩ : ∃ n, bs.length = n := ⟨_, rfl⟩
  obtain ⟨⟨x0, d0⟩, hc⟩ : ∃ r, cell bs root = r := ⟨_, rfl⟩
  obtain ⟨res, hres⟩ : ∃ r, visited bs root = r := ⟨_, rfl⟩
  rw [hn, hc, hres] at HI
  rw [hn, hres] at hvl
  rw [hn] at HS hbl
  rw [hc] at HC hx0
  rw [hres]
  dsimp only at hx0
  have H2 := Lib.hid h2
  clear h hn hc hres h2
  go_enter Try.func79, Try.ntmps79
  go_wp2_with (first | (go_at_call 51; refine HS.out.mono ?_; rintro e w' ⟨rfl, h0⟩; obtain rfl := h0.symm) | (go_at_call 46; refine HC.out.mono ?_; rintro e w' ⟨rfl, h0⟩; obtain rfl := h0.symm))
  go_loopw [6, 7] (fun lv xv wr => ∃ (f : Nat) (lim x : Int) (L : List Cl), lv = .int .i64 lim ∧ xv = .int .i64 x ∧ lim ≤ f ∧ lim ≤ 1048576 ∧ (-9223372036854775808 ≤ x ∧ x ≤ 9223372036854775807) ∧
    InVar wr vb t L ∧ L ++ chain bs f lim x = res ∧ Fr (fun j => vb ≤ j) w wr) (fun lv _ _ => (intOf lv).toNat)
  case atStart => exact ⟨n + 1, n, x0, [], rfl, rfl, by omega, by omega, hx0, H2.out, HI.out, Fr.refl _ _⟩
  case round =>
    obtain ⟨f, lim, x, L, rfl, rfl, hf, hlm, hxb, hcf, hch, hF⟩ := hrel
    have hLb : L.length ≤ 1048577 := by
      have := congrArg List.length hch
      rw [List.length_append] at this
      omega
    have HCF := Lib.hid hcf
    have HF := Lib.hid hF
    clear hcf hF
    by_cases hx : 0 < x
    · by_cases hl : x < lim
      · have hr := HR.out x _ (H.out.fr HF.out (by omega) (by omega)) hxb
        by_cases hcl : isCl bs x = true
        · obtain ⟨f', rfl⟩ : ∃ f', f = f' + 1 := ⟨f - 1, by omega⟩
          rw [chain, if_pos ⟨hx, hl, hcl⟩] at hch
          rw [hcl] at hr
          have hva : (clv bs x).a = x := by unfold clv; rw [if_pos hcl]
          have hvp := cell_bd' bs (x + 32)
          have hvq : (clv bs x).prev = (cell bs (x + 32)).1 := by unfold clv; rw [if_pos hcl]
          rw [← hvq] at hvp
          obtain ⟨⟨y0, y1, y2, y3, y4⟩, hy⟩ : ∃ y, clv bs x = y := ⟨_, rfl⟩
          rw [hy] at hr hch hva hvp
          dsimp only at hch hva hvp
          subst hva
          simp only [clval] at hr
          have HRR := Lib.hid hr
          have HCH := Lib.hid hch
          clear hr hcl hy hvq hch
          go_wp2_with fail
          refine HRR.out.mono ?_
          rintro e w1 ⟨rfl, hf1⟩
          have hfa := hf1.alloc (.cells #[.int .i64 y0, .int .i64 y1, .int .i64 y2, .int .i64 y3, .int .i64 y4] 142)
          have HF1 := Lib.hid (HF.out.trans (Fr.some hfa fun _ e => e.elim))
          obtain ⟨v, hv, ho⟩ := HCF.out
          have HC1 := Lib.hid (show InVar _ vb t L from ⟨v, hfa.obj hv id, hfa.owns ho (fun _ _ => id)⟩)
          have hvv := lt_of_block hv
          have hsz1 := hf1.size
          have HB1 := Lib.hid (heap_alloc_last w1 (.cells #[.int .i64 y0, .int .i64 y1, .int .i64 y2, .int .i64 y3, .int .i64 y4] 142))
          have HNB := Lib.hid (show ∀ j, v.ownBlock = some j → j < w1.heap.size from fun j hj => by have := (ho.lt j hj).2; omega)
          have HLB := Lib.hid (show ∀ j, v.ownBlock = some j → vb ≤ j from fun j hj => by have := (ho.lt j hj).1; omega)
          have HV1 := Lib.hid (hfa.obj hv id)
          clear hf1 hfa hv ho
          go_wp2_with fail
          have hk := all1_any vb L ⟨y0, y1, y2, y3, y4⟩ t _ HC1.out hLb
          simp only [clval] at hk
          have HK := Lib.hid hk
          clear hk
          refine HK.out.mono ?_
          rintro e w2 ⟨rfl, hq, hf2⟩
          have HQ := Lib.hid hq
          have hf3 := hf2 _ HV1.out
          have hb2 := hf3.obj HB1.out (fun e => by
            rcases e with e | e
            · omega
            · have := HNB.out _ e; omega)
          obtain ⟨q0, q1, q2, q3, q4, _, _, _, _, _, ql⟩ := five_cells hb2
          have HF2 := Lib.hid (HF1.out.trans (Fr.some hf3 fun _ e => by
            rcases e with e | e
            · omega
            · exact HLB.out _ e))
          clear hq hf2 hf3 hb2
          go_wp2_with fail
          go_quiet (fail)
          go_wp2
          go_roundw
          case rel => exact ⟨f', y0, y4, L ++ [⟨y0, y1, y2, y3, y4⟩], rfl, rfl, by omega, by omega, hvp, by obtain ⟨v', hv', ho'⟩ := HQ.out; exact ⟨v', hv', ho'⟩, by rw [List.append_assoc]; exact HCH.out, HF2.out.drewN _⟩
          case measure => simp only [intOf]; omega
        · have hcl' : isCl bs x = false := by simpa using hcl
          rw [chain_end bs f lim x (fun e => hcl e.2.2), List.append_nil] at hch
          rw [clv_none hcl', hcl'] at hr
          simp only [clval] at hr
          have HRR := Lib.hid hr
          have HCH := Lib.hid hch
          clear hr hcl hcl' hch
          go_wp2_with fail
          refine HRR.out.mono ?_
          rintro e w1 ⟨rfl, hf1⟩
          have hfa := hf1.alloc (.cells #[.int .i64 0, .int .i64 0, .int .i64 0, .int .i64 0, .int .i64 0] 142)
          have HF1 := Lib.hid (HF.out.trans (Fr.some hfa fun _ e => e.elim))
          obtain ⟨v, hv, ho⟩ := HCF.out
          have HC1 := Lib.hid (show InVar _ vb t L from ⟨v, hfa.obj hv id, hfa.owns ho (fun _ _ => id)⟩)
          clear hf1 hfa hv ho
          go_wp2_with fail
          (try simp only [Exit.inBlock, Exit.then])
          refine bodyPost_ret (results_none rfl _ _ _) rfl ⟨rfl, by rw [← HCH.out]; exact HC1.out, HF1.out⟩
      · rw [chain_end bs f lim x (fun e => hl e.2.1), List.append_nil] at hch
        have HCH := Lib.hid hch
        clear hch
        go_wp2_with fail
        go_end0
        exact ⟨rfl, by rw [← HCH.out]; exact HCF.out, HF.out⟩
    · rw [chain_end bs f lim x (fun e => hx e.1), List.append_nil] at hch
      have HCH := Lib.hid hch
      clear hch
      go_wp2_with fail
      go_end0
      exact ⟨rfl, by rw [← HCH.out]; exact HCF.out, HF.out⟩
end Go.Proofs.Ytajeiccfgnpbpaa.Mem
