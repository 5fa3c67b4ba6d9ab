/- Contracts of package class: each, Is. -/
import Derived.Test.YtajeiccfgnpbpaaClsA
namespace Go.Proofs.Ytajeiccfgnpbpaa.Mem
open Go.RowKit

set_option maxRecDepth 100000 in
set_option maxHeartbeats 1000000 in
/-- The closure of Is: it says whether to go on, and keeps in its variable whether this class is at the place. -/
theorem is1_any (ca cf : Nat) (c : Cl) (a : Int) (fv : Value) (t : TypeId) (w : World) (h1 : w.cell? ⟨ca, 0, none⟩ = some (.int .i64 a)) (h2 : w.heap[cf]? = some (.cells #[fv] t (0, 0))) (hne : ca ≠ cf) :
    Calls Try.prog 80 #[clval c, .pointer (some ⟨ca, 0, none⟩), .pointer (some ⟨cf, 0, none⟩)] w
      fun e w' => e = .returned (.bool (!(c.a == a))) ∧ w'.heap[cf]? = some (.cells #[.bool (c.a == a)] t (0, 0)) ∧ Fr (fun j => j = cf) w w' := by
  obtain ⟨y0, y1, y2, y3, y4⟩ := c
  unfold clval
  dsimp only
  have hl := lt_of_block h2
  have hc := cell_of_one h2
  have hfz := frozen_of_row w cf 0 _ _ h2
  have HB := Lib.hid ((Below.heap_alloc w (.cells #[.int .i64 y0, .int .i64 y1, .int .i64 y2, .int .i64 y3, .int .i64 y4] 142) _ hl).trans h2)
  have hcF := cell_of_one HB.out
  have hfF := frozen_of_row _ cf 0 _ _ HB.out
  have hcA := ((Fr.refl (fun _ => False) w).alloc (.cells #[.int .i64 y0, .int .i64 y1, .int .i64 y2, .int .i64 y3, .int .i64 y4] 142)).cell h1 id
  have hL : ∀ v : Value, ((w.setCell ⟨cf, 0, none⟩ v).alloc (.cells #[.int .i64 y0, .int .i64 y1, .int .i64 y2, .int .i64 y3, .int .i64 y4] 142)).heap[cf]? = some (.cells #[v] t (0, 0)) := fun v => by
    rw [Below.heap_alloc _ _ _ (by simpa [World.setCell] using hl)]
    exact heap_setCell_same w cf 0 _ _ v h2
  have HL := Lib.hid hL
  clear hL h2 h1 hc hfz
  cases hb : (y0 == a)
  all_goals
    have hq1 := cell_of_one (HL.out (.bool true))
    have hq2 := cell_of_one (HL.out (.bool false))
    go_enter Try.func80, Try.ntmps80
    go_wp2_with fail
    go_ret
    exact ⟨rfl, HL.out _, (Fr.setOne (p := cf) (Fr.refl _ _) _ _).alloc _⟩

set_option maxRecDepth 100000 in
set_option maxHeartbeats 4000000 in
theorem eachIs_any (p g ca cf : Nat) (bs : List UInt8) (root a : Int) (t : TypeId) (w : World) (h : Mat 108 w p g bs)
    (h1 : w.cell? ⟨ca, 0, none⟩ = some (.int .i64 a)) (h2 : w.heap[cf]? = some (.cells #[.bool false] t (0, 0))) (hne : ca ≠ cf) (hpf : p ≠ cf) (hgf : g ≠ cf) :
    Calls Try.prog 79 #[.pointer (some ⟨p, 0, none⟩), .int .i64 root, .func (.func 80) #[] #[.pointer (some ⟨ca, 0, none⟩), .pointer (some ⟨cf, 0, none⟩)]] w
      fun e w' => e = .returned (.tuple #[]) ∧ w'.heap[cf]? = some (.cells #[.bool (isIn bs root a)] t (0, 0)) ∧ Fr (fun j => j = cf) w w' := by
  have HS := Lib.hid (size_any p g bs w h)
  have HC := Lib.hid (cell_any p g bs root w h)
  have HR := Lib.hid (fun x w h hx => cread_any p g bs x w h hx)
  have H := Lib.hid h
  have hbl := h.2.2.2
  have hx0 := cell_bd' bs root
  have HI := Lib.hid (show chainIs bs a (bs.length + 1) bs.length (cell bs root).1 = isIn bs root a from rfl)
  obtain ⟨n, hn⟩ : ∃ n, bs.length = n := ⟨_, rfl⟩
  obtain ⟨⟨x0, d0⟩, hc⟩ : ∃ r, cell bs root = r := ⟨_, rfl⟩
  obtain ⟨res, hres⟩ : ∃ r, isIn bs root a = r := ⟨_, rfl⟩
  rw [hn, hc, hres] at HI
  rw [hn] at HS hbl
  rw [hc] at HC hx0
  rw [hres]
  dsimp only at hx0
  have H1 := Lib.hid h1
  have H2 := Lib.hid h2
  clear h hn hc hres h1 h2
  go_enter Try.func79, Try.ntmps79
  go_wp2_with (first | (go_at_call 51; refine HS.out.mono ?_; rintro e w' ⟨rfl, h0⟩; obtain rfl := h0.symm) | (go_at_call 46; refine HC.out.mono ?_; rintro e w' ⟨rfl, h0⟩; obtain rfl := h0.symm))
  go_loopw [6, 7] (fun lv xv wr => ∃ (f : Nat) (lim x : Int), lv = .int .i64 lim ∧ xv = .int .i64 x ∧ lim ≤ f ∧ lim ≤ 1048576 ∧ (-9223372036854775808 ≤ x ∧ x ≤ 9223372036854775807) ∧
    wr.heap[cf]? = some (.cells #[.bool false] t (0, 0)) ∧ chainIs bs a f lim x = res ∧ Fr (fun j => j = cf) w wr) (fun lv _ _ => (intOf lv).toNat)
  case atStart => exact ⟨n + 1, n, x0, rfl, rfl, by omega, by omega, hx0, H2.out, HI.out, Fr.refl _ _⟩
  case round =>
    obtain ⟨f, lim, x, rfl, rfl, hf, hlm, hxb, hcf, hch, hF⟩ := hrel
    have HCF := Lib.hid hcf
    have HF := Lib.hid hF
    clear hcf hF
    by_cases hx : 0 < x
    · by_cases hl : x < lim
      · have hr := HR.out x _ (H.out.fr HF.out hpf hgf) hxb
        by_cases hcl : isCl bs x = true
        · obtain ⟨f', rfl⟩ : ∃ f', f = f' + 1 := ⟨f - 1, by omega⟩
          rw [chainIs, if_pos ⟨hx, hl, hcl⟩] at hch
          rw [hcl] at hr
          have hva : (clv bs x).a = x := by unfold clv; rw [if_pos hcl]
          have hvp := cell_bd' bs (x + 32)
          have hvq : (clv bs x).prev = (cell bs (x + 32)).1 := by unfold clv; rw [if_pos hcl]
          rw [← hvq] at hvp
          obtain ⟨⟨y0, y1, y2, y3, y4⟩, hy⟩ : ∃ y, clv bs x = y := ⟨_, rfl⟩
          rw [hy] at hr hch hva hvp
          dsimp only at hch hva hvp
          subst hva
          simp only [clval] at hr
          have HRR := Lib.hid hr
          clear hr hcl hy hvq
          go_wp2_with fail
          refine HRR.out.mono ?_
          rintro e w1 ⟨rfl, hf1⟩
          have HF1 := Lib.hid (HF.out.trans (Fr.some (hf1.alloc (.cells #[.int .i64 y0, .int .i64 y1, .int .i64 y2, .int .i64 y3, .int .i64 y4] 142)) fun _ e => e.elim))
          have HC1 := Lib.hid ((hf1.alloc (.cells #[.int .i64 y0, .int .i64 y1, .int .i64 y2, .int .i64 y3, .int .i64 y4] 142)).obj HCF.out id)
          have hsz1 := hf1.size
          have HB1 := Lib.hid (heap_alloc_last w1 (.cells #[.int .i64 y0, .int .i64 y1, .int .i64 y2, .int .i64 y3, .int .i64 y4] 142))
          clear hf1
          go_wp2_with fail
          have hk := is1_any ca cf ⟨y0, y1, y2, y3, y4⟩ a _ t _ (HF1.out.cell H1.out hne) HC1.out hne
          simp only [clval] at hk
          by_cases hya : y0 = a
          · have hyb : (y0 == a) = true := by simp [hya]
            rw [if_pos hya] at hch
            rw [hyb] at hk
            have HK := Lib.hid hk
            have HCH := Lib.hid hch
            clear hk hch hya
            refine HK.out.mono ?_
            rintro e w2 ⟨rfl, hq, hf2⟩
            have HQ := Lib.hid hq
            have HF2 := Lib.hid (HF1.out.trans hf2)
            clear hq hf2
            go_wp2_with fail
            (try simp only [Exit.inBlock, Exit.then])
            refine bodyPost_ret (results_none rfl _ _ _) rfl ⟨rfl, by rw [← HCH.out]; exact HQ.out, HF2.out⟩
          · have hyb : (y0 == a) = false := by simp [hya]
            rw [if_neg hya] at hch
            rw [hyb] at hk
            have HK := Lib.hid hk
            have HCH := Lib.hid hch
            clear hk hch hya
            refine HK.out.mono ?_
            rintro e w2 ⟨rfl, hq, hf2⟩
            have HQ := Lib.hid hq
            have HF2 := Lib.hid (HF1.out.trans hf2)
            have hb2 := hf2.obj HB1.out (by have := lt_of_block HCF.out; omega)
            obtain ⟨q0, q1, q2, q3, q4, _, _, _, _, _, ql⟩ := five_cells hb2
            clear hq hf2 hb2
            go_wp2_with fail
            go_quiet (fail)
            go_wp2
            go_roundw
            case rel => exact ⟨f', y0, y4, rfl, rfl, by omega, by omega, hvp, HQ.out, HCH.out, HF2.out.drewN _⟩
            case measure => simp only [intOf]; omega
        · have hcl' : isCl bs x = false := by simpa using hcl
          rw [chainIs_end bs a f lim x (fun e => hcl e.2.2)] at hch
          rw [clv_none hcl', hcl'] at hr
          simp only [clval] at hr
          have HRR := Lib.hid hr
          have HCH := Lib.hid hch
          clear hr hcl hcl' hch
          go_wp2_with fail
          refine HRR.out.mono ?_
          rintro e w1 ⟨rfl, hf1⟩
          have HF1 := Lib.hid (HF.out.trans (Fr.some (hf1.alloc (.cells #[.int .i64 0, .int .i64 0, .int .i64 0, .int .i64 0, .int .i64 0] 142)) fun _ e => e.elim))
          have HC1 := Lib.hid ((hf1.alloc (.cells #[.int .i64 0, .int .i64 0, .int .i64 0, .int .i64 0, .int .i64 0] 142)).obj HCF.out id)
          clear hf1
          go_wp2_with fail
          (try simp only [Exit.inBlock, Exit.then])
          refine bodyPost_ret (results_none rfl _ _ _) rfl ⟨rfl, by rw [← HCH.out]; exact HC1.out, HF1.out⟩
      · rw [chainIs_end bs a f lim x (fun e => hl e.2.1)] at hch
        have HCH := Lib.hid hch
        clear hch
        go_wp2_with fail
        go_end0
        exact ⟨rfl, by rw [← HCH.out]; exact HCF.out, HF.out⟩
    · rw [chainIs_end bs a f lim x (fun e => hx e.1)] at hch
      have HCH := Lib.hid hch
      clear hch
      go_wp2_with fail
      go_end0
      exact ⟨rfl, by rw [← HCH.out]; exact HCF.out, HF.out⟩

set_option maxRecDepth 100000 in
set_option maxHeartbeats 1000000 in
theorem is_any (p g : Nat) (bs : List UInt8) (root a : Int) (w : World) (h : Mat 108 w p g bs) :
    Calls Try.prog 27 #[.pointer (some ⟨p, 0, none⟩), .int .i64 root, .int .i64 a] w fun e w' => e = .returned (.bool (isIn bs root a)) ∧ Fr (fun _ => False) w w' := by
  have hmf : ∀ (fn : Fn) (first cap : Array Value) (w : World), (Instr.makeFunc fn first cap).run Try.prog w = .ok (.func fn first cap) w := fun _ _ _ _ => rfl
  have hF : Fr (fun _ => False) w ((w.alloc (.cells #[.int .i64 a] 2)).alloc (.cells #[.bool false] 4)) := ((Fr.refl _ _).alloc _).alloc _
  have hcl := two_new w (.int .i64 a) (.bool false) 2 4
  have hs : (w.alloc (.cells #[.int .i64 a] 2)).heap.size = w.heap.size + 1 := by simp
  have hb := heap_alloc_last (w.alloc (.cells #[.int .i64 a] 2)) (.cells #[.bool false] 4)
  rw [hs] at hb
  have hl := h.lt
  have HE := Lib.hid (eachIs_any p g w.heap.size (w.heap.size + 1) bs root a 4 _ (h.fr hF id id) hcl.1 hb (by omega) (by omega) (by omega))
  have HF := Lib.hid hF
  obtain ⟨res, hres⟩ : ∃ r, isIn bs root a = r := ⟨_, rfl⟩
  rw [hres] at HE ⊢
  clear h hF hcl hs hb hl hres
  go_enter Try.func27, Try.ntmps27
  go_wp2_with fail
  refine HE.out.mono ?_
  rintro e w1 ⟨rfl, hq, hf⟩
  have hq0 := cell_of_one hq
  have HF1 := Lib.hid (HF.out.after hf (S := fun _ => False) (fun k hk e => by omega))
  clear hq hf
  go_wp2_with fail
  go_ret
  exact ⟨rfl, HF1.out⟩
end Go.Proofs.Ytajeiccfgnpbpaa.Mem
