/- Several texts in one: TabE, TabF, TabG. -/
import Derived.Test.YtajeiccfgnpbpaaQd
import Derived.Deep.DeepCutAuto
import Derived.ArgAppend
set_option linter.unusedSimpArgs false
set_option linter.unusedVariables false
/- Contracts of package table: Put. -/
namespace Go.Proofs.Ytajeiccfgnpbpaa.Mem
open Go.RowKit

theorem size_of_info {P : Program} {t : TypeId} {n : Nat} (hi : (P.types[t]?).map (·.size) = some n) : ∀ h : t < P.types.size, (P.types[t]'h).size = n := by
  intro h
  rw [Array.getElem?_eq_getElem h] at hi
  simpa using hi

theorem run_index3 (x0 x1 x2 : Value) (i : Nat) (hi : i < 3) (w : World) : (Instr.index 122 (.agg #[x0, x1, x2]) (.int .i64 (i : Int))).run Try.prog w = .ok (#[x0, x1, x2][i]'hi) w := by
  have hsz := size_of_info (P := Try.prog) (t := 2) (n := 1) (by kernel_rfl)
  simp [Instr.index, run_underlying Try.underlying122, go_sem]
  rw [if_pos hi, List.getElem?_eq_getElem (by simpa using hi)]
  rfl

set_option maxRecDepth 100000 in
set_option maxHeartbeats 4000000 in
theorem put_any (p g : Nat) (bs : List UInt8) (t : Int) (x : Ent) (w : World) (h : Mat 108 w p g bs) :
    Calls Try.prog 19 #[.pointer (some ⟨p, 0, none⟩), .int .i64 t, entv x] w fun e w' => e = .returned (.int .i64 (putc bs t x)) ∧ Mat 108 w' p g (putb bs t x) ∧ Only g w w' := by
  have HS := Lib.hid (fun w h => search_any p g bs t x.sel w h)
  have HN := Lib.hid (fun w h => slots_any p g bs t w h)
  have H := Lib.hid h
  have HH := Lib.hid (h.fr (Fr.alloc (S := fun _ => False) (Fr.refl _ w) (.cells #[.int .i64 x.sel, .int .i64 x.xt, .int .i64 x.cls] 38)) id id)
  have hpl := @search_place bs t x.sel
  have hbl := h.2.2.2
  unfold putc putb entv
  obtain ⟨x0, x1, x2⟩ := x
  dsimp only at *
  have i0 : ∀ w, (Instr.index 122 (.agg #[.int .i64 x0, .int .i64 x1, .int .i64 x2]) (.int .i64 0)).run Try.prog w = .ok (.int .i64 x0) w := fun w => run_index3 _ _ _ 0 (by decide) w
  have i1 : ∀ w, (Instr.index 122 (.agg #[.int .i64 x0, .int .i64 x1, .int .i64 x2]) (.int .i64 1)).run Try.prog w = .ok (.int .i64 x1) w := fun w => run_index3 _ _ _ 1 (by decide) w
  have i2 : ∀ w, (Instr.index 122 (.agg #[.int .i64 x0, .int .i64 x1, .int .i64 x2]) (.int .i64 2)).run Try.prog w = .ok (.int .i64 x2) w := fun w => run_index3 _ _ _ 2 (by decide) w
  by_cases h1 : x0 < 1
  · rw [if_pos (.inl h1), if_pos (.inl h1)]
    clear hpl h
    go_enter Try.func19, Try.ntmps19
    go_wp2
    go_ret
    exact ⟨rfl, HH.out, Fr.alloc (Fr.refl _ _) _⟩
  · obtain ⟨s, hs⟩ : ∃ s, slots bs t = s := ⟨_, rfl⟩
    rw [hs] at HN ⊢
    by_cases h2 : s = 0
    · subst h2
      rw [if_pos (.inr rfl), if_pos (.inr rfl)]
      clear hpl h hs
      go_enter Try.func19, Try.ntmps19
      go_wp2_with (go_at_call 50; refine (HN.out _ HH.out).mono ?_; rintro e w' ⟨rfl, h0⟩; obtain rfl := h0.symm)
      go_ret
      exact ⟨rfl, HH.out, Fr.alloc (Fr.refl _ _) _⟩
    · have hc : ¬ (x0 < 1 ∨ s = 0) := by omega
      rw [if_neg hc, if_neg hc]
      have h2' : (s == 0) = false := by simp [h2]
      obtain ⟨⟨a, fo, em, n⟩, hh⟩ : ∃ r, search bs t x0 = r := ⟨_, rfl⟩
      rw [hh] at HS hpl ⊢
      simp only [hitv] at HS hpl ⊢
      by_cases h3 : fo = false ∧ em = false
      · rw [if_pos h3, if_pos h3]
        obtain ⟨rfl, rfl⟩ := h3
        clear hpl h hs hh h2
        go_enter Try.func19, Try.ntmps19
        go_wp2_with (first | (go_at_call 50; refine (HN.out _ HH.out).mono ?_; rintro e w' ⟨rfl, h0⟩; obtain rfl := h0.symm) | (go_at_call 63; refine (HS.out _ HH.out).mono ?_; rintro e w1 ⟨rfl, hf⟩; have HF1 := Lib.hid ((Fr.alloc (S := fun _ => False) (Fr.refl _ _) _).trans hf); clear hf))
        go_ret
        exact ⟨rfl, H.out.fr (HF1.out.alloc _) id id, Fr.some (HF1.out.alloc _) fun _ e => e.elim⟩
      · rw [if_neg h3, if_neg h3]
        have hpb := hpl (by cases fo <;> cases em <;> simp at h3 ⊢)
        have HC := Lib.hid (fun cs a n w h => setCell_any p g cs a n w h)
        have HG := Lib.hid h.lt.2
        have hab : 0 ≤ a ∧ a ≤ 1048576 ∧ 0 ≤ t ∧ t ≤ 1048576 := by omega
        clear hpl h hs hh h2 hpb
        cases em with
        | false =>
          obtain rfl : fo = true := by cases fo <;> simp at h3 ⊢
          clear h3
          rw [if_neg (by decide)]
          go_enter Try.func19, Try.ntmps19
          go_wp2_with (first | (go_at_call 50; refine (HN.out _ HH.out).mono ?_; rintro e w' ⟨rfl, h0⟩; obtain rfl := h0.symm) | (go_at_call 63; refine (HS.out _ HH.out).mono ?_; rintro e w1 ⟨rfl, hf⟩; obtain ⟨q0, q1, q2, _, _, _, hl1⟩ := three_cells (hf.obj (heap_alloc_last _ _) id); have HF1 := Lib.hid ((Fr.alloc (S := fun _ => False) (Fr.refl _ _) _).trans hf); clear hf))
          have hW : ∀ wr, Only g (w1.alloc (.cells #[.int .i64 a, .bool true, .bool false, .int .i64 n] 120)) wr → wr.cell? ⟨w1.heap.size, 0, none⟩ = some (.int .i64 a) ∧ wr.cell? ⟨w1.heap.size, 2, none⟩ = some (.bool false) := fun wr hF => by
            have ho := hF.obj (heap_alloc_last w1 _) (by have := HG.out; omega)
            exact ⟨by rw [cell_of_row wr _ _ _ _ _ ho]; rfl, by rw [cell_of_row wr _ _ _ _ _ ho]; rfl⟩
          have HW := Lib.hid hW
          clear hW q0 q1 q2
          go_loopw [41] (fun iv wr => ∃ k : Nat, k ≤ 3 ∧ iv = .int .i64 k ∧ Mat 108 wr p g (put3 bs a ⟨x0, x1, x2⟩ k) ∧ Only g (w1.alloc (.cells #[.int .i64 a, .bool true, .bool false, .int .i64 n] 120)) wr) (fun iv _ => 3 - (intOf iv).toNat)
          case atStart => exact ⟨0, by omega, rfl, H.out.fr (HF1.out.alloc _) id id, Fr.refl _ _⟩
          case round =>
            obtain ⟨k, hk, hiv, hM, hF⟩ := hrel
            obtain ⟨k0, k2⟩ := HW.out _ hF
            have HM := Lib.hid hM
            have HF := Lib.hid hF
            clear hM hF
            rcases (by omega : k = 0 ∨ k = 1 ∨ k = 2 ∨ k = 3) with rfl | rfl | rfl | rfl
            · have hiv : u41 = .int .i64 0 := hiv
              subst hiv
              go_wp2_with (go_at_call 15; refine (HC.out _ _ _ _ HM.out).mono ?_; rintro e w2 ⟨rfl, hm, hf⟩; have HM2 := Lib.hid hm; have HF2 := Lib.hid hf; clear hm hf)
              go_roundw
              case rel => exact ⟨1, by omega, by go_num, HM2.out, HF.out.trans HF2.out⟩
              case measure => simp [intOf]
            · have hiv : u41 = .int .i64 1 := hiv
              subst hiv
              go_wp2_with (go_at_call 15; refine (HC.out _ _ _ _ HM.out).mono ?_; rintro e w2 ⟨rfl, hm, hf⟩; have HM2 := Lib.hid hm; have HF2 := Lib.hid hf; clear hm hf)
              go_roundw
              case rel => exact ⟨2, by omega, by go_num, HM2.out, HF.out.trans HF2.out⟩
              case measure => simp [intOf]
            · have hiv : u41 = .int .i64 2 := hiv
              subst hiv
              go_wp2_with (go_at_call 15; refine (HC.out _ _ _ _ HM.out).mono ?_; rintro e w2 ⟨rfl, hm, hf⟩; have HM2 := Lib.hid hm; have HF2 := Lib.hid hf; clear hm hf)
              go_roundw
              case rel => exact ⟨3, by omega, by go_num, HM2.out, HF.out.trans HF2.out⟩
              case measure => simp [intOf]
            · have hiv : u41 = .int .i64 3 := hiv
              subst hiv
              go_wp2
              go_ret
              exact ⟨rfl, HM.out, Fr.trans (Fr.some (HF1.out.alloc _) fun _ e => e.elim) HF.out⟩
        | true =>
          rw [if_pos rfl]
          clear h3
          obtain ⟨c, hc2⟩ : ∃ c, cell (put3 bs a ⟨x0, x1, x2⟩ 3) (t + 8) = c := ⟨_, rfl⟩
          have HG2 := Lib.hid (fun w h => cell_any p g (put3 bs a ⟨x0, x1, x2⟩ 3) (t + 8) w h)
          rw [hc2] at HG2 ⊢
          clear hc2
          cases fo
          · go_enter Try.func19, Try.ntmps19
            go_wp2_with (first | (go_at_call 50; refine (HN.out _ HH.out).mono ?_; rintro e w' ⟨rfl, h0⟩; obtain rfl := h0.symm) | (go_at_call 63; refine (HS.out _ HH.out).mono ?_; rintro e w1 ⟨rfl, hf⟩; obtain ⟨q0, q1, q2, _, _, _, hl1⟩ := three_cells (hf.obj (heap_alloc_last _ _) id); have HF1 := Lib.hid ((Fr.alloc (S := fun _ => False) (Fr.refl _ _) _).trans hf); clear hf))
            have hW : ∀ wr, Only g (w1.alloc (.cells #[.int .i64 a, .bool false, .bool true, .int .i64 n] 120)) wr → wr.cell? ⟨w1.heap.size, 0, none⟩ = some (.int .i64 a) ∧ wr.cell? ⟨w1.heap.size, 2, none⟩ = some (.bool true) := fun wr hF => by
              have ho := hF.obj (heap_alloc_last w1 _) (by have := HG.out; omega)
              exact ⟨by rw [cell_of_row wr _ _ _ _ _ ho]; rfl, by rw [cell_of_row wr _ _ _ _ _ ho]; rfl⟩
            have HW := Lib.hid hW
            clear hW q0 q1 q2
            go_loopw [41] (fun iv wr => ∃ k : Nat, k ≤ 3 ∧ iv = .int .i64 k ∧ Mat 108 wr p g (put3 bs a ⟨x0, x1, x2⟩ k) ∧ Only g (w1.alloc (.cells #[.int .i64 a, .bool false, .bool true, .int .i64 n] 120)) wr) (fun iv _ => 3 - (intOf iv).toNat)
            case atStart => exact ⟨0, by omega, rfl, H.out.fr (HF1.out.alloc _) id id, Fr.refl _ _⟩
            case round =>
              obtain ⟨k, hk, hiv, hM, hF⟩ := hrel
              obtain ⟨k0, k2⟩ := HW.out _ hF
              have HM := Lib.hid hM
              have HF := Lib.hid hF
              clear hM hF
              rcases (by omega : k = 0 ∨ k = 1 ∨ k = 2 ∨ k = 3) with rfl | rfl | rfl | rfl
              · have hiv : u41 = .int .i64 0 := hiv
                subst hiv
                go_wp2_with (go_at_call 15; refine (HC.out _ _ _ _ HM.out).mono ?_; rintro e w2 ⟨rfl, hm, hf⟩; have HM2 := Lib.hid hm; have HF2 := Lib.hid hf; clear hm hf)
                go_roundw
                case rel => exact ⟨1, by omega, by go_num, HM2.out, HF.out.trans HF2.out⟩
                case measure => simp [intOf]
              · have hiv : u41 = .int .i64 1 := hiv
                subst hiv
                go_wp2_with (go_at_call 15; refine (HC.out _ _ _ _ HM.out).mono ?_; rintro e w2 ⟨rfl, hm, hf⟩; have HM2 := Lib.hid hm; have HF2 := Lib.hid hf; clear hm hf)
                go_roundw
                case rel => exact ⟨2, by omega, by go_num, HM2.out, HF.out.trans HF2.out⟩
                case measure => simp [intOf]
              · have hiv : u41 = .int .i64 2 := hiv
                subst hiv
                go_wp2_with (go_at_call 15; refine (HC.out _ _ _ _ HM.out).mono ?_; rintro e w2 ⟨rfl, hm, hf⟩; have HM2 := Lib.hid hm; have HF2 := Lib.hid hf; clear hm hf)
                go_roundw
                case rel => exact ⟨3, by omega, by go_num, HM2.out, HF.out.trans HF2.out⟩
                case measure => simp [intOf]
              · have hiv : u41 = .int .i64 3 := hiv
                subst hiv
                go_wp2_with (first | (go_at_call 46; refine (HG2.out _ HM.out).mono ?_; rintro e w' ⟨rfl, h0⟩; obtain rfl := h0.symm) | (go_at_call 15; refine (HC.out _ _ _ _ HM.out).mono ?_; rintro e w2 ⟨rfl, hm, hf⟩; have HM2 := Lib.hid hm; have HF2 := Lib.hid hf; clear hm hf))
                go_ret
                exact ⟨rfl, HM2.out, Fr.trans (Fr.some (HF1.out.alloc _) fun _ e => e.elim) (HF.out.trans HF2.out)⟩
          · go_enter Try.func19, Try.ntmps19
            go_wp2_with (first | (go_at_call 50; refine (HN.out _ HH.out).mono ?_; rintro e w' ⟨rfl, h0⟩; obtain rfl := h0.symm) | (go_at_call 63; refine (HS.out _ HH.out).mono ?_; rintro e w1 ⟨rfl, hf⟩; obtain ⟨q0, q1, q2, _, _, _, hl1⟩ := three_cells (hf.obj (heap_alloc_last _ _) id); have HF1 := Lib.hid ((Fr.alloc (S := fun _ => False) (Fr.refl _ _) _).trans hf); clear hf))
            have hW : ∀ wr, Only g (w1.alloc (.cells #[.int .i64 a, .bool true, .bool true, .int .i64 n] 120)) wr → wr.cell? ⟨w1.heap.size, 0, none⟩ = some (.int .i64 a) ∧ wr.cell? ⟨w1.heap.size, 2, none⟩ = some (.bool true) := fun wr hF => by
              have ho := hF.obj (heap_alloc_last w1 _) (by have := HG.out; omega)
              exact ⟨by rw [cell_of_row wr _ _ _ _ _ ho]; rfl, by rw [cell_of_row wr _ _ _ _ _ ho]; rfl⟩
            have HW := Lib.hid hW
            clear hW q0 q1 q2
            go_loopw [41] (fun iv wr => ∃ k : Nat, k ≤ 3 ∧ iv = .int .i64 k ∧ Mat 108 wr p g (put3 bs a ⟨x0, x1, x2⟩ k) ∧ Only g (w1.alloc (.cells #[.int .i64 a, .bool true, .bool true, .int .i64 n] 120)) wr) (fun iv _ => 3 - (intOf iv).toNat)
            case atStart => exact ⟨0, by omega, rfl, H.out.fr (HF1.out.alloc _) id id, Fr.refl _ _⟩
            case round =>
              obtain ⟨k, hk, hiv, hM, hF⟩ := hrel
              obtain ⟨k0, k2⟩ := HW.out _ hF
              have HM := Lib.hid hM
              have HF := Lib.hid hF
              clear hM hF
              rcases (by omega : k = 0 ∨ k = 1 ∨ k = 2 ∨ k = 3) with rfl | rfl | rfl | rfl
              · have hiv : u41 = .int .i64 0 := hiv
                subst hiv
                go_wp2_with (go_at_call 15; refine (HC.out _ _ _ _ HM.out).mono ?_; rintro e w2 ⟨rfl, hm, hf⟩; have HM2 := Lib.hid hm; have HF2 := Lib.hid hf; clear hm hf)
                go_roundw
                case rel => exact ⟨1, by omega, by go_num, HM2.out, HF.out.trans HF2.out⟩
                case measure => simp [intOf]
              · have hiv : u41 = .int .i64 1 := hiv
                subst hiv
                go_wp2_with (go_at_call 15; refine (HC.out _ _ _ _ HM.out).mono ?_; rintro e w2 ⟨rfl, hm, hf⟩; have HM2 := Lib.hid hm; have HF2 := Lib.hid hf; clear hm hf)
                go_roundw
                case rel => exact ⟨2, by omega, by go_num, HM2.out, HF.out.trans HF2.out⟩
                case measure => simp [intOf]
              · have hiv : u41 = .int .i64 2 := hiv
                subst hiv
                go_wp2_with (go_at_call 15; refine (HC.out _ _ _ _ HM.out).mono ?_; rintro e w2 ⟨rfl, hm, hf⟩; have HM2 := Lib.hid hm; have HF2 := Lib.hid hf; clear hm hf)
                go_roundw
                case rel => exact ⟨3, by omega, by go_num, HM2.out, HF.out.trans HF2.out⟩
                case measure => simp [intOf]
              · have hiv : u41 = .int .i64 3 := hiv
                subst hiv
                go_wp2_with (first | (go_at_call 46; refine (HG2.out _ HM.out).mono ?_; rintro e w' ⟨rfl, h0⟩; obtain rfl := h0.symm) | (go_at_call 15; refine (HC.out _ _ _ _ HM.out).mono ?_; rintro e w2 ⟨rfl, hm, hf⟩; have HM2 := Lib.hid hm; have HF2 := Lib.hid hf; clear hm hf))
                go_ret
                exact ⟨rfl, HM2.out, Fr.trans (Fr.some (HF1.out.alloc _) fun _ e => e.elim) (HF.out.trans HF2.out)⟩
end Go.Proofs.Ytajeiccfgnpbpaa.Mem

/- Contracts of package table: Copy. -/
namespace Go.Proofs.Ytajeiccfgnpbpaa.Mem
open Go.RowKit

theorem newv_inv (z x : Nat) (bs : List UInt8) (n : Int) (h : x ≤ z) : x ≤ (newv z x bs n).2.1 ∧ (newv z x bs n).2.1 ≤ z ∧ (x % 8 = 0 → (newv z x bs n).2.1 % 8 = 0) ∧ (newv z x bs n).2.2.length = bs.length := by
  unfold newv
  have := layt_inv z x bs n.toNat h
  split
  · split
    · exact ⟨this.1, this.2.1, fun e => by have := this.2.2.1; dsimp only; omega, this.2.2.2⟩
    · exact ⟨Nat.le_refl _, h, id, this.2.2.2⟩
  · exact ⟨Nat.le_refl _, h, id, rfl⟩

/-- What Copy tells, where allocation stands then, and the bytes. -/
def copyv (z x : Nat) (bs : List UInt8) (t : Int) : (Int × Int) × Nat × List UInt8 :=
  if (newv z x bs (slots bs t)).1.2 = 0 then (((newv z x bs (slots bs t)).1.1, 0), (newv z x bs (slots bs t)).2.1, sett (newv z x bs (slots bs t)).2.2 (newv z x bs (slots bs t)).1.1 (txt (newv z x bs (slots bs t)).2.2 t (16 + slots bs t * 24)).1)
  else ((0, (newv z x bs (slots bs t)).1.2), (newv z x bs (slots bs t)).2.1, (newv z x bs (slots bs t)).2.2)

set_option maxRecDepth 100000 in
set_option maxHeartbeats 2000000 in
theorem tcopy_any (b p g a z x : Nat) (t : Int) (bs : List UInt8) (w : World) (h : Sat w b p g a z x bs) (h8 : x % 8 = 0) :
    Calls Try.prog 13 #[.pointer (some ⟨b, 0, none⟩), .int .i64 t] w
      fun e w' => e = .returned (.tuple #[.int .i64 (copyv z x bs t).1.1, .int .i64 (copyv z x bs t).1.2]) ∧ Sat w' b p g a z (copyv z x bs t).2.1 (copyv z x bs t).2.2 ∧ Both b g w w' := by
  have H := Lib.hid h
  have HS := Lib.hid (slots_any p g bs t w h.mat)
  have hsb := slots_bd bs t
  have hinv := newv_inv z x bs (slots bs t) h.bd.2.1
  have hbd := h.bd
  have hc0 := h.cells.1
  unfold copyv
  obtain ⟨n, hn⟩ : ∃ n, slots bs t = n := ⟨_, rfl⟩
  rw [hn] at HS hsb hinv ⊢
  have HN := Lib.hid (tnew_any b p g a z x n bs w h h8)
  obtain ⟨⟨⟨c, e0⟩, y, cs⟩, hr⟩ : ∃ r, newv z x bs n = r := ⟨_, rfl⟩
  rw [hr] at HN hinv ⊢
  dsimp only at *
  have HZ := Lib.hid (fun w => tsize_any n (by omega) w)
  have HT := Lib.hid (fun w h => text_any p g cs t (16 + n * 24) w h (by omega) (by omega))
  have hcl : cs.length ≤ 1048576 := by omega
  have htl := txt_length cs t (16 + n * 24)
  obtain ⟨⟨tx, e1⟩, ht⟩ : ∃ r, txt cs t (16 + n * 24) = r := ⟨_, rfl⟩
  rw [ht] at HT htl ⊢
  dsimp only at *
  have hsz : (ByteArray.mk tx.toArray).size ≤ 1048576 := by
    have : (ByteArray.mk tx.toArray).size = tx.length := by simp [ByteArray.size]
    omega
  have HX := Lib.hid (fun w h => setText_any p g cs c ⟨tx.toArray⟩ w h hsz)
  have hl : (ByteArray.mk tx.toArray).data.toList = tx := by simp
  rw [hl] at HX
  have HSL := Lib.hid (sett_length cs c tx)
  obtain ⟨st, hst⟩ : ∃ st : ByteArray, ⟨tx.toArray⟩ = st := ⟨_, rfl⟩
  rw [hst] at HX HT
  clear h hn hr ht hinv hbd htl hsz hl hst hcl
  by_cases hz : e0 = 0
  · subst hz
    rw [if_pos rfl]
    go_enter Try.func13, Try.ntmps13
    go_wp2_with (first | (go_at_call 50; refine HS.out.mono ?_; rintro e w' ⟨rfl, h0⟩; obtain rfl := h0.symm) | (go_at_call 17; refine HN.out.mono ?_; rintro e w1 ⟨rfl, hs, hf⟩; obtain ⟨q0, _, _, _⟩ := hs.cells; have HS1 := Lib.hid hs; have HF1 := Lib.hid hf; clear hs hf))
    go_region_with (first | (go_at_call 53; refine (HZ.out _).mono ?_; rintro e w' ⟨rfl, h0⟩; obtain rfl := h0.symm) | (go_at_call 52; refine (HT.out _ (Mat.drew HS1.out.mat)).mono ?_; rintro e w' ⟨rfl, h0⟩; obtain rfl := h0.symm))
    all_goals
      go_wp2_with (go_at_call 44; refine (HX.out _ (Mat.drew HS1.out.mat)).mono ?_; rintro e w2 ⟨rfl, hm, hf⟩; have HM2 := Lib.hid hm; have HF2 := Lib.hid (Fr.undrew hf); clear hm hf)
      go_ret2
      exact ⟨rfl, HS1.out.wrote HF2.out HM2.out HSL.out, HF1.out.trans (Fr.some HF2.out fun _ e => .inr e)⟩
  · rw [if_neg hz]
    have hz' : (e0 != 0) = true := by simp [hz]
    go_enter Try.func13, Try.ntmps13
    go_wp2_with (first | (go_at_call 50; refine HS.out.mono ?_; rintro e w' ⟨rfl, h0⟩; obtain rfl := h0.symm) | (go_at_call 17; refine HN.out.mono ?_; rintro e w1 ⟨rfl, hs, hf⟩; have HS1 := Lib.hid hs; have HF1 := Lib.hid hf; clear hs hf))
    go_ret2
    exact ⟨rfl, HS1.out, HF1.out⟩
end Go.Proofs.Ytajeiccfgnpbpaa.Mem

/- Contracts of package table: All. -/
namespace Go.Proofs.Ytajeiccfgnpbpaa.Mem
open Go.RowKit

theorem infoEnt : (Try.prog.info? 38).map (fun i => (i.zero, i.size, i.bytes)) = some (some (.agg #[.int .i64 0, .int .i64 0, .int .i64 0]), 3, 24) := by kernel_rfl

theorem cell_three_new (w : World) (x y z : Value) (t : TypeId) : ∀ j u, [x, y, z][j]? = some u → (w.alloc (.cells #[x, y, z] t)).cell? ((⟨w.heap.size, 0, none⟩ : Addr).add j) = some u := by
  intro j u hu
  obtain ⟨h0, h1, h2, _⟩ := three_cells (heap_alloc_last w (.cells #[x, y, z] t))
  have hp : ((⟨w.heap.size, 0, none⟩ : Addr).add j) = ⟨w.heap.size, j, none⟩ := by unfold Addr.add; split <;> simp_all
  rw [hp]
  match j, hu with
  | 0, hu => rw [h0]; exact hu
  | 1, hu => rw [h1]; exact hu
  | 2, hu => rw [h2]; exact hu

theorem cell_three_new2 (w : World) (o : Obj) (x y z : Value) (t : TypeId) : ∀ j u, [x, y, z][j]? = some u → ((w.alloc o).alloc (.cells #[x, y, z] t)).cell? ((⟨w.heap.size + 1, 0, none⟩ : Addr).add j) = some u := by
  have h := cell_three_new (w.alloc o) x y z t
  have hs : (w.alloc o).heap.size = w.heap.size + 1 := by simp
  rw [hs] at h
  exact h

set_option maxRecDepth 100000 in
set_option maxHeartbeats 2000000 in
theorem all_any (p g : Nat) (bs : List UInt8) (t : Int) (w : World) (h : Mat 108 w p g bs) :
    Calls Try.prog 73 #[.pointer (some ⟨p, 0, none⟩), .int .i64 t] w
      fun e w' => ∃ v, e = .returned v ∧ w'.ownsRow w.heap.size 38 3 v (all bs t).length (ents (all bs t)) ∧ Fr (fun _ => False) w w' := by
  obtain ⟨i0, hi, hz0, hz1, hz2⟩ := info_parts infoEnt
  have HI := Lib.hid hi
  have HZ := Lib.hid (And.intro hz0 (And.intro hz1 hz2))
  clear hi hz0 hz1 hz2
  have HS := Lib.hid (slots_any p g bs t w h)
  have H := Lib.hid h
  have hsb := slots_bd bs t
  have hin := @slots_in bs t
  have hbl := h.2.2.2
  unfold all
  obtain ⟨n, hn⟩ : ∃ n : Nat, slots bs t = n := ⟨(slots bs t).toNat, by omega⟩
  rw [hn] at HS hsb hin ⊢
  rw [Int.toNat_natCast]
  have HR := Lib.hid (fun a w h ha => read_any p g bs a w h ha)
  have HL := Lib.hid (fun i w hi => slot_any t i hi w)
  have HIn := Lib.hid hin
  have hnb : n ≤ 1024 := by omega
  clear h hn hin hsb
  go_enter Try.func73, Try.ntmps73
  go_wp2_with (go_at_call 50; refine HS.out.mono ?_; rintro e w' ⟨rfl, h0⟩; obtain rfl := h0.symm)
  go_loopw [5, 11] (fun v iv wr => ∃ k : Nat, k ≤ n ∧ iv = .int .i64 k ∧ wr.ownsRow w.heap.size 38 3 v (allk bs t k).length (ents (allk bs t k)) ∧ Fr (fun _ => False) w wr) (fun _ iv _ => n - (intOf iv).toNat)
  case atStart => exact ⟨0, by omega, rfl, World.ownsRow_nil _ _ _ _, Fr.refl _ _⟩
  case round =>
    obtain ⟨k, hk, rfl, hO, hF⟩ := hrel
    have hal := allk_length bs t k
    have HO := Lib.hid hO
    have HF := Lib.hid hF
    have HK := Lib.hid (show allk bs t (k + 1) = if (read bs (slotAt t k)).sel = 0 then allk bs t k else allk bs t k ++ [read bs (slotAt t k)] from rfl)
    clear hO hF
    obtain ⟨L, hL⟩ : ∃ L, allk bs t k = L := ⟨_, rfl⟩
    rw [hL] at HO HK hal
    have HLL := Lib.hid hL
    clear hL
    by_cases hlt : k < n
    · have hin := HIn.out (by omega)
      have HL2 := Lib.hid (fun w => HL.out k w (by omega))
      have hsb : 0 ≤ slotAt t k ∧ slotAt t k ≤ 1048576000 := by unfold slotAt; omega
      obtain ⟨s, hs⟩ : ∃ s, slotAt t (k : Int) = s := ⟨_, rfl⟩
      rw [hs] at HL2 HK hsb
      have HR2 := Lib.hid (fun w h => HR.out s w h hsb)
      obtain ⟨⟨r0, r1, r2⟩, hr⟩ : ∃ r, read bs s = r := ⟨_, rfl⟩
      rw [hr] at HR2 HK
      dsimp only at HR2 HK
      clear hs hr hin hsb
      by_cases hz : r0 = 0
      · rw [if_pos hz] at HK
        subst hz
        go_wp2_with (first | (go_at_call 105; refine (HL2.out _).mono ?_; rintro e w' ⟨rfl, h0⟩; obtain rfl := h0.symm) | (go_at_call 106; refine (HR2.out _ (H.out.fr HF.out id id)).mono ?_; rintro e w1 ⟨rfl, hf⟩; have HF1 := Lib.hid hf; clear hf))
        go_roundw
        case rel => exact ⟨k + 1, by omega, by go_num, by rw [HK.out]; exact (HF1.out.owns HO.out (fun _ _ => id)).alloc _, (HF.out.trans HF1.out).alloc _⟩
        case measure => simp only [intOf]; omega
      · rw [if_neg hz] at HK
        have hz' : (r0 != 0) = true := by simp [hz]
        clear hz
        go_wp2_with (first | (go_at_call 105; refine (HL2.out _).mono ?_; rintro e w' ⟨rfl, h0⟩; obtain rfl := h0.symm) | (go_at_call 106; refine (HR2.out _ (H.out.fr HF.out id id)).mono ?_; rintro e w1 ⟨rfl, hf⟩; have HF1 := Lib.hid hf; have hls := (HF.out.trans hf).size; have HT := Lib.hid (cell_three_new2 w1 (.cells #[.int .i64 r0, .int .i64 r1, .int .i64 r2] 38) (.int .i64 r0) (.int .i64 r1) (.int .i64 r2) 38); clear hf) | (at_builtin; refine wpList_append_own _ rfl (.tmp 22) (.tmp 24) 134 rfl w.heap.size 38 i0 _ 3 24 Try.underlying134 HI.out HZ.out.1 HZ.out.2.1 HZ.out.2.2 rfl (by decide) _ L.length (ents L) rfl (((HF1.out.owns HO.out (fun _ _ => id)).alloc _).alloc _) ⟨_, 0, none⟩ 1 1 [.int .i64 r0, .int .i64 r1, .int .i64 r2] rfl rfl HT.out (by simp [Value.oneCell']) (by unfold maxLen; omega) (by omega) (by simp; omega) ?_; intro v2 w3 hown2 hgrow2 _; have HV2 := Lib.hid hown2; have HF3 := Lib.hid (Fr.grown (((HF.out.trans HF1.out).alloc _).alloc _) hgrow2 (fun j hj => .inl (HO.out.lt j hj).1)); clear hown2 hgrow2))
        go_roundw
        case rel => exact ⟨k + 1, by omega, by go_num, by rw [HK.out, ents_snoc, List.length_append]; exact HV2.out, HF3.out⟩
        case measure => simp only [intOf]; omega
    · obtain rfl : k = n := by omega
      go_wp2
      go_ret
      exact ⟨_, rfl, by rw [HLL.out]; exact HO.out, HF.out⟩
end Go.Proofs.Ytajeiccfgnpbpaa.Mem
