/- Several texts in one: TabB, TabC, TabD. -/
import Derived.Test.YtajeiccfgnpbpaaQc
set_option linter.unusedSimpArgs false
set_option linter.unusedVariables false
/- Contracts of package table: the search. -/
namespace Go.Proofs.Ytajeiccfgnpbpaa.Mem
open Go.RowKit

/-- How a search ends, as a value. -/
def hitv (h : Hit) : Value := .agg #[.int .i64 h.at', .bool h.found, .bool h.empty, .int .i64 h.seen]

set_option maxRecDepth 100000 in
set_option maxHeartbeats 2000000 in
theorem search_any (p g : Nat) (bs : List UInt8) (t sel : Int) (w : World) (h : Mat 108 w p g bs) :
    Calls Try.prog 63 #[.pointer (some ⟨p, 0, none⟩), .int .i64 t, .int .i64 sel] w fun e w' => e = .returned (hitv (search bs t sel)) ∧ Fr (fun _ => False) w w' := by
  have HS := Lib.hid (fun w h => slots_any p g bs t w h)
  have H := Lib.hid (fun (o : Obj) => h.fr (Fr.alloc (S := fun _ => False) (Fr.refl _ _) o) id id)
  have hsb := slots_bd bs t
  have hin := @slots_in bs t
  have hbl := h.2.2.2
  unfold search
  obtain ⟨n, hn⟩ : ∃ n, slots bs t = n := ⟨_, rfl⟩
  rw [hn] at HS hsb hin ⊢
  by_cases hz : n = 0
  · rw [if_pos hz]
    subst hz
    clear h hn hin
    unfold hitv
    go_enter Try.func63, Try.ntmps63
    go_wp2_with (go_at_call 50; refine (HS.out _ (H.out _)).mono ?_; rintro e w' ⟨rfl, rfl⟩)
    refine bodyPost_ret (v := .agg #[.int .i64 0, .bool false, .bool false, .int .i64 0]) (by simp [results, Try.results63, go_sem]) rfl ⟨rfl, ?_⟩
    exact Fr.alloc (Fr.refl _ _) _
  · rw [if_neg hz]
    obtain ⟨h0, h1, h2, h3⟩ := hin hz
    have HC := Lib.hid (fun a w h => cell_any p g bs a w h)
    have HL := Lib.hid (fun i w hi => slot_any t i hi w)
    have hhb := home_bd sel n (by omega)
    have hz' : (n == 0) = false := by simp [hz]
    obtain ⟨m, hm⟩ : ∃ m, home sel n = m := ⟨_, rfl⟩
    rw [hm] at hhb
    have hwr : wrap64 (sel % 4294967296 * 2654435761 % 4294967296 % n) = m := by
      rw [show sel % 4294967296 * 2654435761 % 4294967296 % n = m from hm]
      unfold wrap64
      omega
    have HM := Lib.hid hm
    have HWR := Lib.hid hwr
    clear h hn hin hm hwr
    go_enter Try.func63, Try.ntmps63
    go_wp2_with (go_at_call 50; refine (HS.out _ (H.out _)).mono ?_; rintro e w' ⟨rfl, rfl⟩)
    rw [HWR.out]
    go_loop [27] (fun iv => ∃ k : Nat, (k : Int) ≤ n ∧ iv = .int .i64 k ∧ probe bs t sel n n.toNat 0 = probe bs t sel n (n.toNat - k) k) (fun iv => n.toNat - (intOf iv).toNat)
    case atStart => exact ⟨0, by omega, rfl, rfl⟩
    case round =>
      obtain ⟨k, hk, rfl, hpr⟩ := hrel
      by_cases hlt : (k : Int) < n
      · rw [show n.toNat - k = (n.toNat - (k + 1)) + 1 by omega, probe, stops, HM.out] at hpr
        have hxb : 0 ≤ (m + (k : Int)) % n ∧ (m + (k : Int)) % n < n := ⟨Int.emod_nonneg _ (by omega), Int.emod_lt_of_pos _ (by omega)⟩
        obtain ⟨x, hx⟩ : ∃ x, (m + (k : Int)) % n = x := ⟨_, rfl⟩
        rw [hx] at hpr hxb
        obtain ⟨s, hs⟩ : ∃ s, slotAt t x = s := ⟨_, rfl⟩
        have HL2 := Lib.hid (fun w => HL.out x w (by omega))
        have HC2 := Lib.hid (fun (o : Obj) => HC.out s _ (H.out o))
        obtain ⟨c, hc⟩ : ∃ c, (cell bs s).1 = c := ⟨_, rfl⟩
        rw [hs] at hpr HL2
        rw [hc] at hpr HC2
        clear hs hc
        by_cases hc0 : c = 0
        · have e1 : (c == 0) = true := by simp [hc0]
          have e2 : (c != 0) = false := by simp [hc0]
          rw [e1, e2] at hpr
          simp only [Bool.true_or, if_true] at hpr
          have HP := Lib.hid hpr
          clear hpr hc0
          go_wp2_with (first | (go_at_call 105; refine (HL2.out _).mono ?_; rintro e w' ⟨rfl, rfl⟩) | (go_at_call 46; refine (HC2.out _).mono ?_; rintro e w' ⟨rfl, rfl⟩))
          refine bodyPost_ret (v := .agg #[.int .i64 s, .bool false, .bool true, .int .i64 (k + 1)]) (by simp [results, Try.results63, go_sem]) rfl ⟨?_, ?_⟩
          · rw [HP.out]
            rfl
          · exact Fr.alloc (Fr.refl _ _) _
        · have e1 : (c == 0) = false := by simp [hc0]
          have e2 : (c != 0) = true := by simp [hc0]
          by_cases hcs : c = sel
          · have e3 : (c == sel) = true := by simp [hcs]
            rw [e1, e2, e3] at hpr
            simp only [Bool.or_true, if_true] at hpr
            have HP := Lib.hid hpr
            clear hpr hc0 hcs
            go_wp2_with (first | (go_at_call 105; refine (HL2.out _).mono ?_; rintro e w' ⟨rfl, rfl⟩) | (go_at_call 46; refine (HC2.out _).mono ?_; rintro e w' ⟨rfl, rfl⟩))
            refine bodyPost_ret (v := .agg #[.int .i64 s, .bool true, .bool false, .int .i64 (k + 1)]) (by simp [results, Try.results63, go_sem]) rfl ⟨?_, ?_⟩
            · rw [HP.out]
              rfl
            · exact Fr.alloc (Fr.refl _ _) _
          · have e3 : (c == sel) = false := by simp [hcs]
            rw [e1, e3] at hpr
            simp only [Bool.or_false, Bool.false_eq_true, if_false] at hpr
            have HP := Lib.hid hpr
            clear hpr hc0 hcs e2
            go_wp2_with (first | (go_at_call 105; refine (HL2.out _).mono ?_; rintro e w' ⟨rfl, rfl⟩) | (go_at_call 46; refine (HC2.out _).mono ?_; rintro e w' ⟨rfl, rfl⟩))
            go_round
            case rel => exact ⟨k + 1, by omega, by go_num, HP.out⟩
            case measure => simp only [intOf]; omega
      · obtain rfl : (k : Int) = n := by omega
        have HP := Lib.hid hpr
        clear hpr
        go_wp2
        refine bodyPost_ret (v := .agg #[.int .i64 0, .bool false, .bool false, .int .i64 k]) (by simp [results, Try.results63, go_sem]) rfl ⟨?_, ?_⟩
        · have := HP.out
          rw [show (k : Int).toNat = k by omega, Nat.sub_self] at this
          rw [this]
          rfl
        · exact Fr.alloc (Fr.refl _ _) _
end Go.Proofs.Ytajeiccfgnpbpaa.Mem

/- Contracts of package table: Get, May. -/
namespace Go.Proofs.Ytajeiccfgnpbpaa.Mem
open Go.RowKit

def entv (x : Ent) : Value := .agg #[.int .i64 x.sel, .int .i64 x.xt, .int .i64 x.cls]

theorem three_cells {w : World} {b : Nat} {x y z : Value} {t : TypeId} (h : w.heap[b]? = some (.cells #[x, y, z] t (0, 0))) :
    w.cell? ⟨b, 0, none⟩ = some x ∧ w.cell? ⟨b, 1, none⟩ = some y ∧ w.cell? ⟨b, 2, none⟩ = some z ∧ w.frozen? ⟨b, 0, none⟩ = false ∧ w.frozen? ⟨b, 1, none⟩ = false ∧ w.frozen? ⟨b, 2, none⟩ = false ∧ b < w.heap.size :=
  ⟨by rw [cell_of_row w b _ _ _ _ h]; rfl, by rw [cell_of_row w b _ _ _ _ h]; rfl, by rw [cell_of_row w b _ _ _ _ h]; rfl, frozen_of_row w b _ _ _ h, frozen_of_row w b _ _ _ h, frozen_of_row w b _ _ _ h, lt_of_block h⟩

theorem three_set {w : World} {b : Nat} {x y z : Value} {t : TypeId} (h : w.heap[b]? = some (.cells #[x, y, z] t (0, 0))) (u0 u1 u2 : Value) :
    (((w.setCell ⟨b, 0, none⟩ u0).setCell ⟨b, 1, none⟩ u1).setCell ⟨b, 2, none⟩ u2).heap[b]? = some (.cells #[u0, u1, u2] t (0, 0)) := by
  have h0 := heap_setCell_same w b 0 _ _ u0 h
  have h1 := heap_setCell_same _ b 1 _ _ u1 h0
  have h2 := heap_setCell_same _ b 2 _ _ u2 h1
  rw [h2]
  rfl

/-- A struct in a variable, and two slots, are handed back. -/
theorem results_cell2 {P : Program} {fn : Func} {p u v : Tmp} {ty : TypeId} (h : fn.results = #[.cell p ty, .tmp u, .tmp v]) (tmps : Array Value) (w : World) (g : Nat) (t : TypeId) (cs : Array Value) (fr : Nat × Nat) (d : TypeDesc)
    (hp : tmps.getD p undef = .pointer (some ⟨g, 0, none⟩)) (hg : w.heap[g]? = some (.cells cs t fr))
    (hu : P.underlying ty = some d) (hd : (match d with | .struct _ | .array _ _ => true | _ => false) = true) (hi : (P.info? ty).map (·.size) = some cs.size) :
    (results fn tmps).run P w = .ok (.tuple #[.agg cs, tmps.getD u undef, tmps.getD v undef]) w := by
  have hp' : tmps[p]?.getD undef = .pointer (some ⟨g, 0, none⟩) := by simpa using hp
  simp [results, h, hp', asAddr, run_loadVar_row w g t ty cs fr d hg hu hd hi]

/-- Two blocks of one's own stay behind a call that writes nothing old. -/
theorem two_stay {w w' w2 : World} {x y z a b c d : Value} {t s : TypeId} (hf : Fr (fun _ => False) (w.alloc (.cells #[x, y, z] t)) w') (hg : Fr (fun _ => False) (w'.alloc (.cells #[a, b, c, d] s)).drew w2) :
    (w2.cell? ⟨w.heap.size, 0, none⟩ = some x ∧ w2.cell? ⟨w.heap.size, 1, none⟩ = some y ∧ w2.cell? ⟨w.heap.size, 2, none⟩ = some z ∧ w2.frozen? ⟨w.heap.size, 0, none⟩ = false ∧ w2.frozen? ⟨w.heap.size, 1, none⟩ = false ∧ w2.frozen? ⟨w.heap.size, 2, none⟩ = false ∧ w.heap.size < w2.heap.size) ∧
    w2.cell? ⟨w'.heap.size, 0, none⟩ = some a ∧ w2.cell? ⟨w'.heap.size, 3, none⟩ = some d ∧ w.heap.size < w'.heap.size ∧ Fr (fun _ => False) w w2 ∧ w2.heap[w.heap.size]? = some (.cells #[x, y, z] t (0, 0)) := by
  have h1 := hf.obj (heap_alloc_last w (.cells #[x, y, z] t)) id
  have hl := lt_of_block h1
  have h2 : (w'.alloc (.cells #[a, b, c, d] s)).heap[w.heap.size]? = some (.cells #[x, y, z] t (0, 0)) := by rw [Below.heap_alloc _ _ _ hl]; exact h1
  have h3 := heap_alloc_last w' (.cells #[a, b, c, d] s)
  have g := Fr.undrew hg
  refine ⟨three_cells (g.obj h2 id), ?_, ?_, hl, ?_, g.obj h2 id⟩
  · rw [cell_of_row w2 _ _ _ _ _ (g.obj h3 id)]; rfl
  · rw [cell_of_row w2 _ _ _ _ _ (g.obj h3 id)]; rfl
  · exact (((Fr.alloc (Fr.refl _ _) _).trans hf).alloc _).trans g

set_option maxRecDepth 100000 in
set_option maxHeartbeats 2000000 in
theorem get_any (p g : Nat) (bs : List UInt8) (t sel : Int) (w : World) (h : Mat 108 w p g bs) :
    Calls Try.prog 67 #[.pointer (some ⟨p, 0, none⟩), .int .i64 t, .int .i64 sel] w fun e w' => e = .returned (.tuple #[entv (getv bs t sel).1, .int .i64 (getv bs t sel).2.1, .bool (getv bs t sel).2.2]) ∧ Fr (fun _ => False) w w' := by
  have HS := Lib.hid (fun w h => search_any p g bs t sel w h)
  have H := Lib.hid h
  have hbl := h.2.2.2
  have hpl := @search_place bs t sel
  unfold getv
  obtain ⟨⟨a, fo, em, n⟩, hh⟩ : ∃ x, search bs t sel = x := ⟨_, rfl⟩
  rw [hh] at HS hpl ⊢
  simp only [hitv] at HS hpl ⊢
  clear h hh
  cases fo with
  | false =>
    rw [if_neg (by simp)]
    clear hpl
    unfold entv
    go_enter Try.func67, Try.ntmps67
    go_wp2_with (go_at_call 63; refine (HS.out _ (H.out.fr (Fr.alloc (S := fun _ => False) (Fr.refl _ _) _) id id)).mono ?_; rintro e w' ⟨rfl, hf⟩; have hob := hf.obj (heap_alloc_last _ _) id; obtain ⟨hr0, hr1, hr2, hz0, hz1, hz2, hlt⟩ := three_cells hob; have HOb := Lib.hid hob; have HF := Lib.hid hf; clear hf hob)
    go_region
    all_goals
      go_wp2
      refine bodyPost_ret (results_cell2 rfl _ _ w.heap.size 38 _ (0, 0) _ rfl (by rw [show ∀ w : World, w.drew.heap = w.heap from fun _ => rfl, Below.heap_alloc _ _ _ (by simpa using hlt)]; exact three_set HOb.out _ _ _) Try.underlying38 rfl (by kernel_rfl)) rfl ⟨rfl, ?_⟩
      exact Fr.drew (((((Fr.alloc (S := fun _ => False) (Fr.refl _ _) _).trans HF.out).setCell (.inl (Nat.le_refl _)) _).setCell (.inl (Nat.le_refl _)) _).setCell (.inl (Nat.le_refl _)) _ |>.alloc _)
  | true =>
    by_cases hs : 1 ≤ sel
    · rw [if_pos ⟨rfl, hs⟩]
      have hpb := hpl (.inl rfl)
      have HR := Lib.hid (fun w h => read_any p g bs a w h (by omega))
      obtain ⟨⟨r0, r1, r2⟩, hrr⟩ : ∃ x, read bs a = x := ⟨_, rfl⟩
      rw [hrr] at HR ⊢
      simp only [entv] at HR ⊢
      clear hpl hrr
      go_enter Try.func67, Try.ntmps67
      go_wp2_with (go_at_call 63; refine (HS.out _ (H.out.fr (Fr.alloc (S := fun _ => False) (Fr.refl _ _) _) id id)).mono ?_; rintro e w' ⟨rfl, hf⟩; have hob := hf.obj (heap_alloc_last _ _) id; obtain ⟨hr0, hr1, hr2, hz0, hz1, hz2, hlt⟩ := three_cells hob; have HOb := Lib.hid hob; have HF := Lib.hid hf; clear hf hob)
      go_region_with (go_at_call 106; refine (HR.out _ ((H.out.fr ((Fr.alloc (S := fun _ => False) (Fr.refl _ _) _).trans HF.out) id id).fr (S := fun _ => False) (Fr.drew (Fr.alloc (Fr.refl _ _) _)) id id)).mono ?_; rintro e w2 ⟨rfl, hf2⟩; obtain ⟨⟨q0, q1, q2, y0, y1, y2, hl2⟩, s0, s3, hl3, hF2, hO2⟩ := two_stay HF.out hf2; have HF2 := Lib.hid hF2; have HO2 := Lib.hid hO2; clear hF2 hf2 hO2)
      all_goals
        go_wp2
        refine bodyPost_ret (results_cell2 rfl _ _ w.heap.size 38 _ (0, 0) _ rfl (three_set HO2.out _ _ _) Try.underlying38 rfl (by kernel_rfl)) rfl ⟨rfl, ?_⟩
        exact (((HF2.out.setCell (.inl (Nat.le_refl _)) _).setCell (.inl (Nat.le_refl _)) _).setCell (.inl (Nat.le_refl _)) _)
    · rw [if_neg (fun e => hs e.2)]
      clear hpl
      unfold entv
      go_enter Try.func67, Try.ntmps67
      go_wp2_with (go_at_call 63; refine (HS.out _ (H.out.fr (Fr.alloc (S := fun _ => False) (Fr.refl _ _) _) id id)).mono ?_; rintro e w' ⟨rfl, hf⟩; have hob := hf.obj (heap_alloc_last _ _) id; obtain ⟨hr0, hr1, hr2, hz0, hz1, hz2, hlt⟩ := three_cells hob; have HOb := Lib.hid hob; have HF := Lib.hid hf; clear hf hob)
      go_region
      all_goals
        go_wp2
        refine bodyPost_ret (results_cell2 rfl _ _ w.heap.size 38 _ (0, 0) _ rfl (by rw [show ∀ w : World, w.drew.heap = w.heap from fun _ => rfl, Below.heap_alloc _ _ _ (by simpa using hlt)]; exact three_set HOb.out _ _ _) Try.underlying38 rfl (by kernel_rfl)) rfl ⟨rfl, ?_⟩
        exact Fr.drew (((((Fr.alloc (S := fun _ => False) (Fr.refl _ _) _).trans HF.out).setCell (.inl (Nat.le_refl _)) _).setCell (.inl (Nat.le_refl _)) _).setCell (.inl (Nat.le_refl _)) _ |>.alloc _)

set_option maxRecDepth 100000 in
set_option maxHeartbeats 2000000 in
theorem may_any (p g : Nat) (bs : List UInt8) (t sel : Int) (w : World) (h : Mat 108 w p g bs) :
    Calls Try.prog 69 #[.pointer (some ⟨p, 0, none⟩), .int .i64 t, .int .i64 sel] w fun e w' => e = .returned (.bool (may bs t sel)) ∧ Fr (fun _ => False) w w' := by
  have HS := Lib.hid (fun w h => search_any p g bs t sel w h)
  have H := Lib.hid h
  unfold may
  obtain ⟨⟨a, fo, em, n⟩, hh⟩ : ∃ x, search bs t sel = x := ⟨_, rfl⟩
  rw [hh] at HS ⊢
  simp only [hitv] at HS ⊢
  clear h hh
  by_cases hs : 1 ≤ sel
  · cases fo with
    | false =>
      go_enter Try.func69, Try.ntmps69
      go_wp2_with (go_at_call 63; refine (HS.out _ H.out).mono ?_; rintro e w' ⟨rfl, hf⟩; have HF := Lib.hid hf; clear hf)
      go_ret
      exact ⟨by simp [hs], Fr.alloc HF.out _⟩
    | true =>
      go_enter Try.func69, Try.ntmps69
      go_wp2_with (go_at_call 63; refine (HS.out _ H.out).mono ?_; rintro e w' ⟨rfl, hf⟩; have HF := Lib.hid hf; clear hf)
      go_ret
      exact ⟨by simp [hs], Fr.alloc HF.out _⟩
  · go_enter Try.func69, Try.ntmps69
    go_wp2_with (go_at_call 63; refine (HS.out _ H.out).mono ?_; rintro e w' ⟨rfl, hf⟩; have HF := Lib.hid hf; clear hf)
    go_ret
    exact ⟨by simp; omega, Fr.alloc HF.out _⟩
end Go.Proofs.Ytajeiccfgnpbpaa.Mem

/- Contracts of package table: New. -/
namespace Go.Proofs.Ytajeiccfgnpbpaa.Mem
open Go.RowKit

/-- What laying a table tells: its place and the code. -/
def laycode (x : Nat) (r : Nat × List UInt8 × Bool) : Int × Int := if r.2.2 = true then (x, 0) else (0, -8)

theorem Fr.some {S T : Nat → Prop} {a b : World} (h : Fr S a b) (hs : ∀ k, S k → T k) : Fr T a b := h.mono fun k _ s => hs k s

set_option maxRecDepth 100000 in
set_option maxHeartbeats 2000000 in
theorem tlay_any (b p g a z x n : Nat) (bs : List UInt8) (w : World) (h : Sat w b p g a z x bs) (h8 : x % 8 = 0) (hn : 1 ≤ n ∧ n ≤ 1024) :
    Calls Try.prog 59 #[.pointer (some ⟨b, 0, none⟩), .int .i64 n] w
      fun e w' => e = .returned (.tuple #[.int .i64 (laycode x (layt z x bs n)).1, .int .i64 (laycode x (layt z x bs n)).2]) ∧ Sat w' b p g a z (layt z x bs n).1 (layt z x bs n).2.1 ∧ Both b g w w' := by
  have HA := Lib.hid (align_ok b p g a z x bs w h h8)
  have HH := Lib.hid (here_any b p g a z x bs w h)
  have HZ := Lib.hid (fun w => tsize_any n (by omega) w)
  have H := Lib.hid h
  by_cases hz : x + 8 ≤ z
  · have HC := Lib.hid (comma_ok b p g a z x bs n w h h8 hz)
    have hl : layt z x bs n = layz z (1 + 3 * n) (x + 8) (setv bs x n) := by unfold layt; rw [if_pos hz]
    rw [hl]
    obtain ⟨r, hr⟩ : ∃ r, layz z (1 + 3 * n) (x + 8) (setv bs x n) = r := ⟨_, rfl⟩
    rw [hr]
    have HR := Lib.hid hr
    have HQ := Lib.hid (fun y cs w (h : Sat w b p g a z y cs) (h8 : y % 8 = 0) (hz : y + 8 ≤ z) => comma_ok b p g a z y cs 0 w h h8 hz)
    have HF := Lib.hid (fun y cs w (h : Sat w b p g a z y cs) (hz : ¬ y + 8 ≤ z) => comma_full b p g a z y cs 0 w h hz)
    have H88 := Lib.hid h8
    clear h hl hr h8
    have HMM := Lib.hid (show ((16 + (n : Int) * 24) / 8 - 1) = ((1 + 3 * n : Nat) : Int) by omega)
    obtain ⟨m, hm⟩ : ∃ m, 1 + 3 * n = m := ⟨_, rfl⟩
    rw [hm] at HMM HR
    have hmb : m ≤ 3073 := by omega
    clear hm
    go_enter Try.func59, Try.ntmps59
    go_wp2_with (first | (go_at_call 101; refine HA.out.mono ?_; rintro e w' ⟨rfl, h0⟩; obtain rfl := h0.symm) | (go_at_call 21; refine HH.out.mono ?_; rintro e w' ⟨rfl, h0⟩; obtain rfl := h0.symm) | (go_at_call 102; refine HC.out.mono ?_; rintro e w1 ⟨rfl, hs, hf⟩; have HS1 := Lib.hid hs; have HF1 := Lib.hid hf; clear hs hf) | (go_at_call 53; refine (HZ.out _).mono ?_; rintro e w' ⟨rfl, h0⟩; obtain rfl := h0.symm))
    rw [HMM.out]
    go_loopw [27] (fun iv wr => ∃ k : Nat, k ≤ m ∧ iv = .int .i64 k ∧ ∃ cs, layz z (m - k) (x + 8 + 8 * k) cs = r ∧ Sat wr b p g a z (x + 8 + 8 * k) cs ∧ Both b g w wr) (fun iv _ => m - (intOf iv).toNat)
    case atStart => exact ⟨0, by omega, rfl, _, HR.out, HS1.out, HF1.out⟩
    case round =>
      obtain ⟨k, hk, rfl, cs, hr, hS, hB⟩ := hrel
      have HB := Lib.hid hB
      have HS := Lib.hid hS
      by_cases hlt : k < m
      · rw [show m - k = (m - (k + 1)) + 1 by omega, layz] at hr
        by_cases hfit : x + 8 + 8 * k + 8 ≤ z
        · rw [if_pos hfit] at hr
          have HC2 := Lib.hid (HQ.out _ _ _ hS (by have := H88.out; omega) hfit)
          have HR2 := Lib.hid hr
          clear hr hS hB
          go_wp2_with (go_at_call 102; refine HC2.out.mono ?_; rintro e w2 ⟨rfl, hs, hf⟩; have HS3 := Lib.hid hs; have HF3 := Lib.hid hf; clear hs hf)
          go_roundw
          case rel => exact ⟨k + 1, by omega, by go_num, _, by rw [← HR2.out]; rfl, HS3.out, HB.out.trans HF3.out⟩
          case measure => simp only [intOf]; omega
        · rw [if_neg hfit] at hr
          have HC2 := Lib.hid (HF.out _ _ _ hS hfit)
          have HR2 := Lib.hid hr
          clear hr hS hB
          go_wp2_with (go_at_call 102; refine HC2.out.mono ?_; rintro e w2 ⟨rfl, hs, hf⟩; have HS3 := Lib.hid hs; have HF3 := Lib.hid hf; clear hs hf)
          go_ret2
          rw [← HR2.out]
          exact ⟨rfl, HS3.out, HB.out.trans (Fr.some HF3.out fun _ e => e.elim)⟩
      · obtain rfl : k = m := by omega
        rw [Nat.sub_self, layz] at hr
        have HR2 := Lib.hid hr
        clear hr hS hB
        go_wp2
        go_ret2
        rw [← HR2.out]
        exact ⟨rfl, HS.out, HB.out⟩
  · have HC := Lib.hid (comma_full b p g a z x bs n w h hz)
    have hl : layt z x bs n = (x, bs, false) := by unfold layt; rw [if_neg hz]
    rw [hl]
    clear h hl h8
    go_enter Try.func59, Try.ntmps59
    go_wp2_with (first | (go_at_call 101; refine HA.out.mono ?_; rintro e w' ⟨rfl, h0⟩; obtain rfl := h0.symm) | (go_at_call 21; refine HH.out.mono ?_; rintro e w' ⟨rfl, h0⟩; obtain rfl := h0.symm) | (go_at_call 102; refine HC.out.mono ?_; rintro e w1 ⟨rfl, hs, hf⟩; have HS1 := Lib.hid hs; have HF1 := Lib.hid hf; clear hs hf))
    go_ret2
    exact ⟨rfl, HS1.out, Fr.some HF1.out fun _ e => e.elim⟩

/-- What New tells, where allocation stands then, and the bytes. -/
def newv (z x : Nat) (bs : List UInt8) (n : Int) : (Int × Int) × Nat × List UInt8 :=
  if 1 ≤ n ∧ n ≤ 1024 then (if (layt z x bs n.toNat).2.2 = true then ((x, 0), (layt z x bs n.toNat).1, (layt z x bs n.toNat).2.1) else ((0, -8), x, (layt z x bs n.toNat).2.1)) else ((0, -256), x, bs)

set_option maxRecDepth 100000 in
set_option maxHeartbeats 2000000 in
theorem tnew_any (b p g a z x : Nat) (n : Int) (bs : List UInt8) (w : World) (h : Sat w b p g a z x bs) (h8 : x % 8 = 0) :
    Calls Try.prog 17 #[.pointer (some ⟨b, 0, none⟩), .int .i64 n] w
      fun e w' => e = .returned (.tuple #[.int .i64 (newv z x bs n).1.1, .int .i64 (newv z x bs n).1.2]) ∧ Sat w' b p g a z (newv z x bs n).2.1 (newv z x bs n).2.2 ∧ Both b g w w' := by
  have HH := Lib.hid (here_any b p g a z x bs w h)
  have H := Lib.hid h
  unfold newv
  by_cases h1 : 1 ≤ n
  · by_cases h2 : n ≤ 1024
    · rw [if_pos ⟨h1, h2⟩]
      obtain ⟨m, rfl⟩ : ∃ m : Nat, n = m := ⟨n.toNat, by omega⟩
      rw [Int.toNat_natCast]
      have HL := Lib.hid (tlay_any b p g a z x m bs w h h8 (by omega))
      have hinv := layt_inv z x bs m h.bd.2.1
      have hbd := h.bd
      obtain ⟨⟨y, cs, ok⟩, hr⟩ : ∃ r, layt z x bs m = r := ⟨_, rfl⟩
      rw [hr] at HL hinv ⊢
      have HI := Lib.hid hinv
      have HBd := Lib.hid hbd
      have hxb : x ≤ 1048576 := by omega
      clear h hr hinv hbd
      cases ok with
      | true =>
        simp only [laycode, if_true] at HL ⊢
        go_enter Try.func17, Try.ntmps17
        go_wp2_with (first | (go_at_call 21; refine HH.out.mono ?_; rintro e w' ⟨rfl, h0⟩; obtain rfl := h0.symm) | (go_at_call 59; refine HL.out.mono ?_; rintro e w1 ⟨rfl, hs, hf⟩; have HS1 := Lib.hid hs; have HF1 := Lib.hid hf; clear hs hf))
        go_ret2
        exact ⟨rfl, HS1.out, HF1.out⟩
      | false =>
        simp only [laycode, Bool.false_eq_true, if_false] at HL ⊢
        have HK := Lib.hid (fun w (h : Sat w b p g a z y cs) => back_ok b p g a z y x cs w h HBd.out.1 HI.out.1)
        go_enter Try.func17, Try.ntmps17
        go_wp2_with (first | (go_at_call 21; refine HH.out.mono ?_; rintro e w' ⟨rfl, h0⟩; obtain rfl := h0.symm) | (go_at_call 59; refine HL.out.mono ?_; rintro e w1 ⟨rfl, hs, hf⟩; have HS1 := Lib.hid hs; have HF1 := Lib.hid hf; clear hs hf) | (go_at_call 60; refine (HK.out _ HS1.out).mono ?_; rintro e w2 ⟨rfl, hs, hf⟩; have HS2 := Lib.hid hs; have HF2 := Lib.hid hf; clear hs hf))
        go_ret2
        exact ⟨rfl, HS2.out, HF1.out.trans (Fr.some HF2.out fun _ e => .inl e)⟩
    · rw [if_neg (fun e => h2 e.2)]
      clear h
      go_enter Try.func17, Try.ntmps17
      go_wp2
      go_ret2
      exact ⟨rfl, H.out, Fr.refl _ _⟩
  · rw [if_neg (fun e => h1 e.1)]
    clear h
    go_enter Try.func17, Try.ntmps17
    go_wp2
    go_ret2
    exact ⟨rfl, H.out, Fr.refl _ _⟩
end Go.Proofs.Ytajeiccfgnpbpaa.Mem
