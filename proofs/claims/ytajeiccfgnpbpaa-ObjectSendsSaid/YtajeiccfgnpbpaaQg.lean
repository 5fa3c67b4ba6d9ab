/- Several texts in one: ClsD, CisP, ObjA. -/
import Derived.Test.YtajeiccfgnpbpaaClsC
set_option linter.unusedSimpArgs false
set_option linter.unusedVariables false
/- Contracts of package class: Root, New, Lookup, Grow. -/
namespace Go.Proofs.Ytajeiccfgnpbpaa.Mem
open Go.RowKit

/-- What New tells, where allocation stands then, and the bytes. -/
def cnewv (z x : Nat) (bs : List UInt8) (root par slots : Int) : (Int × Int) × Nat × List UInt8 :=
  if (cell bs root).2 = 0 then
    (if (clayv z x bs root par slots (cell bs root).1).1.2 = 0 then (((clayv z x bs root par slots (cell bs root).1).1.1, 0), (clayv z x bs root par slots (cell bs root).1).2.1, setc (clayv z x bs root par slots (cell bs root).1).2.2 root (clayv z x bs root par slots (cell bs root).1).1.1)
     else ((0, (clayv z x bs root par slots (cell bs root).1).1.2), x, (clayv z x bs root par slots (cell bs root).1).2.2))
  else ((0, (cell bs root).2), x, bs)

theorem cnewv_inv (z x : Nat) (bs : List UInt8) (root par slots : Int) (h : x ≤ z) : x ≤ (cnewv z x bs root par slots).2.1 ∧ (cnewv z x bs root par slots).2.1 ≤ z ∧ (x % 8 = 0 → (cnewv z x bs root par slots).2.1 % 8 = 0) ∧ (cnewv z x bs root par slots).2.2.length = bs.length := by
  have ht := clayv_inv z x bs root par slots (cell bs root).1 h
  unfold cnewv
  split
  · split
    · exact ⟨ht.1, ht.2.1, ht.2.2.1, by rw [setc_length]; exact ht.2.2.2⟩
    · exact ⟨Nat.le_refl _, h, id, ht.2.2.2⟩
  · exact ⟨Nat.le_refl _, h, id, rfl⟩

set_option maxRecDepth 100000 in
set_option maxHeartbeats 2000000 in
theorem cnew_any (b p g a z x : Nat) (bs : List UInt8) (root par slots : Int) (w : World) (h : Sat w b p g a z x bs) (h8 : x % 8 = 0) (hpar : -9223372036854775808 ≤ par ∧ par ≤ 9223372036854775807) :
    Calls Try.prog 76 #[.pointer (some ⟨b, 0, none⟩), .int .i64 root, .int .i64 par, .int .i64 slots] w
      fun e w' => e = .returned (.tuple #[.int .i64 (cnewv z x bs root par slots).1.1, .int .i64 (cnewv z x bs root par slots).1.2]) ∧ Sat w' b p g a z (cnewv z x bs root par slots).2.1 (cnewv z x bs root par slots).2.2 ∧ Both b g w w' := by
  obtain ⟨q0, q1, q2, q3⟩ := h.cells
  have HC := Lib.hid (cell_any p g bs root w h.mat)
  have HH := Lib.hid (here_any b p g a z x bs w h)
  have hly := clay_any b p g a z x bs root par slots (cell bs root).1 w h h8 hpar
  have hinv := clayv_inv z x bs root par slots (cell bs root).1 h.bd.2.1
  have hbd := h.bd
  have H := Lib.hid h
  unfold cnewv
  obtain ⟨⟨prev, d⟩, hc⟩ : ∃ r, cell bs root = r := ⟨_, rfl⟩
  rw [hc] at HC hly hinv ⊢
  dsimp only at HC hly hinv ⊢
  obtain ⟨⟨⟨v1, v2⟩, vy, vcs⟩, hv⟩ : ∃ v, clayv z x bs root par slots prev = v := ⟨_, rfl⟩
  rw [hv] at hly hinv ⊢
  dsimp only at hly hinv ⊢
  have HL := Lib.hid hly
  have HI := Lib.hid hinv
  have HBd := Lib.hid hbd
  clear h hc hv hly hinv hbd
  by_cases hd : d = 0
  · subst hd
    rw [if_pos rfl]
    by_cases hv2 : v2 = 0
    · subst hv2
      rw [if_pos rfl]
      have HX := Lib.hid (fun w h => setCell_any p g vcs root v1 w h)
      have HLn := Lib.hid (setc_length vcs root v1)
      go_enter Try.func76, Try.ntmps76
      go_wp2_with (first | (go_at_call 46; refine HC.out.mono ?_; rintro e w' ⟨rfl, h0⟩; obtain rfl := h0.symm) | (go_at_call 21; refine HH.out.mono ?_; rintro e w' ⟨rfl, h0⟩; obtain rfl := h0.symm) | (go_at_call 107; refine HL.out.mono ?_; rintro e w1 ⟨rfl, hs, hf⟩; obtain ⟨u0, u1, u2, u3⟩ := hs.cells; have HS1 := Lib.hid hs; have HF1 := Lib.hid hf; clear hs hf) | (go_at_call 15; refine (HX.out _ HS1.out.mat).mono ?_; rintro e w2 ⟨rfl, hm, hf⟩; have HM2 := Lib.hid hm; have HF2 := Lib.hid hf; clear hm hf))
      go_ret2
      exact ⟨rfl, HS1.out.wrote HF2.out HM2.out HLn.out, HF1.out.trans (Fr.some HF2.out fun _ e => .inr e)⟩
    · rw [if_neg hv2]
      have hv2' : (v2 != 0) = true := by simp [hv2]
      have HK := Lib.hid (fun w (h : Sat w b p g a z vy vcs) => back_ok b p g a z vy x vcs w h HBd.out.1 HI.out.1)
      clear hv2
      go_enter Try.func76, Try.ntmps76
      go_wp2_with (first | (go_at_call 46; refine HC.out.mono ?_; rintro e w' ⟨rfl, h0⟩; obtain rfl := h0.symm) | (go_at_call 21; refine HH.out.mono ?_; rintro e w' ⟨rfl, h0⟩; obtain rfl := h0.symm) | (go_at_call 107; refine HL.out.mono ?_; rintro e w1 ⟨rfl, hs, hf⟩; have HS1 := Lib.hid hs; have HF1 := Lib.hid hf; clear hs hf) | (go_at_call 60; refine (HK.out _ HS1.out).mono ?_; rintro e w2 ⟨rfl, hs, hf⟩; have HS2 := Lib.hid hs; have HF2 := Lib.hid hf; clear hs hf))
      go_ret2
      exact ⟨rfl, HS2.out, HF1.out.trans (Fr.some HF2.out fun _ e => .inl e)⟩
  · rw [if_neg hd]
    have hd' : (d != 0) = true := by simp [hd]
    clear hd
    go_enter Try.func76, Try.ntmps76
    go_wp2_with (go_at_call 46; refine HC.out.mono ?_; rintro e w' ⟨rfl, h0⟩; obtain rfl := h0.symm)
    go_ret2
    exact ⟨rfl, H.out, Fr.refl _ _⟩

set_option maxRecDepth 100000 in
set_option maxHeartbeats 1000000 in
theorem croot_ok (b p g a z x : Nat) (bs : List UInt8) (w : World) (h : Sat w b p g a z x bs) (h8 : x % 8 = 0) (hz : x + 8 ≤ z) :
    Calls Try.prog 75 #[.pointer (some ⟨b, 0, none⟩)] w
      fun e w' => e = .returned (.tuple #[.int .i64 x, .int .i64 0]) ∧ Sat w' b p g a z (x + 8) (setv bs x 0) ∧ Both b g w w' := by
  have HA := Lib.hid (align_ok b p g a z x bs w h h8)
  have HH := Lib.hid (here_any b p g a z x bs w h)
  have HC := Lib.hid (comma_ok b p g a z x bs 0 w h h8 hz)
  clear h
  go_enter Try.func75, Try.ntmps75
  go_wp2_with (first | (go_at_call 101; refine HA.out.mono ?_; rintro e w' ⟨rfl, h0⟩; obtain rfl := h0.symm) | (go_at_call 21; refine HH.out.mono ?_; rintro e w' ⟨rfl, h0⟩; obtain rfl := h0.symm) | (go_at_call 102; refine HC.out.mono ?_; rintro e w1 ⟨rfl, hs, hf⟩; have HS1 := Lib.hid hs; have HF1 := Lib.hid hf; clear hs hf))
  go_ret2
  exact ⟨rfl, HS1.out, HF1.out⟩

/-- What Lookup tells. -/
def lookv (bs : List UInt8) (c sel : Int) : Ent × Int × Bool := if isCl bs c = true then getv bs (clv bs c).tab sel else (⟨0, 0, 0⟩, 0, false)

set_option maxRecDepth 100000 in
set_option maxHeartbeats 2000000 in
theorem clookup_any (p g : Nat) (bs : List UInt8) (c sel : Int) (w : World) (h : Mat 108 w p g bs) (hc : -9223372036854775808 ≤ c ∧ c ≤ 9223372036854775807) :
    Calls Try.prog 77 #[.pointer (some ⟨p, 0, none⟩), .int .i64 c, .int .i64 sel] w fun e w' => e = .returned (.tuple #[entv (lookv bs c sel).1, .int .i64 (lookv bs c sel).2.1, .bool (lookv bs c sel).2.2]) ∧ Fr (fun _ => False) w w' := by
  have hr := fun w h => cread_any p g bs c w h hc
  have hg := fun t w h => get_any p g bs t sel w h
  have H := Lib.hid h
  unfold lookv
  by_cases hi : isCl bs c = true
  · rw [if_pos hi]
    rw [hi] at hr
    obtain ⟨⟨k0, k1, k2, k3, k4⟩, hk⟩ : ∃ r, clv bs c = r := ⟨_, rfl⟩
    rw [hk] at hr ⊢
    dsimp only
    replace hg := hg k3
    obtain ⟨⟨⟨e0, e1, e2⟩, n, ok⟩, hv⟩ : ∃ v, getv bs k3 sel = v := ⟨_, rfl⟩
    rw [hv] at hg ⊢
    simp only [clval] at hr
    simp only [entv] at hg ⊢
    have HR := Lib.hid hr
    have HG := Lib.hid hg
    clear h hi hk hv hr hg
    go_enter Try.func77, Try.ntmps77
    go_wp2_with fail
    refine (HR.out _ (H.out.fr (Fr.alloc (S := fun _ => False) (Fr.refl _ _) _) id id)).mono ?_
    rintro e w1 ⟨rfl, hf⟩
    have O1 := Lib.hid (hf.obj (heap_alloc_last _ _) id)
    have F1 := Lib.hid (((Fr.alloc (S := fun _ => False) (Fr.refl _ _) _).trans hf).alloc (.cells #[.int .i64 k0, .int .i64 k1, .int .i64 k2, .int .i64 k3, .int .i64 k4] 142))
    have O2 := Lib.hid ((Below.heap_alloc w1 (.cells #[.int .i64 k0, .int .i64 k1, .int .i64 k2, .int .i64 k3, .int .i64 k4] 142) _ (lt_of_block O1.out)).trans O1.out)
    clear hf
    go_wp2_with fail
    refine (HG.out _ (H.out.fr F1.out id id)).mono ?_
    rintro e w2 ⟨rfl, hf⟩
    have hob := hf.obj O2.out id
    obtain ⟨hr0, hr1, hr2, hz0, hz1, hz2, hlt⟩ := three_cells hob
    have O3 := Lib.hid hob
    have F2 := Lib.hid (F1.out.trans hf)
    clear hf hob
    go_wp2_with fail
    refine bodyPost_ret (results_cell2 rfl _ _ w.heap.size 38 _ (0, 0) _ rfl (three_set O3.out _ _ _) Try.underlying38 rfl (by kernel_rfl)) rfl ⟨rfl, ?_⟩
    exact ((F2.out.setCell (.inl (Nat.le_refl _)) _).setCell (.inl (Nat.le_refl _)) _).setCell (.inl (Nat.le_refl _)) _
  · have hi' : isCl bs c = false := by simpa using hi
    rw [if_neg hi]
    rw [hi', clv_none hi'] at hr
    simp only [clval] at hr
    simp only [entv]
    have HR := Lib.hid hr
    clear h hi hi' hr hg
    go_enter Try.func77, Try.ntmps77
    go_wp2_with fail
    refine (HR.out _ (H.out.fr (Fr.alloc (S := fun _ => False) (Fr.refl _ _) _) id id)).mono ?_
    rintro e w1 ⟨rfl, hf⟩
    have O1 := Lib.hid (hf.obj (heap_alloc_last _ _) id)
    have F1 := Lib.hid ((Fr.alloc (S := fun _ => False) (Fr.refl _ _) _).trans hf)
    obtain ⟨hr0, hr1, hr2, hz0, hz1, hz2, hlt⟩ := three_cells O1.out
    clear hf
    go_wp2_with fail
    refine bodyPost_ret (results_cell2 rfl _ _ w.heap.size 38 _ (0, 0) _ rfl ((Below.heap_alloc _ _ _ (by simpa [World.setCell] using hlt)).trans (three_set O1.out _ _ _)) Try.underlying38 rfl (by kernel_rfl)) rfl ⟨rfl, ?_⟩
    exact (((F1.out.setCell (.inl (Nat.le_refl _)) _).setCell (.inl (Nat.le_refl _)) _).setCell (.inl (Nat.le_refl _)) _).alloc _
end Go.Proofs.Ytajeiccfgnpbpaa.Mem

/- Plain mathematics of the statement ClassIs: a memory with k classes, one behind another. No program. -/
namespace Go.Proofs.Ytajeiccfgnpbpaa.Mem
open Go.RowKit

/-- The last of k classes; 0: there is none. -/
def lastc : Nat → Nat
  | 0 => 0
  | k + 1 => 104 + 128 * k
theorem lastc_lt (k : Nat) : lastc k < 104 + 128 * k := by cases k <;> simp only [lastc] <;> omega

/-- A memory of 65536 bytes with k classes of three slots, one behind another. -/
structure CW (k : Nat) (bs : List UInt8) : Prop where
  len : bs.length = 65536
  root : cellv bs 8 = (lastc k : Nat)
  mag : ∀ j, j < k → cellv bs (104 + 128 * j) = magic
  siz : ∀ j, j < k → cellv bs (120 + 128 * j) = 8
  tb : ∀ j, j < k → cellv bs (128 + 128 * j) = ((16 + 128 * j : Nat) : Int)
  prv : ∀ j, j < k → cellv bs (136 + 128 * j) = (lastc j : Nat)
  tab : ∀ j, j < k → cellv bs (16 + 128 * j) = 3

theorem cell_at {bs : List UInt8} (n : Nat) (h : bs.length = 65536) (h1 : n + 8 ≤ 65536) (h8 : n % 8 = 0) : cell bs (n : Int) = (cellv bs n, 0) := by
  unfold cell
  rw [if_pos (code_of (by omega) (by omega) (by omega))]
  rfl
theorem CW.is {k : Nat} {bs : List UInt8} (h : CW k bs) (hk : k ≤ 41) (j : Nat) (hj : j < k) : isCl bs ((104 + 128 * j : Nat) : Int) = true := by
  unfold isCl
  rw [show ((104 + 128 * j : Nat) : Int) + 8 = ((112 + 128 * j : Nat) : Int) by omega, show ((104 + 128 * j : Nat) : Int) + 16 = ((120 + 128 * j : Nat) : Int) by omega, show ((104 + 128 * j : Nat) : Int) + 24 = ((128 + 128 * j : Nat) : Int) by omega, show ((104 + 128 * j : Nat) : Int) + 32 = ((136 + 128 * j : Nat) : Int) by omega,
    cell_at (104 + 128 * j) h.len (by omega) (by omega), cell_at (112 + 128 * j) h.len (by omega) (by omega), cell_at (120 + 128 * j) h.len (by omega) (by omega), cell_at (128 + 128 * j) h.len (by omega) (by omega), cell_at (136 + 128 * j) h.len (by omega) (by omega), h.mag j hj]
  rfl
theorem CW.v {k : Nat} {bs : List UInt8} (h : CW k bs) (hk : k ≤ 41) (j : Nat) (hj : j < k) : ∃ par, clv bs ((104 + 128 * j : Nat) : Int) = ⟨((104 + 128 * j : Nat) : Int), par, 8, ((16 + 128 * j : Nat) : Int), (lastc j : Nat)⟩ := by
  refine ⟨cellv bs (112 + 128 * j), ?_⟩
  unfold clv
  rw [if_pos (h.is hk j hj), show ((104 + 128 * j : Nat) : Int) + 8 = ((112 + 128 * j : Nat) : Int) by omega, show ((104 + 128 * j : Nat) : Int) + 16 = ((120 + 128 * j : Nat) : Int) by omega, show ((104 + 128 * j : Nat) : Int) + 24 = ((128 + 128 * j : Nat) : Int) by omega, show ((104 + 128 * j : Nat) : Int) + 32 = ((136 + 128 * j : Nat) : Int) by omega,
    cell_at (112 + 128 * j) h.len (by omega) (by omega), cell_at (120 + 128 * j) h.len (by omega) (by omega), cell_at (128 + 128 * j) h.len (by omega) (by omega), cell_at (136 + 128 * j) h.len (by omega) (by omega), h.siz j hj, h.tb j hj, h.prv j hj]

theorem CW.chain {k : Nat} {bs : List UInt8} (h : CW k bs) (hk : k ≤ 41) (a : Int) : ∀ m, m ≤ k → ∀ f (lim : Int), m < f → ((lastc m : Nat) : Int) < lim → chainIs bs a f lim (lastc m : Nat) = decide (∃ j : Nat, j < m ∧ a = ((104 + 128 * j : Nat) : Int))
  | 0, _, f, lim, _, _ => by
    rw [chainIs_end _ _ _ _ _ (by simp [lastc])]
    simp
  | m + 1, hm, f, lim, hf, hl => by
    obtain ⟨f, rfl⟩ : ∃ g, f = g + 1 := ⟨f - 1, by omega⟩
    obtain ⟨par, hv⟩ := h.v hk m (by omega)
    rw [show lastc (m + 1) = 104 + 128 * m from rfl] at hl ⊢
    rw [chainIs, if_pos ⟨by omega, hl, h.is hk m (by omega)⟩, hv]
    by_cases ha : ((104 + 128 * m : Nat) : Int) = a
    · rw [if_pos ha]
      exact (decide_eq_true ⟨m, by omega, ha.symm⟩).symm
    · rw [if_neg ha]
      have := lastc_lt m
      have ih := CW.chain h hk a m (by omega) f ((104 + 128 * m : Nat) : Int) (by omega) (by omega)
      refine ih.trans (decide_eq_decide.2 ⟨fun ⟨j, hj, e⟩ => ⟨j, by omega, e⟩, fun ⟨j, hj, e⟩ => ⟨j, ?_, e⟩⟩)
      by_cases hjm : j = m
      · subst hjm; exact absurd e.symm ha
      · omega

/-- The classes' places. -/
def atc (k : Nat) : List Int := (List.range k).map fun j => ((104 + 128 * j : Nat) : Int)
theorem atc_succ (k : Nat) : atc (k + 1) = atc k ++ [((104 + 128 * k : Nat) : Int)] := by simp [atc, List.range_succ]
theorem atc_len (k : Nat) : (atc k).length = k := by simp [atc]
theorem atc_get (k j : Nat) (h : j < k) : (atc k)[j]? = some ((104 + 128 * j : Nat) : Int) := by simp [atc, h]
theorem CW.isIn {k : Nat} {bs : List UInt8} (h : CW k bs) (hk : k ≤ 41) (a : Int) : isIn bs 8 a = decide (a ∈ atc k) := by
  unfold Mem.isIn
  have := lastc_lt k
  rw [h.len, show (8 : Int) = ((8 : Nat) : Int) from rfl, cell_at 8 h.len (by omega) (by omega), h.root, h.chain hk a k (Nat.le_refl _) _ _ (by omega) (by omega)]
  refine decide_eq_decide.2 ⟨fun ⟨j, hj, e⟩ => ?_, fun hm => ?_⟩
  · exact List.mem_map.2 ⟨j, by simpa using hj, e.symm⟩
  · obtain ⟨j, hj, e⟩ := List.mem_map.1 hm
    exact ⟨j, by simpa using hj, e.symm⟩

theorem layz_room (z : Nat) : ∀ m x bs, x + 8 * m ≤ z → (layz z m x bs).1 = x + 8 * m ∧ (layz z m x bs).2.2 = true ∧ (layz z m x bs).2.1.length = bs.length ∧ ∀ b, b + 8 ≤ x → cellv (layz z m x bs).2.1 b = cellv bs b
  | 0, x, bs, _ => ⟨rfl, rfl, rfl, fun _ _ => rfl⟩
  | m + 1, x, bs, h => by
    rw [layz, if_pos (by omega)]
    obtain ⟨h1, h2, h3, h4⟩ := layz_room z m (x + 8) (setv bs x 0) (by omega)
    exact ⟨by omega, h2, by rw [h3, setv_length], fun b hb => by rw [h4 b (by omega), cellv_other _ _ _ _ (.inl hb)]⟩
theorem newv_room (z x : Nat) (bs : List UInt8) (h : x + 88 ≤ z) (hl : z ≤ bs.length) : ∃ cs, newv z x bs 3 = (((x : Int), 0), x + 88, cs) ∧ cs.length = bs.length ∧ (∀ b, b + 8 ≤ x → cellv cs b = cellv bs b) ∧ cellv cs x = 3 := by
  obtain ⟨h1, h2, h3, h4⟩ := layz_room z 10 (x + 8) (setv bs x 3) (by omega)
  have e : layt z x bs 3 = layz z 10 (x + 8) (setv bs x 3) := by unfold layt; rw [if_pos (by omega)]; rfl
  refine ⟨(layz z 10 (x + 8) (setv bs x 3)).2.1, ?_, by rw [h3, setv_length], fun b hb => by rw [h4 b (by omega), cellv_other _ _ _ _ (.inl hb)], by rw [h4 x (by omega), cellv_same _ _ _ (by omega) (by omega)]⟩
  unfold newv
  rw [if_pos ⟨by omega, by omega⟩, show (3 : Int).toNat = 3 from rfl, e, if_pos h2, h1]

theorem cellv_put_other (bs T : List UInt8) (a b : Nat) (h : b + 8 ≤ a) (hl : a ≤ bs.length) : cellv (put bs a T) b = cellv bs b := by
  unfold cellv
  rw [rd_congr (bs := put bs a T) (cs := bs) 8 (fun i hi => ?_)]
  simp only [put, List.getD_eq_getElem?_getD, List.append_assoc]
  rw [List.getElem?_append_left (by simp; omega), List.getElem?_take, if_pos (by omega)]
theorem cellv_put_same (bs T : List UInt8) (a t : Nat) (hT : T = text bs t 88) (ht : t + 88 ≤ bs.length) (hl : a ≤ bs.length) : cellv (put bs a T) a = cellv bs t := by
  unfold cellv
  have hTl : T.length = 88 := by rw [hT]; exact text_length _ _ _ ht
  rw [rd_congr (bs := put bs a T) (cs := bs) (b := t) 8 (fun i hi => ?_)]
  have := text_get bs t 88 i (by omega)
  rw [← this, ← hT]
  simp only [put, List.getD_eq_getElem?_getD]
  rw [List.getElem?_append_left (by simp; omega), List.getElem?_append_right (by simp; omega)]
  simp [Nat.min_eq_left hl]

theorem copyv_room (x : Nat) (bs : List UInt8) (t : Nat) (h : x + 88 ≤ 65536) (hl : bs.length = 65536) (ht : t + 88 ≤ x) (h8 : t % 8 = 0) (h3 : cellv bs t = 3) : ∃ cs, copyv 65536 x bs t = (((x : Int), 0), x + 88, cs) ∧ cs.length = bs.length ∧ (∀ b, b + 8 ≤ x → cellv cs b = cellv bs b) ∧ cellv cs x = 3 := by
  have hs : slots bs t = 3 := by
    unfold slots
    rw [cell_at t hl (by omega) h8, h3, if_pos ⟨rfl, by omega, by omega, by simp [has]; omega⟩]
  obtain ⟨cs, hn, hcl, hco, hcx⟩ := newv_room 65536 x bs h (by omega)
  have htx : (txt cs t (16 + 3 * 24)).1 = text cs t 88 := by unfold txt; rw [if_pos (by simp [has]; omega)]; rfl
  have hse : sett cs (x : Int) (text cs t 88) = put cs x (text cs t 88) := by
    unfold sett
    rw [if_pos (by simp [has, text_length cs t 88 (by omega)]; omega)]
    rfl
  unfold copyv
  rw [hs, hn, if_pos rfl]
  dsimp only
  rw [htx, hse]
  refine ⟨_, rfl, ?_, fun b hb => ?_, ?_⟩
  · rw [put_length _ _ _ (by rw [text_length _ _ _ (by omega)]; omega), hcl]
  · rw [cellv_put_other _ _ _ _ hb (by omega), hco b hb]
  · rw [cellv_put_same cs _ x t rfl (by omega) (by omega), hco t (by omega), h3]

theorem layl5 (z y : Nat) (bs : List UInt8) (n0 n1 n2 n3 n4 : Int) (h : y + 40 ≤ z) : layl z [n0, n1, n2, n3, n4] y bs = (y + 40, setv (setv (setv (setv (setv bs y n0) (y + 8) n1) (y + 16) n2) (y + 24) n3) (y + 32) n4, true) := by
  rw [layl, if_pos (by omega), layl, if_pos (by omega), layl, if_pos (by omega), layl, if_pos (by omega), layl, if_pos (by omega), layl]

theorem CW.step {k : Nat} {bs : List UInt8} (h : CW k bs) (hk : k ≤ 40) (par : Int) (hp : par = 0 ∨ ∃ j, j < k ∧ par = ((104 + 128 * j : Nat) : Int)) :
    ∃ bs1, cnewv 65536 (16 + 128 * k) bs 8 par 3 = ((((104 + 128 * k : Nat) : Int), 0), 16 + 128 * (k + 1), bs1) ∧ CW (k + 1) bs1 := by
  obtain ⟨cs, htab, hcl, hco, hcx⟩ : ∃ cs, tabv 65536 (16 + 128 * k) bs 8 par 3 = ((((16 + 128 * k : Nat) : Int), 0), 16 + 128 * k + 88, cs, 8) ∧ cs.length = bs.length ∧ (∀ b, b + 8 ≤ 16 + 128 * k → cellv cs b = cellv bs b) ∧ cellv cs (16 + 128 * k) = 3 := by
    have hl := h.len
    unfold tabv
    rcases hp with rfl | ⟨j, hj, rfl⟩
    · obtain ⟨cs, hn, h1, h2, h3⟩ := newv_room 65536 (16 + 128 * k) bs (by omega) (by omega)
      rw [if_pos rfl, hn]
      exact ⟨cs, rfl, h1, h2, h3⟩
    · obtain ⟨par, hv⟩ := h.v (by omega) j hj
      obtain ⟨cs, hn, h1, h2, h3⟩ := copyv_room (16 + 128 * k) bs (16 + 128 * j) (by omega) hl (by omega) (by omega) (h.tab j hj)
      rw [if_neg (by omega), if_pos (by rw [h.isIn (by omega)]; exact decide_eq_true (List.mem_map.2 ⟨j, by simpa using hj, rfl⟩)), hv]
      dsimp only
      rw [hn]
      exact ⟨cs, rfl, h1, h2, h3⟩
  have hl := h.len
  have hlast := lastc_lt k
  have hroot : cell bs 8 = (((lastc k : Nat) : Int), 0) := by rw [show (8 : Int) = ((8 : Nat) : Int) from rfl, cell_at 8 hl (by omega) (by omega), h.root]
  obtain ⟨ds, hds⟩ : ∃ ds, setv (setv (setv (setv (setv cs (16 + 128 * k + 88) magic) (16 + 128 * k + 88 + 8) par) (16 + 128 * k + 88 + 16) 8) (16 + 128 * k + 88 + 24) ((16 + 128 * k : Nat) : Int)) (16 + 128 * k + 88 + 32) (lastc k : Nat) = ds := ⟨_, rfl⟩
  have hdl : ds.length = 65536 := by rw [← hds]; simp only [setv_length]; omega
  refine ⟨setv ds 8 ((104 + 128 * k : Nat) : Int), ?_, ?_⟩
  · have hcl2 : clayv 65536 (16 + 128 * k) bs 8 par 3 (lastc k : Nat) = ((((104 + 128 * k : Nat) : Int), 0), 16 + 128 * k + 88 + 40, ds) := by
      unfold clayv
      rw [htab, if_pos rfl]
      dsimp only
      rw [layl5 _ _ _ _ _ _ _ _ (by omega), if_pos rfl, hds]
      dsimp only
      rw [show ((16 + 128 * k + 88 : Nat) : Int) = ((104 + 128 * k : Nat) : Int) by omega]
    unfold cnewv
    rw [hroot, if_pos rfl]
    dsimp only
    rw [hcl2, if_pos rfl]
    dsimp only
    rw [show setc ds 8 ((104 + 128 * k : Nat) : Int) = setv ds 8 ((104 + 128 * k : Nat) : Int) by
      unfold setc
      rw [if_pos (code_of (by omega) (by omega) (by omega))]
      rfl]
    rw [show 16 + 128 * k + 88 + 40 = 16 + 128 * (k + 1) by omega]
  · have low : ∀ b, 16 ≤ b → b + 8 ≤ 16 + 128 * k → cellv (setv ds 8 ((104 + 128 * k : Nat) : Int)) b = cellv bs b := fun b h16 hb => by
      rw [cellv_other _ _ _ _ (.inr (by omega)), ← hds, cellv_other _ _ _ _ (.inl (by omega)), cellv_other _ _ _ _ (.inl (by omega)), cellv_other _ _ _ _ (.inl (by omega)), cellv_other _ _ _ _ (.inl (by omega)), cellv_other _ _ _ _ (.inl (by omega)), hco b hb]
    have a0 : cellv (setv ds 8 ((104 + 128 * k : Nat) : Int)) (16 + 128 * k) = 3 := by
      rw [cellv_other _ _ _ _ (.inr (by omega)), ← hds, cellv_other _ _ _ _ (.inl (by omega)), cellv_other _ _ _ _ (.inl (by omega)), cellv_other _ _ _ _ (.inl (by omega)), cellv_other _ _ _ _ (.inl (by omega)), cellv_other _ _ _ _ (.inl (by omega)), hcx]
    have a1 : cellv (setv ds 8 ((104 + 128 * k : Nat) : Int)) (104 + 128 * k) = magic := by
      rw [cellv_other _ _ _ _ (.inr (by omega)), ← hds, cellv_other _ _ _ _ (.inl (by omega)), cellv_other _ _ _ _ (.inl (by omega)), cellv_other _ _ _ _ (.inl (by omega)), cellv_other _ _ _ _ (.inl (by omega)), show 104 + 128 * k = 16 + 128 * k + 88 by omega, cellv_same _ _ _ (by omega) (by unfold magic; omega)]
    have a3 : cellv (setv ds 8 ((104 + 128 * k : Nat) : Int)) (120 + 128 * k) = 8 := by
      rw [cellv_other _ _ _ _ (.inr (by omega)), ← hds, cellv_other _ _ _ _ (.inl (by omega)), cellv_other _ _ _ _ (.inl (by omega)), show 120 + 128 * k = 16 + 128 * k + 88 + 16 by omega, cellv_same _ _ _ (by simp only [setv_length]; omega) (by omega)]
    have a4 : cellv (setv ds 8 ((104 + 128 * k : Nat) : Int)) (128 + 128 * k) = ((16 + 128 * k : Nat) : Int) := by
      rw [cellv_other _ _ _ _ (.inr (by omega)), ← hds, cellv_other _ _ _ _ (.inl (by omega)), show 128 + 128 * k = 16 + 128 * k + 88 + 24 by omega, cellv_same _ _ _ (by simp only [setv_length]; omega) (by omega)]
    have a5 : cellv (setv ds 8 ((104 + 128 * k : Nat) : Int)) (136 + 128 * k) = (lastc k : Nat) := by
      rw [cellv_other _ _ _ _ (.inr (by omega)), ← hds, show 136 + 128 * k = 16 + 128 * k + 88 + 32 by omega, cellv_same _ _ _ (by simp only [setv_length]; omega) (by omega)]
    refine ⟨by rw [setv_length, hdl], by rw [cellv_same _ _ _ (by omega) (by omega)]; rfl, ?_, ?_, ?_, ?_, ?_⟩ <;> intro j hj <;> rcases Nat.lt_or_eq_of_le (Nat.le_of_lt_succ hj) with hjk | rfl
    · rw [low _ (by omega) (by omega), h.mag j hjk]
    · exact a1
    · rw [low _ (by omega) (by omega), h.siz j hjk]
    · exact a3
    · rw [low _ (by omega) (by omega), h.tb j hjk]
    · exact a4
    · rw [low _ (by omega) (by omega), h.prv j hjk]
    · exact a5
    · rw [low _ (by omega) (by omega), h.tab j hjk]
    · exact a0
end Go.Proofs.Ytajeiccfgnpbpaa.Mem

/- Contracts of package object: sizeOf, Class, Send. -/
namespace Go.Proofs.Ytajeiccfgnpbpaa.Mem
open Go.RowKit

/-- What sizeOf tells: how many bytes objects of a class have, and the code. -/
def sizev (bs : List UInt8) (c : Int) : Int × Int :=
  if isCl bs c = true then (if (clv bs c).size < 8 ∨ 1048576 < (clv bs c).size then (0, -256) else ((clv bs c).size, 0)) else (0, -2048)

set_option maxRecDepth 100000 in
set_option maxHeartbeats 2000000 in
theorem sizeOf_any (p g : Nat) (bs : List UInt8) (c : Int) (w : World) (h : Mat 108 w p g bs) (hc : -9223372036854775808 ≤ c ∧ c ≤ 9223372036854775807) :
    Calls Try.prog 88 #[.pointer (some ⟨p, 0, none⟩), .int .i64 c] w fun e w' => e = .returned (.tuple #[.int .i64 (sizev bs c).1, .int .i64 (sizev bs c).2]) ∧ Fr (fun _ => False) w w' := by
  have hr := cread_any p g bs c w h hc
  unfold sizev
  by_cases hi : isCl bs c = true
  · rw [if_pos hi]
    rw [hi] at hr
    obtain ⟨⟨k0, k1, k2, k3, k4⟩, hk⟩ : ∃ r, clv bs c = r := ⟨_, rfl⟩
    rw [hk] at hr ⊢
    dsimp only
    simp only [clval] at hr
    have HR := Lib.hid hr
    clear h hi hk hr
    by_cases h1 : k2 < 8
    · rw [if_pos (.inl h1)]
      go_enter Try.func88, Try.ntmps88
      go_wp2_with fail
      refine HR.out.mono ?_
      rintro e w1 ⟨rfl, hf⟩
      have F1 := Lib.hid hf
      clear hf
      go_wp2_with fail
      go_ret2
      exact ⟨rfl, F1.out.alloc _⟩
    · by_cases h2 : 1048576 < k2
      · rw [if_pos (.inr h2)]
        go_enter Try.func88, Try.ntmps88
        go_wp2_with fail
        refine HR.out.mono ?_
        rintro e w1 ⟨rfl, hf⟩
        have F1 := Lib.hid hf
        clear hf
        go_wp2_with fail
        go_ret2
        exact ⟨rfl, F1.out.alloc _⟩
      · rw [if_neg (by omega)]
        go_enter Try.func88, Try.ntmps88
        go_wp2_with fail
        refine HR.out.mono ?_
        rintro e w1 ⟨rfl, hf⟩
        have F1 := Lib.hid hf
        clear hf
        go_wp2_with fail
        go_ret2
        exact ⟨rfl, F1.out.alloc _⟩
  · have hi' : isCl bs c = false := by simpa using hi
    rw [if_neg hi]
    rw [hi', clv_none hi'] at hr
    simp only [clval] at hr
    have HR := Lib.hid hr
    clear h hi hi' hr
    go_enter Try.func88, Try.ntmps88
    go_wp2_with fail
    refine HR.out.mono ?_
    rintro e w1 ⟨rfl, hf⟩
    have F1 := Lib.hid hf
    clear hf
    go_wp2_with fail
    go_ret2
    exact ⟨rfl, F1.out.alloc _⟩

/-- What Class tells. -/
def ocls (bs : List UInt8) (root a : Int) : Int × Int := if (cell bs a).2 = 0 ∧ isIn bs root (cell bs a).1 = true then ((cell bs a).1, 0) else (0, -2048)

set_option maxRecDepth 100000 in
set_option maxHeartbeats 2000000 in
theorem ocls_any (p g : Nat) (bs : List UInt8) (root a : Int) (w : World) (h : Mat 108 w p g bs) :
    Calls Try.prog 47 #[.pointer (some ⟨p, 0, none⟩), .int .i64 root, .int .i64 a] w fun e w' => e = .returned (.tuple #[.int .i64 (ocls bs root a).1, .int .i64 (ocls bs root a).2]) ∧ Fr (fun _ => False) w w' := by
  have hc := cell_any p g bs a w h
  have hI := fun c => is_any p g bs root c w h
  unfold ocls
  obtain ⟨⟨c, d⟩, hcd⟩ : ∃ r, cell bs a = r := ⟨_, rfl⟩
  rw [hcd] at hc ⊢
  dsimp only
  replace hI := hI c
  have HC := Lib.hid hc
  clear h hcd hc
  by_cases hd : d = 0
  · subst hd
    by_cases hi : isIn bs root c = true
    · rw [if_pos ⟨rfl, hi⟩]
      rw [hi] at hI
      have HI := Lib.hid hI
      clear hi hI
      go_enter Try.func47, Try.ntmps47
      go_wp2_with (first | (go_at_call 46; refine HC.out.mono ?_; rintro e w' ⟨rfl, h0⟩; obtain rfl := h0.symm) | (go_at_call 27; refine HI.out.mono ?_; rintro e w1 ⟨rfl, hf⟩; have F1 := Lib.hid hf; clear hf))
      go_ret2
      exact ⟨rfl, F1.out⟩
    · have hi' : isIn bs root c = false := by simpa using hi
      rw [if_neg (fun e => hi e.2)]
      rw [hi'] at hI
      have HI := Lib.hid hI
      clear hi hi' hI
      go_enter Try.func47, Try.ntmps47
      go_wp2_with (first | (go_at_call 46; refine HC.out.mono ?_; rintro e w' ⟨rfl, h0⟩; obtain rfl := h0.symm) | (go_at_call 27; refine HI.out.mono ?_; rintro e w1 ⟨rfl, hf⟩; have F1 := Lib.hid hf; clear hf))
      go_ret2
      exact ⟨rfl, F1.out⟩
  · rw [if_neg (fun e => hd e.1)]
    have hd' : (d != 0) = true := by simp [hd]
    clear hI hd
    go_enter Try.func47, Try.ntmps47
    go_wp2_with (go_at_call 46; refine HC.out.mono ?_; rintro e w' ⟨rfl, h0⟩; obtain rfl := h0.symm)
    go_ret2
    exact ⟨rfl, Fr.refl _ _⟩

/-- What Send tells: the method, how many slots were looked at, the code. -/
def osend (bs : List UInt8) (root a sel : Int) : Int × Int × Int :=
  if (ocls bs root a).2 = 0 then (if (lookv bs (ocls bs root a).1 sel).2.2 = true then ((lookv bs (ocls bs root a).1 sel).1.xt, (lookv bs (ocls bs root a).1 sel).2.1, 0) else (0, 0, -2049)) else (0, 0, (ocls bs root a).2)

theorem ocls_bd (bs : List UInt8) (root a : Int) : -9223372036854775808 ≤ (ocls bs root a).1 ∧ (ocls bs root a).1 ≤ 9223372036854775807 := by
  unfold ocls
  split
  · exact cell_bd' bs a
  · simp

set_option maxRecDepth 100000 in
set_option maxHeartbeats 2000000 in
theorem osend_any (p g : Nat) (bs : List UInt8) (root a sel : Int) (w : World) (h : Mat 108 w p g bs) :
    Calls Try.prog 48 #[.pointer (some ⟨p, 0, none⟩), .int .i64 root, .int .i64 a, .int .i64 sel] w fun e w' => e = .returned (.tuple #[.int .i64 (osend bs root a sel).1, .int .i64 (osend bs root a sel).2.1, .int .i64 (osend bs root a sel).2.2]) ∧ Fr (fun _ => False) w w' := by
  have hc := ocls_any p g bs root a w h
  have hl := fun c w h hc => clookup_any p g bs c sel w h hc
  have hb := ocls_bd bs root a
  have H := Lib.hid h
  unfold osend
  obtain ⟨⟨c, d⟩, hcd⟩ : ∃ r, ocls bs root a = r := ⟨_, rfl⟩
  rw [hcd] at hc hb ⊢
  dsimp only at hc hb ⊢
  replace hl := fun w h => hl c w h hb
  have HC := Lib.hid hc
  clear h hcd hc hb
  by_cases hd : d = 0
  · subst hd
    rw [if_pos rfl]
    obtain ⟨⟨⟨e0, e1, e2⟩, n, ok⟩, hv⟩ : ∃ v, lookv bs c sel = v := ⟨_, rfl⟩
    rw [hv] at hl ⊢
    simp only [entv] at hl
    dsimp only
    have HL := Lib.hid hl
    clear hv hl
    cases ok with
    | true =>
      rw [if_pos rfl]
      go_enter Try.func48, Try.ntmps48
      go_wp2_with (first | (go_at_call 47; refine HC.out.mono ?_; rintro e w1 ⟨rfl, hf⟩; have F1 := Lib.hid hf; clear hf) | (go_at_call 77; refine (HL.out _ (H.out.fr F1.out id id)).mono ?_; rintro e w2 ⟨rfl, hf⟩; have F2 := Lib.hid (F1.out.trans hf); clear hf))
      go_ret3
      exact ⟨rfl, F2.out.alloc _⟩
    | false =>
      rw [if_neg (by decide)]
      go_enter Try.func48, Try.ntmps48
      go_wp2_with (first | (go_at_call 47; refine HC.out.mono ?_; rintro e w1 ⟨rfl, hf⟩; have F1 := Lib.hid hf; clear hf) | (go_at_call 77; refine (HL.out _ (H.out.fr F1.out id id)).mono ?_; rintro e w2 ⟨rfl, hf⟩; have F2 := Lib.hid (F1.out.trans hf); clear hf))
      go_ret3
      exact ⟨rfl, F2.out.alloc _⟩
  · rw [if_neg hd]
    have hd' : (d != 0) = true := by simp [hd]
    clear hl hd
    go_enter Try.func48, Try.ntmps48
    go_wp2_with (go_at_call 47; refine HC.out.mono ?_; rintro e w1 ⟨rfl, hf⟩; have F1 := Lib.hid hf; clear hf)
    go_ret3
    exact ⟨rfl, F1.out⟩
end Go.Proofs.Ytajeiccfgnpbpaa.Mem
