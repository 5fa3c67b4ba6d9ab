/- Plain mathematics of the statement ClassIs: a memory with k classes, one behind another. No program. -/
import Derived.Test.YtajeiccfgnpbpaaClsD
namespace Go.Proofs.Ytajeiccfgnpbpaa.Mem
open Go.RowKit

/-- The last of k classes; 0: there is none. -/
def lastc : Nat → Nat
  | 0 => 0
  | k + 1 => 104 + 128 * k
theorem lastc_lt (k : Nat) : lastc k < 104 + 128 * k := by cases k <;> simp only [lastc] <;> omega

/-- A memory of 65536 bytes with k classes of three slots, one behind another. -/
structure CW (k : Nat) (bs : List UInt8) : Prop where
  len : bs.length = 65536
  root : cellv bs 8 = (lastc k : Nat)
  mag : ∀ j, j < k → cellv bs (104 + 128 * j) = magic
  siz : ∀ j, j < k → cellv bs (120 + 128 * j) = 8
  tb : ∀ j, j < k → cellv bs (128 + 128 * j) = ((16 + 128 * j : Nat) : Int)
  prv : ∀ j, j < k → cellv bs (136 + 128 * j) = (lastc j : Nat)
  tab : ∀ j, j < k → cellv bs (16 + 128 * j) = 3

theorem cell_at {bs : List UInt8} (n : Nat) (h : bs.length = 65536) (h1 : n + 8 ≤ 65536) (h8 : n % 8 = 0) : cell bs (n : Int) = (cellv bs n, 0) := by
  unfold cell
  rw [if_pos (code_of (by omega) (by omega) (by omega))]
  rfl
theorem CW.is {k : Nat} {bs : List UInt8} (h : CW k bs) (hk : k ≤ 41) (j : Nat) (hj : j < k) : isCl bs ((104 + 128 * j : Nat) : Int) = true := by
  unfold isCl
  rw [show ((104 + 128 * j : Nat) : Int) + 8 = ((112 + 128 * j : Nat) : Int) by omega, show ((104 + 128 * j : Nat) : Int) + 16 = ((120 + 128 * j : Nat) : Int) by omega, show ((104 + 128 * j : Nat) : Int) + 24 = ((128 + 128 * j : Nat) : Int) by omega, show ((104 + 128 * j : Nat) : Int) + 32 = ((136 + 128 * j : Nat) : Int) by omega,
    cell_at (104 + 128 * j) h.len (by omega) (by omega), cell_at (112 + 128 * j) h.len (by omega) (by omega), cell_at (120 + 128 * j) h.len (by omega) (by omega), cell_at (128 + 128 * j) h.len (by omega) (by omega), cell_at (136 + 128 * j) h.len (by omega) (by omega), h.mag j hj]
  rfl
theorem CW.v {k : Nat} {bs : List UInt8} (h : CW k bs) (hk : k ≤ 41) (j : Nat) (hj : j < k) : ∃ par, clv bs ((104 + 128 * j : Nat) : Int) = ⟨((104 + 128 * j : Nat) : Int), par, 8, ((16 + 128 * j : Nat) : Int), (lastc j : Nat)⟩ := by
  refine ⟨cellv bs (112 + 128 * j), ?_⟩
  unfold clv
  rw [if_pos (h.is hk j hj), show ((104 + 128 * j : Nat) : Int) + 8 = ((112 + 128 * j : Nat) : Int) by omega, show ((104 + 128 * j : Nat) : Int) + 16 = ((120 + 128 * j : Nat) : Int) by omega, show ((104 + 128 * j : Nat) : Int) + 24 = ((128 + 128 * j : Nat) : Int) by omega, show ((104 + 128 * j : Nat) : Int) + 32 = ((136 + 128 * j : Nat) : Int) by omega,
    cell_at (112 + 128 * j) h.len (by omega) (by omega), cell_at (120 + 128 * j) h.len (by omega) (by omega), cell_at (128 + 128 * j) h.len (by omega) (by omega), cell_at (136 + 128 * j) h.len (by omega) (by omega), h.siz j hj, h.tb j hj, h.prv j hj]

theorem CW.chain {k : Nat} {bs : List UInt8} (h : CW k bs) (hk : k ≤ 41) (a : Int) : ∀ m, m ≤ k → ∀ f (lim : Int), m < f → ((lastc m : Nat) : Int) < lim → chainIs bs a f lim (lastc m : Nat) = decide (∃ j : Nat, j < m ∧ a = ((104 + 128 * j : Nat) : Int))
  | 0, _, f, lim, _, _ => by
    rw [chainIs_end _ _ _ _ _ (by simp [lastc])]
    simp
  | m + 1, hm, f, lim, hf, hl => by
    obtain ⟨f, rfl⟩ : ∃ g, f = g + 1 := ⟨f - 1, by omega⟩
    obtain ⟨par, hv⟩ := h.v hk m (by omega)
    rw [show lastc (m + 1) = 104 + 128 * m from rfl] at hl ⊢
    rw [chainIs, if_pos ⟨by omega, hl, h.is hk m (by omega)⟩, hv]
    by_cases ha : ((104 + 128 * m : Nat) : Int) = a
    · rw [if_pos ha]
      exact (decide_eq_true ⟨m, by omega, ha.symm⟩).symm
    · rw [if_neg ha]
      have := lastc_lt m
      have ih := CW.chain h hk a m (by omega) f ((104 + 128 * m : Nat) : Int) (by omega) (by omega)
      refine ih.trans (decide_eq_decide.2 ⟨fun ⟨j, hj, e⟩ => ⟨j, by omega, e⟩, fun ⟨j, hj, e⟩ => ⟨j, ?_, e⟩⟩)
      by_cases hjm : j = m
      · subst hjm; exact absurd e.symm ha
      · omega

/-- The classes' places. -/
def atc (k : Nat) : List Int := (List.range k).map fun j => ((104 + 128 * j : Nat) : Int)
theorem atc_succ (k : Nat) : atc (k + 1) = atc k ++ [((104 + 128 * k : Nat) : Int)] := by simp [atc, List.range_succ]
theorem atc_len (k : Nat) : (atc k).length = k := by simp [atc]
theorem atc_get (k j : Nat) (h : j < k) : (atc k)[j]? = some ((104 + 128 * j : Nat) : Int) := by simp [atc, h]
theorem CW.isIn {k : Nat} {bs : List UInt8} (h : CW k bs) (hk : k ≤ 41) (a : Int) : isIn bs 8 a = decide (a ∈ atc k) := by
  unfold Mem.isIn
  have := lastc_lt k
  rw [h.len, show (8 : Int) = ((8 : Nat) : Int) from rfl, cell_at 8 h.len (by omega) (by omega), h.root, h.chain hk a k (Nat.le_refl _) _ _ (by omega) (by omega)]
  refine decide_eq_decide.2 ⟨fun ⟨j, hj, e⟩ => ?_, fun hm => ?_⟩
  · exact List.mem_map.2 ⟨j, by simpa using hj, e.symm⟩
  · obtain ⟨j, hj, e⟩ := List.mem_map.1 hm
    exact ⟨j, by simpa using hj, e.symm⟩

theorem layz_room (z : Nat) : ∀ m x bs, x + 8 * m ≤ z → (layz z m x bs).1 = x + 8 * m ∧ (layz z m x bs).2.2 = true ∧ (layz z m x bs).2.1.length = bs.length ∧ ∀ b, b + 8 ≤ x → cellv (layz z m x bs).2.1 b = cellv bs b
  | 0, x, bs, _ => ⟨rfl, rfl, rfl, fun _ _ => rfl⟩
  | m + 1, x, bs, h => by
    rw [layz, if_pos (by omega)]
    obtain ⟨h1, h2, h3, h4⟩ := layz_room z m (x + 8) (setv bs x 0) (by omega)
    exact ⟨by omega, h2, by rw [h3, setv_length], fun b hb => by rw [h4 b (by omega), cellv_other _ _ _ _ (.inl hb)]⟩
theorem newv_room (z x : Nat) (bs : List UInt8) (h : x + 88 ≤ z) (hl : z ≤ bs.length) : ∃ cs, newv z x bs 3 = (((x : Int), 0), x + 88, cs) ∧ cs.length = bs.length ∧ (∀ b, b + 8 ≤ x → cellv cs b = cellv bs b) ∧ cellv cs x = 3 := by
  obtain ⟨h1, h2, h3, h4⟩ := layz_room z 10 (x + 8) (setv bs x 3) (by omega)
  have e : layt z x bs 3 = layz z 10 (x + 8) (setv bs x 3) := by unfold layt; rw [if_pos (by omega)]; rfl
  refine ⟨(layz z 10 (x + 8) (setv bs x 3)).2.1, ?_, by rw [h3, setv_length], fun b hb => by rw [h4 b (by omega), cellv_other _ _ _ _ (.inl hb)], by rw [h4 x (by omega), cellv_same _ _ _ (by omega) (by omega)]⟩
  unfold newv
  rw [if_pos ⟨by omega, by omega⟩, show (3 : Int).toNat = 3 from rfl, e, if_pos h2, h1]

theorem cellv_put_other (bs T : List UInt8) (a b : Nat) (h : b + 8 ≤ a) (hl : a ≤ bs.length) : cellv (put bs a T) b = cellv bs b := by
  unfold cellv
  rw [rd_congr (bs := put bs a T) (cs := bs) 8 (fun i hi => ?_)]
  simp only [put, List.getD_eq_getElem?_getD, List.append_assoc]
  rw [List.getElem?_append_left (by simp; omega), List.getElem?_take, if_pos (by omega)]
theorem cellv_put_same (bs T : List UInt8) (a t : Nat) (hT : T = text bs t 88) (ht : t + 88 ≤ bs.length) (hl : a ≤ bs.length) : cellv (put bs a T) a = cellv bs t := by
  unfold cellv
  have hTl : T.length = 88 := by rw [hT]; exact text_length _ _ _ ht
  rw [rd_congr (bs := put bs a T) (cs := bs) (b := t) 8 (fun i hi => ?_)]
  have := text_get bs t 88 i (by omega)
  rw [← this, ← hT]
  simp only [put, List.getD_eq_getElem?_getD]
  rw [List.getElem?_append_left (by simp; omega), List.getElem?_append_right (by simp; omega)]
  simp [Nat.min_eq_left hl]

theorem copyv_room (x : Nat) (bs : List UInt8) (t : Nat) (h : x + 88 ≤ 65536) (hl : bs.length = 65536) (ht : t + 88 ≤ x) (h8 : t % 8 = 0) (h3 : cellv bs t = 3) : ∃ cs, copyv 65536 x bs t = (((x : Int), 0), x + 88, cs) ∧ cs.length = bs.length ∧ (∀ b, b + 8 ≤ x → cellv cs b = cellv bs b) ∧ cellv cs x = 3 := by
  have hs : slots bs t = 3 := by
    unfold slots
    rw [cell_at t hl (by omega) h8, h3, if_pos ⟨rfl, by omega, by omega, by simp [has]; omega⟩]
  obtain ⟨cs, hn, hcl, hco, hcx⟩ := newv_room 65536 x bs h (by omega)
  have htx : (txt cs t (16 + 3 * 24)).1 = text cs t 88 := by unfold txt; rw [if_pos (by simp [has]; omega)]; rfl
  have hse : sett cs (x : Int) (text cs t 88) = put cs x (text cs t 88) := by
    unfold sett
    rw [if_pos (by simp [has, text_length cs t 88 (by omega)]; omega)]
    rfl
  unfold copyv
  rw [hs, hn, if_pos rfl]
  dsimp only
  rw [htx, hse]
  refine ⟨_, rfl, ?_, fun b hb => ?_, ?_⟩
  · rw [put_length _ _ _ (by rw [text_length _ _ _ (by omega)]; omega), hcl]
  · rw [cellv_put_other _ _ _ _ hb (by omega), hco b hb]
  · rw [cellv_put_same cs _ x t rfl (by omega) (by omega), hco t (by omega), h3]

theorem layl5 (z y : Nat) (bs : List UInt8) (n0 n1 n2 n3 n4 : Int) (h : y + 40 ≤ z) : layl z [n0, n1, n2, n3, n4] y bs = (y + 40, setv (setv (setv (setv (setv bs y n0) (y + 8) n1) (y + 16) n2) (y + 24) n3) (y + 32) n4, true) := by
  rw [layl, if_pos (by omega), layl, if_pos (by omega), layl, if_pos (by omega), layl, if_pos (by omega), layl, if_pos (by omega), layl]

theorem CW.step {k : Nat} {bs : List UInt8} (h : CW k bs) (hk : k ≤ 40) (par : Int) (hp : par = 0 ∨ ∃ j, j < k ∧ par = ((104 + 128 * j : Nat) : Int)) :
    ∃ bs1, cnewv 65536 (16 + 128 * k) bs 8 par 3 = ((((104 + 128 * k : Nat) : Int), 0), 16 + 128 * (k + 1), bs1) ∧ CW (k + 1) bs1 := by
  obtain ⟨cs, htab, hcl, hco, hcx⟩ : ∃ cs, tabv 65536 (16 + 128 * k) bs 8 par 3 = ((((16 + 128 * k : Nat) : Int), 0), 16 + 128 * k + 88, cs, 8) ∧ cs.length = bs.length ∧ (∀ b, b + 8 ≤ 16 + 128 * k → cellv cs b = cellv bs b) ∧ cellv cs (16 + 128 * k) = 3 := by
    have hl := h.len
    unfold tabv
    rcases hp with rfl | ⟨j, hj, rfl⟩
    · obtain ⟨cs, hn, h1, h2, h3⟩ := newv_room 65536 (16 + 128 * k) bs (by omega) (by omega)
      rw [if_pos rfl, hn]
      exact ⟨cs, rfl, h1, h2, h3⟩
    · obtain ⟨par, hv⟩ := h.v (by omega) j hj
      obtain ⟨cs, hn, h1, h2, h3⟩ := copyv_room (16 + 128 * k) bs (16 + 128 * j) (by omega) hl (by omega) (by omega) (h.tab j hj)
      rw [if_neg (by omega), if_pos (by rw [h.isIn (by omega)]; exact decide_eq_true (List.mem_map.2 ⟨j, by simpa using hj, rfl⟩)), hv]
      dsimp only
      rw [hn]
      exact ⟨cs, rfl, h1, h2, h3⟩
  have hl := h.len
  have hlast := lastc_lt k
  have hroot : cell bs 8 = (((lastc k : Nat) : Int), 0) := by rw [show (8 : Int) = ((8 : Nat) : Int) from rfl, cell_at 8 hl (by omega) (by omega), h.root]
  obtain ⟨ds, hds⟩ : ∃ ds, setv (setv (setv (setv (setv cs (16 + 128 * k + 88) magic) (16 + 128 * k + 88 + 8) par) (16 + 128 * k + 88 + 16) 8) (16 + 128 * k + 88 + 24) ((16 + 128 * k : Nat) : Int)) (16 + 128 * k + 88 + 32) (lastc k : Nat) = ds := ⟨_, rfl⟩
  have hdl : ds.length = 65536 := by rw [← hds]; simp only [setv_length]; omega
  refine ⟨setv ds 8 ((104 + 128 * k : Nat) : Int), ?_, ?_⟩
  · have hcl2 : clayv 65536 (16 + 128 * k) bs 8 par 3 (lastc k : Nat) = ((((104 + 128 * k : Nat) : Int), 0), 16 + 128 * k + 88 + 40, ds) := by
      unfold clayv
      rw [htab, if_pos rfl]
      dsimp only
      rw [layl5 _ _ _ _ _ _ _ _ (by omega), if_pos rfl, hds]
      dsimp only
      rw [show ((16 + 128 * k + 88 : Nat) : Int) = ((104 + 128 * k : Nat) : Int) by omega]
    unfold cnewv
    rw [hroot, if_pos rfl]
    dsimp only
    rw [hcl2, if_pos rfl]
    dsimp only
    rw [show setc ds 8 ((104 + 128 * k : Nat) : Int) = setv ds 8 ((104 + 128 * k : Nat) : Int) by
      unfold setc
      rw [if_pos (code_of (by omega) (by omega) (by omega))]
      rfl]
    rw [show 16 + 128 * k + 88 + 40 = 16 + 128 * (k + 1) by omega]
  · have low : ∀ b, 16 ≤ b → b + 8 ≤ 16 + 128 * k → cellv (setv ds 8 ((104 + 128 * k : Nat) : Int)) b = cellv bs b := fun b h16 hb => by
      rw [cellv_other _ _ _ _ (.inr (by omega)), ← hds, cellv_other _ _ _ _ (.inl (by omega)), cellv_other _ _ _ _ (.inl (by omega)), cellv_other _ _ _ _ (.inl (by omega)), cellv_other _ _ _ _ (.inl (by omega)), cellv_other _ _ _ _ (.inl (by omega)), hco b hb]
    have a0 : cellv (setv ds 8 ((104 + 128 * k : Nat) : Int)) (16 + 128 * k) = 3 := by
      rw [cellv_other _ _ _ _ (.inr (by omega)), ← hds, cellv_other _ _ _ _ (.inl (by omega)), cellv_other _ _ _ _ (.inl (by omega)), cellv_other _ _ _ _ (.inl (by omega)), cellv_other _ _ _ _ (.inl (by omega)), cellv_other _ _ _ _ (.inl (by omega)), hcx]
    have a1 : cellv (setv ds 8 ((104 + 128 * k : Nat) : Int)) (104 + 128 * k) = magic := by
      rw [cellv_other _ _ _ _ (.inr (by omega)), ← hds, cellv_other _ _ _ _ (.inl (by omega)), cellv_other _ _ _ _ (.inl (by omega)), cellv_other _ _ _ _ (.inl (by omega)), cellv_other _ _ _ _ (.inl (by omega)), show 104 + 128 * k = 16 + 128 * k + 88 by omega, cellv_same _ _ _ (by omega) (by unfold magic; omega)]
    have a3 : cellv (setv ds 8 ((104 + 128 * k : Nat) : Int)) (120 + 128 * k) = 8 := by
      rw [cellv_other _ _ _ _ (.inr (by omega)), ← hds, cellv_other _ _ _ _ (.inl (by omega)), cellv_other _ _ _ _ (.inl (by omega)), show 120 + 128 * k = 16 + 128 * k + 88 + 16 by omega, cellv_same _ _ _ (by simp only [setv_length]; omega) (by omega)]
    have a4 : cellv (setv ds 8 ((104 + 128 * k : Nat) : Int)) (128 + 128 * k) = ((16 + 128 * k : Nat) : Int) := by
      rw [cellv_other _ _ _ _ (.inr (by omega)), ← hds, cellv_other _ _ _ _ (.inl (by omega)), show 128 + 128 * k = 16 + 128 * k + 88 + 24 by omega, cellv_same _ _ _ (by simp only [setv_length]; omega) (by omega)]
    have a5 : cellv (setv ds 8 ((104 + 128 * k : Nat) : Int)) (136 + 128 * k) = (lastc k : Nat) := by
      rw [cellv_other _ _ _ _ (.inr (by omega)), ← hds, show 136 + 128 * k = 16 + 128 * k + 88 + 32 by omega, cellv_same _ _ _ (by simp only [setv_length]; omega) (by omega)]
    refine ⟨by rw [setv_length, hdl], by rw [cellv_same _ _ _ (by omega) (by omega)]; rfl, ?_, ?_, ?_, ?_, ?_⟩ <;> intro j hj <;> rcases Nat.lt_or_eq_of_le (Nat.le_of_lt_succ hj) with hjk | rfl
    · rw [low _ (by omega) (by omega), h.mag j hjk]
    · exact a1
    · rw [low _ (by omega) (by omega), h.siz j hjk]
    · exact a3
    · rw [low _ (by omega) (by omega), h.tb j hjk]
    · exact a4
    · rw [low _ (by omega) (by omega), h.prv j hjk]
    · exact a5
    · rw [low _ (by omega) (by omega), h.tab j hjk]
    · exact a0
end Go.Proofs.Ytajeiccfgnpbpaa.Mem
