/- Several texts in one: TabP, TabQ, TabR. -/
import Derived.Test.YthkmbnkkohomeaaGreatDoorSwaf
set_option linter.unusedSimpArgs false
set_option linter.unusedVariables false
/- Plain mathematics of dispatch tables in a memory of bytes. No program. -/
namespace Go.Proofs.YthkmbnkkohomeaaGreatDoor.Mem
open Go.RowKit

/-- How many slots a table has; 0: there is none. -/
def slots (bs : List UInt8) (t : Int) : Int := if (cell bs t).2 = 0 ∧ 1 ≤ (cell bs t).1 ∧ (cell bs t).1 ≤ 1024 ∧ has bs.length t (16 + 24 * (cell bs t).1) = true then (cell bs t).1 else 0
theorem slots_bd (bs : List UInt8) (t : Int) : 0 ≤ slots bs t ∧ slots bs t ≤ 1024 := by
  unfold slots; split <;> omega
theorem slots_in {bs : List UInt8} {t : Int} (h : slots bs t ≠ 0) : 0 ≤ t ∧ t % 8 = 0 ∧ t + 16 + 24 * slots bs t ≤ bs.length ∧ 1 ≤ slots bs t := by
  unfold slots at *
  split at h
  · rename_i hh
    rw [if_pos hh]
    have hc : code bs.length t = 0 := by
      have := hh.1
      unfold cell at this
      split at this
      · assumption
      · exact this
    have := code_ok hc
    have h4 := hh.2.2.2
    simp [has] at h4
    omega
  · exact absurd rfl h

/-- Where a slot is. -/
def slotAt (t i : Int) : Int := t + 16 + i * 24
/-- A selector's first slot. -/
def home (sel n : Int) : Int := sel % 4294967296 * 2654435761 % 4294967296 % n
theorem home_bd (sel n : Int) (h : 0 < n) : 0 ≤ home sel n ∧ home sel n < n := ⟨Int.emod_nonneg _ (by omega), Int.emod_lt_of_pos _ h⟩

/-- How a search ends: the slot's place, if one has the selector or is empty (is it found, is it empty), and how many slots were looked at. -/
structure Hit where
  at' : Int
  found : Bool
  empty : Bool
  seen : Int

/-- Is the i-th slot that is looked at free, or the selector's own? -/
def stops (bs : List UInt8) (t sel n : Int) (i : Nat) : Bool := (cell bs (slotAt t ((home sel n + i) % n))).1 == 0 || (cell bs (slotAt t ((home sel n + i) % n))).1 == sel

/-- The search from the i-th slot on, of k more. -/
def probe (bs : List UInt8) (t sel n : Int) : Nat → Nat → Hit
  | 0, _ => ⟨0, false, false, n⟩
  | k + 1, i => if stops bs t sel n i = true then ⟨slotAt t ((home sel n + i) % n), (cell bs (slotAt t ((home sel n + i) % n))).1 != 0, (cell bs (slotAt t ((home sel n + i) % n))).1 == 0, i + 1⟩ else probe bs t sel n k (i + 1)

def search (bs : List UInt8) (t sel : Int) : Hit := if slots bs t = 0 then ⟨0, false, false, 0⟩ else probe bs t sel (slots bs t) (slots bs t).toNat 0

/-- An entry. -/
structure Ent where
  sel : Int
  xt : Int
  cls : Int
def read (bs : List UInt8) (a : Int) : Ent := ⟨(cell bs a).1, (cell bs (a + 8)).1, (cell bs (a + 16)).1⟩
/-- What Get tells: the entry, how many slots were looked at, is there one. -/
def getv (bs : List UInt8) (t sel : Int) : Ent × Int × Bool := if (search bs t sel).found = true ∧ 1 ≤ sel then (read bs (search bs t sel).at', (search bs t sel).seen, true) else (⟨0, 0, 0⟩, (search bs t sel).seen, false)
/-- May an entry be put? -/
def may (bs : List UInt8) (t sel : Int) : Bool := decide (1 ≤ sel) && ((search bs t sel).found || (search bs t sel).empty)

theorem probe_at (bs : List UInt8) (t sel n : Int) (hn : 0 < n) : ∀ k i, (probe bs t sel n k i).found = true ∨ (probe bs t sel n k i).empty = true → ∃ j : Int, 0 ≤ j ∧ j < n ∧ (probe bs t sel n k i).at' = slotAt t j
  | 0, _, h => by simp [probe] at h
  | k + 1, i, h => by
    rw [probe] at h ⊢
    split
    · exact ⟨_, Int.emod_nonneg _ (by omega), Int.emod_lt_of_pos _ hn, rfl⟩
    · rename_i hs
      rw [if_neg hs] at h
      exact probe_at bs t sel n hn k (i + 1) h
/-- A slot that was hit is a slot of the table. -/
theorem search_at {bs : List UInt8} {t sel : Int} (h : (search bs t sel).found = true ∨ (search bs t sel).empty = true) : slots bs t ≠ 0 ∧ ∃ j : Int, 0 ≤ j ∧ j < slots bs t ∧ (search bs t sel).at' = slotAt t j := by
  unfold search at *
  by_cases hz : slots bs t = 0
  · rw [if_pos hz] at h; simp at h
  · rw [if_neg hz] at h ⊢
    exact ⟨hz, probe_at bs t sel _ (by have := slots_bd bs t; omega) _ _ h⟩
theorem search_place {bs : List UInt8} {t sel : Int} (h : (search bs t sel).found = true ∨ (search bs t sel).empty = true) : t + 16 ≤ (search bs t sel).at' ∧ 0 ≤ t ∧ (search bs t sel).at' % 8 = 0 ∧ (search bs t sel).at' + 24 ≤ bs.length := by
  obtain ⟨hz, j, h0, h1, e⟩ := search_at h
  have := slots_in hz
  rw [e]
  unfold slotAt
  omega

/-- Cells 0 allocated, k of them, as far as there is room up to z: where allocation stands, the bytes, was there room for all. -/
def layz (z : Nat) : Nat → Nat → List UInt8 → Nat × List UInt8 × Bool
  | 0, x, bs => (x, bs, true)
  | k + 1, x, bs => if x + 8 ≤ z then layz z k (x + 8) (setv bs x 0) else (x, bs, false)
/-- A table's cells. -/
def layt (z x : Nat) (bs : List UInt8) (n : Nat) : Nat × List UInt8 × Bool := if x + 8 ≤ z then layz z (1 + 3 * n) (x + 8) (setv bs x n) else (x, bs, false)
theorem layz_inv (z : Nat) : ∀ k x bs, x ≤ z → x ≤ (layz z k x bs).1 ∧ (layz z k x bs).1 ≤ z ∧ (layz z k x bs).1 % 8 = x % 8 ∧ (layz z k x bs).2.1.length = bs.length
  | 0, _, _, h => ⟨Nat.le_refl _, h, rfl, rfl⟩
  | k + 1, x, bs, h => by
    rw [layz]
    split
    · rename_i h8
      have ih := layz_inv z k (x + 8) (setv bs x 0) h8
      rw [setv_length] at ih
      exact ⟨by omega, ih.2.1, by omega, ih.2.2.2⟩
    · exact ⟨Nat.le_refl _, h, rfl, rfl⟩
theorem layt_inv (z x : Nat) (bs : List UInt8) (n : Nat) (h : x ≤ z) : x ≤ (layt z x bs n).1 ∧ (layt z x bs n).1 ≤ z ∧ (layt z x bs n).1 % 8 = x % 8 ∧ (layt z x bs n).2.1.length = bs.length := by
  unfold layt
  split
  · rename_i h8
    have ih := layz_inv z (1 + 3 * n) (x + 8) (setv bs x n) h8
    rw [setv_length] at ih
    exact ⟨by omega, ih.2.1, by omega, ih.2.2.2⟩
  · exact ⟨Nat.le_refl _, h, rfl, rfl⟩

/-- The first k cells of an entry written at a. -/
def put3 (bs : List UInt8) (a : Int) (x : Ent) : Nat → List UInt8
  | 0 => bs
  | 1 => setc bs a x.sel
  | 2 => setc (setc bs a x.sel) (a + 8) x.xt
  | _ => setc (setc (setc bs a x.sel) (a + 8) x.xt) (a + 16) x.cls
theorem put3_length (bs : List UInt8) (a : Int) (x : Ent) (k : Nat) : (put3 bs a x k).length = bs.length := by
  unfold put3; split <;> simp only [setc_length]
/-- What Put tells, and leaves. -/
def putc (bs : List UInt8) (t : Int) (x : Ent) : Int := if x.sel < 1 ∨ slots bs t = 0 then -256 else if (search bs t x.sel).found = false ∧ (search bs t x.sel).empty = false then -2051 else 0
def putb (bs : List UInt8) (t : Int) (x : Ent) : List UInt8 :=
  if x.sel < 1 ∨ slots bs t = 0 then bs else if (search bs t x.sel).found = false ∧ (search bs t x.sel).empty = false then bs
  else if (search bs t x.sel).empty = true then setc (put3 bs (search bs t x.sel).at' x 3) (t + 8) (wrap64 ((cell (put3 bs (search bs t x.sel).at' x 3) (t + 8)).1 + 1)) else put3 bs (search bs t x.sel).at' x 3
theorem putb_length (bs : List UInt8) (t : Int) (x : Ent) : (putb bs t x).length = bs.length := by
  unfold putb
  repeat' split
  all_goals simp only [setc_length, put3_length]

theorem txt_length (bs : List UInt8) (a n : Int) : (txt bs a n).1.length ≤ bs.length := by
  unfold txt; split
  · simp [text]; omega
  · simp

/-- The entries in the first k slots. -/
def allk (bs : List UInt8) (t : Int) : Nat → List Ent
  | 0 => []
  | k + 1 => if (read bs (slotAt t k)).sel = 0 then allk bs t k else allk bs t k ++ [read bs (slotAt t k)]
theorem allk_length (bs : List UInt8) (t : Int) : ∀ k, (allk bs t k).length ≤ k
  | 0 => Nat.le_refl _
  | k + 1 => by
    have := allk_length bs t k
    rw [allk]; split
    · omega
    · simp; omega
/-- The cells of entries. -/
def ents (l : List Ent) : List Value := l.flatMap fun x => [.int .i64 x.sel, .int .i64 x.xt, .int .i64 x.cls]
theorem ents_snoc (l : List Ent) (x : Ent) : ents (l ++ [x]) = ents l ++ [.int .i64 x.sel, .int .i64 x.xt, .int .i64 x.cls] := by simp [ents]
def all (bs : List UInt8) (t : Int) : List Ent := allk bs t (slots bs t).toNat

end Go.Proofs.YthkmbnkkohomeaaGreatDoor.Mem

/- Plain mathematics: the search of a table, told by the slot's number. No program. -/
namespace Go.Proofs.YthkmbnkkohomeaaGreatDoor.Mem
open Go.RowKit

/-- The search, told by the slot's number (-1: none) and how many were looked at. -/
def probeI (bs : List UInt8) (t sel n : Int) : Nat → Nat → Int × Int
  | 0, _ => (-1, n)
  | k + 1, i => if stops bs t sel n i = true then ((home sel n + i) % n, i + 1) else probeI bs t sel n k (i + 1)
def look (bs : List UInt8) (t sel : Int) : Int × Int := if slots bs t = 0 then (-1, 0) else probeI bs t sel (slots bs t) (slots bs t).toNat 0
theorem probe_probeI (bs : List UInt8) (t sel n : Int) (hn : 0 < n) : ∀ k i,
    (probeI bs t sel n k i).1 < n ∧ -1 ≤ (probeI bs t sel n k i).1 ∧
    probe bs t sel n k i = if (probeI bs t sel n k i).1 < 0 then ⟨0, false, false, (probeI bs t sel n k i).2⟩ else ⟨slotAt t (probeI bs t sel n k i).1, (cell bs (slotAt t (probeI bs t sel n k i).1)).1 != 0, (cell bs (slotAt t (probeI bs t sel n k i).1)).1 == 0, (probeI bs t sel n k i).2⟩
  | 0, i => by
    rw [probeI]
    exact ⟨by simp only; omega, by simp only; omega, by rw [if_pos (by simp only; omega)]; rfl⟩
  | k + 1, i => by
    rw [probeI, probe]
    split
    · have h0 := Int.emod_nonneg (home sel n + i) (by omega : n ≠ 0)
      have h1 := Int.emod_lt_of_pos (home sel n + i) hn
      exact ⟨h1, by simp only; omega, by rw [if_neg (by simp only; omega)]⟩
    · exact probe_probeI bs t sel n hn k (i + 1)
theorem search_look (bs : List UInt8) (t sel : Int) : (look bs t sel).1 < 1024 ∧ -1 ≤ (look bs t sel).1 ∧
    search bs t sel = if (look bs t sel).1 < 0 then ⟨0, false, false, (look bs t sel).2⟩ else ⟨slotAt t (look bs t sel).1, (cell bs (slotAt t (look bs t sel).1)).1 != 0, (cell bs (slotAt t (look bs t sel).1)).1 == 0, (look bs t sel).2⟩ := by
  unfold search look
  by_cases hz : slots bs t = 0
  · rw [if_pos hz, if_pos hz]
    exact ⟨by decide, by decide, by rw [if_pos (by decide)]⟩
  · rw [if_neg hz, if_neg hz]
    have hb := slots_bd bs t
    have := probe_probeI bs t sel (slots bs t) (by omega) (slots bs t).toNat 0
    exact ⟨by omega, this.2.1, this.2.2⟩

end Go.Proofs.YthkmbnkkohomeaaGreatDoor.Mem

/- Plain mathematics: stores into cells apart; what the document's Get and Put tell is what the code's tell. No program. -/
namespace Go.Proofs.YthkmbnkkohomeaaGreatDoor.Mem
open Go.RowKit

theorem ext_getD {l m : List UInt8} (hl : l.length = m.length) (h : ∀ i, l.getD i 0 = m.getD i 0) : l = m := by
  apply List.ext_getElem hl
  intro i h1 h2
  have := h i
  simpa [List.getD_eq_getElem?_getD, List.getElem?_eq_getElem h1, List.getElem?_eq_getElem h2] using this

theorem setv_comm (bs : List UInt8) (a b : Nat) (n m : Int) (h : b + 8 ≤ a ∨ a + 8 ≤ b) : setv (setv bs a n) b m = setv (setv bs b m) a n := by
  apply ext_getD (by simp only [setv_length])
  intro i
  unfold setv
  rw [wr_get, wr_get, wr_get, wr_get, wr_length, wr_length]
  by_cases h1 : a ≤ i ∧ i < a + 8 ∧ i < bs.length
  · rw [if_pos h1, if_neg (by omega), if_pos h1]
  · rw [if_neg h1, if_neg h1]

theorem setc_in (bs : List UInt8) (a n : Int) (h0 : 0 ≤ a) (h1 : a + 8 ≤ bs.length) (h8 : a % 8 = 0) : setc bs a n = setv bs a.toNat n := by
  unfold setc
  rw [if_pos (code_of h0 h1 h8)]
theorem setc_comm (bs : List UInt8) (a b n m : Int) (h : b + 8 ≤ a ∨ a + 8 ≤ b) : setc (setc bs a n) b m = setc (setc bs b m) a n := by
  unfold setc
  by_cases ha : code bs.length a = 0
  · by_cases hb : code bs.length b = 0
    · have := code_ok ha
      have := code_ok hb
      simp only [ha, hb, if_true, setv_length]
      exact setv_comm _ _ _ _ _ (by omega)
    · simp only [ha, hb, if_true, if_false, setv_length]
  · by_cases hb : code bs.length b = 0
    · simp only [ha, hb, if_true, if_false, setv_length]
    · simp only [ha, hb, if_false]
theorem cell_setc_other (bs : List UInt8) (a b n : Int) (h : b + 8 ≤ a ∨ a + 8 ≤ b) : cell (setc bs a n) b = cell bs b := by
  unfold setc
  by_cases ha : code bs.length a = 0
  · rw [if_pos ha]
    have h1 := code_ok ha
    unfold cell
    rw [setv_length]
    by_cases hb : code bs.length b = 0
    · have h2 := code_ok hb
      rw [if_pos hb, if_pos hb, cellv_other _ _ _ _ (by omega)]
    · rw [if_neg hb, if_neg hb]
  · rw [if_neg ha]
theorem setc_put3 (bs : List UInt8) (a b m : Int) (x : Ent) (h : b + 8 ≤ a) : setc (put3 bs a x 3) b m = put3 (setc bs b m) a x 3 := by
  simp only [put3]
  rw [setc_comm _ (a + 16) b _ _ (by omega), setc_comm _ (a + 8) b _ _ (by omega), setc_comm _ a b _ _ (by omega)]
theorem cell_put3 (bs : List UInt8) (a b : Int) (x : Ent) (h : b + 8 ≤ a) : cell (put3 bs a x 3) b = cell bs b := by
  simp only [put3]
  rw [cell_setc_other _ _ _ _ (by omega), cell_setc_other _ _ _ _ (by omega), cell_setc_other _ _ _ _ (by omega)]

/-- A slot that a search ends at is empty, or has the selector. -/
theorem probeI_stops (bs : List UInt8) (t sel n : Int) (hn : 0 < n) : ∀ k i, 0 ≤ (probeI bs t sel n k i).1 → (cell bs (slotAt t (probeI bs t sel n k i).1)).1 = 0 ∨ (cell bs (slotAt t (probeI bs t sel n k i).1)).1 = sel
  | 0, i, h => by simp [probeI] at h
  | k + 1, i, h => by
    rw [probeI] at h ⊢
    by_cases hs : stops bs t sel n i = true
    · rw [if_pos hs]
      simpa [stops] using hs
    · rw [if_neg hs] at h ⊢
      exact probeI_stops bs t sel n hn k (i + 1) h
theorem look_stops {bs : List UInt8} {t sel : Int} (h : 0 ≤ (look bs t sel).1) : slots bs t ≠ 0 ∧ (look bs t sel).1 < slots bs t ∧ ((cell bs (slotAt t (look bs t sel).1)).1 = 0 ∨ (cell bs (slotAt t (look bs t sel).1)).1 = sel) := by
  unfold look at *
  by_cases hz : slots bs t = 0
  · rw [if_pos hz] at h; simp at h
  · rw [if_neg hz] at h ⊢
    have hb := slots_bd bs t
    exact ⟨hz, (probe_probeI bs t sel _ (by omega) _ _).1, probeI_stops bs t sel _ (by omega) _ _ h⟩

/-- What the document's Get tells. -/
def getl (bs : List UInt8) (t sel : Int) : Ent × Int × Bool :=
  if (look bs t sel).1 < 0 ∨ sel < 1 then (⟨0, 0, 0⟩, (look bs t sel).2, false)
  else if (read bs (slotAt t (look bs t sel).1)).sel = sel then (read bs (slotAt t (look bs t sel).1), (look bs t sel).2, true) else (⟨0, 0, 0⟩, (look bs t sel).2, false)
theorem getl_eq (bs : List UInt8) (t sel : Int) : getl bs t sel = getv bs t sel := by
  obtain ⟨_, _, h⟩ := search_look bs t sel
  have hst := @look_stops bs t sel
  unfold getl getv
  rw [h]
  by_cases hk : (look bs t sel).1 < 0
  · rw [if_pos (.inl hk), if_pos hk]
    rfl
  · rw [if_neg hk]
    by_cases hs : sel < 1
    · rw [if_pos (.inr hs), if_neg (by omega)]
    · rw [if_neg (by omega)]
      obtain ⟨_, _, h3⟩ := hst (by omega)
      by_cases he : (cell bs (slotAt t (look bs t sel).1)).1 = sel
      · rw [if_pos (show (read bs (slotAt t (look bs t sel).1)).sel = sel from he), if_pos ⟨by simp [he]; omega, by omega⟩]
      · rw [if_neg (show ¬ (read bs (slotAt t (look bs t sel).1)).sel = sel from he), if_neg (by rintro ⟨h4, _⟩; simp at h4; omega)]

theorem bne_beq (c : Int) : ¬ ((c != 0) = false ∧ (c == 0) = false) := by
  rintro ⟨h1, h2⟩
  by_cases h : c = 0
  · subst h; cases h2
  · simp [h] at h1

/-- What the document's Put leaves: it counts first, then writes the entry. -/
def putl (bs : List UInt8) (t : Int) (x : Ent) : List UInt8 :=
  if x.sel < 1 ∨ slots bs t = 0 then bs else if (look bs t x.sel).1 < 0 then bs
  else if (read bs (slotAt t (look bs t x.sel).1)).sel = 0 then put3 (setc bs (t + 8) (wrap64 ((cell bs (t + 8)).1 + 1))) (slotAt t (look bs t x.sel).1) x 3 else put3 bs (slotAt t (look bs t x.sel).1) x 3
theorem putl_eq (bs : List UInt8) (t : Int) (x : Ent) : putl bs t x = putb bs t x := by
  obtain ⟨_, _, h⟩ := search_look bs t x.sel
  unfold putl putb
  by_cases h1 : x.sel < 1 ∨ slots bs t = 0
  · rw [if_pos h1, if_pos h1]
  · rw [if_neg h1, if_neg h1, h]
    by_cases hk : (look bs t x.sel).1 < 0
    · rw [if_pos hk, if_pos hk]
      rfl
    · rw [if_neg hk]
      obtain ⟨hz, _, _⟩ := look_stops (bs := bs) (t := t) (sel := x.sel) (by omega)
      have hin := slots_in hz
      have hsl : t + 8 + 8 ≤ slotAt t (look bs t x.sel).1 := by unfold slotAt; omega
      rw [if_neg hk]
      dsimp only
      rw [if_neg (bne_beq _)]
      by_cases hc : (cell bs (slotAt t (look bs t x.sel).1)).1 = 0
      · rw [if_pos (show (read bs (slotAt t (look bs t x.sel).1)).sel = 0 from hc), if_pos (by simp [hc]), setc_put3 _ _ _ _ _ hsl, cell_put3 _ _ _ _ hsl]
      · rw [if_neg (show ¬ (read bs (slotAt t (look bs t x.sel).1)).sel = 0 from hc), if_neg (by simp [hc])]
theorem putc_look (bs : List UInt8) (t : Int) (x : Ent) : putc bs t x = if x.sel < 1 ∨ slots bs t = 0 then -256 else if (look bs t x.sel).1 < 0 then -2051 else 0 := by
  obtain ⟨_, _, h⟩ := search_look bs t x.sel
  unfold putc
  by_cases h1 : x.sel < 1 ∨ slots bs t = 0
  · rw [if_pos h1, if_pos h1]
  · rw [if_neg h1, if_neg h1, h]
    by_cases hk : (look bs t x.sel).1 < 0
    · rw [if_pos hk, if_pos hk]
      rfl
    · rw [if_neg hk, if_neg hk]
      dsimp only
      rw [if_neg (bne_beq _)]
end Go.Proofs.YthkmbnkkohomeaaGreatDoor.Mem
