/- Plain mathematics: stores into cells apart; what the document's Get and Put tell is what the code's tell. No program. -/
import Derived.Test.YtajeiccfgnpbpaaTabQ
namespace Go.Proofs.Ytajeiccfgnpbpaa.Mem
open Go.RowKit

theorem ext_getD {l m : List UInt8} (hl : l.length = m.length) (h : ∀ i, l.getD i 0 = m.getD i 0) : l = m := by
  apply List.ext_getElem hl
  intro i h1 h2
  have := h i
  simpa [List.getD_eq_getElem?_getD, List.getElem?_eq_getElem h1, List.getElem?_eq_getElem h2] using this

theorem setv_comm (bs : List UInt8) (a b : Nat) (n m : Int) (h : b + 8 ≤ a ∨ a + 8 ≤ b) : setv (setv bs a n) b m = setv (setv bs b m) a n := by
  apply ext_getD (by simp only [setv_length])
  intro i
  unfold setv
  rw [wr_get, wr_get, wr_get, wr_get, wr_length, wr_length]
  by_cases h1 : a ≤ i ∧ i < a + 8 ∧ i < bs.length
  · rw [if_pos h1, if_neg (by omega), if_pos h1]
  · rw [if_neg h1, if_neg h1]

theorem setc_in (bs : List UInt8) (a n : Int) (h0 : 0 ≤ a) (h1 : a + 8 ≤ bs.length) (h8 : a % 8 = 0) : setc bs a n = setv bs a.toNat n := by
  unfold setc
  rw [if_pos (code_of h0 h1 h8)]
theorem setc_comm (bs : List UInt8) (a b n m : Int) (h : b + 8 ≤ a ∨ a + 8 ≤ b) : setc (setc bs a n) b m = setc (setc bs b m) a n := by
  unfold setc
  by_cases ha : code bs.length a = 0
  · by_cases hb : code bs.length b = 0
    · have := code_ok ha
      have := code_ok hb
      simp only [ha, hb, if_true, setv_length]
      exact setv_comm _ _ _ _ _ (by omega)
    · simp only [ha, hb, if_true, if_false, setv_length]
  · by_cases hb : code bs.length b = 0
    · simp only [ha, hb, if_true, if_false, setv_length]
    · simp only [ha, hb, if_false]
theorem cell_setc_other (bs : List UInt8) (a b n : Int) (h : b + 8 ≤ a ∨ a + 8 ≤ b) : cell (setc bs a n) b = cell bs b := by
  unfold setc
  by_cases ha : code bs.length a = 0
  · rw [if_pos ha]
    have h1 := code_ok ha
    unfold cell
    rw [setv_length]
    by_cases hb : code bs.length b = 0
    · have h2 := code_ok hb
      rw [if_pos hb, if_pos hb, cellv_other _ _ _ _ (by omega)]
    · rw [if_neg hb, if_neg hb]
  · rw [if_neg ha]
theorem setc_put3 (bs : List UInt8) (a b m : Int) (x : Ent) (h : b + 8 ≤ a) : setc (put3 bs a x 3) b m = put3 (setc bs b m) a x 3 := by
  simp only [put3]
  rw [setc_comm _ (a + 16) b _ _ (by omega), setc_comm _ (a + 8) b _ _ (by omega), setc_comm _ a b _ _ (by omega)]
theorem cell_put3 (bs : List UInt8) (a b : Int) (x : Ent) (h : b + 8 ≤ a) : cell (put3 bs a x 3) b = cell bs b := by
  simp only [put3]
  rw [cell_setc_other _ _ _ _ (by omega), cell_setc_other _ _ _ _ (by omega), cell_setc_other _ _ _ _ (by omega)]

/-- A slot that a search ends at is empty, or has the selector. -/
theorem probeI_stops (bs : List UInt8) (t sel n : Int) (hn : 0 < n) : ∀ k i, 0 ≤ (probeI bs t sel n k i).1 → (cell bs (slotAt t (probeI bs t sel n k i).1)).1 = 0 ∨ (cell bs (slotAt t (probeI bs t sel n k i).1)).1 = sel
  | 0, i, h => by simp [probeI] at h
  | k + 1, i, h => by
    rw [probeI] at h ⊢
    by_cases hs : stops bs t sel n i = true
    · rw [if_pos hs]
      simpa [stops] using hs
    · rw [if_neg hs] at h ⊢
      exact probeI_stops bs t sel n hn k (i + 1) h
theorem look_stops {bs : List UInt8} {t sel : Int} (h : 0 ≤ (look bs t sel).1) : slots bs t ≠ 0 ∧ (look bs t sel).1 < slots bs t ∧ ((cell bs (slotAt t (look bs t sel).1)).1 = 0 ∨ (cell bs (slotAt t (look bs t sel).1)).1 = sel) := by
  unfold look at *
  by_cases hz : slots bs t = 0
  · rw [if_pos hz] at h; simp at h
  · rw [if_neg hz] at h ⊢
    have hb := slots_bd bs t
    exact ⟨hz, (probe_probeI bs t sel _ (by omega) _ _).1, probeI_stops bs t sel _ (by omega) _ _ h⟩

/-- What the document's Get tells. -/
def getl (bs : List UInt8) (t sel : Int) : Ent × Int × Bool :=
  if (look bs t sel).1 < 0 ∨ sel < 1 then (⟨0, 0, 0⟩, (look bs t sel).2, false)
  else if (read bs (slotAt t (look bs t sel).1)).sel = sel then (read bs (slotAt t (look bs t sel).1), (look bs t sel).2, true) else (⟨0, 0, 0⟩, (look bs t sel).2, false)
theorem getl_eq (bs : List UInt8) (t sel : Int) : getl bs t sel = getv bs t sel := by
  obtain ⟨_, _, h⟩ := search_look bs t sel
  have hst := @look_stops bs t sel
  unfold getl getv
  rw [h]
  by_cases hk : (look bs t sel).1 < 0
  · rw [if_pos (.inl hk), if_pos hk]
    rfl
  · rw [if_neg hk]
    by_cases hs : sel < 1
    · rw [if_pos (.inr hs), if_neg (by omega)]
    · rw [if_neg (by omega)]
      obtain ⟨_, _, h3⟩ := hst (by omega)
      by_cases he : (cell bs (slotAt t (look bs t sel).1)).1 = sel
      · rw [if_pos (show (read bs (slotAt t (look bs t sel).1)).sel = sel from he), if_pos ⟨by simp [he]; omega, by omega⟩]
      · rw [if_neg (show ¬ (read bs (slotAt t (look bs t sel).1)).sel = sel from he), if_neg (by rintro ⟨h4, _⟩; simp at h4; omega)]

theorem bne_beq (c : Int) : ¬ ((c != 0) = false ∧ (c == 0) = false) := by
  rintro ⟨h1, h2⟩
  by_cases h : c = 0
  · subst h; cases h2
  · simp [h] at h1

/-- What the document's Put leaves: it counts first, then writes the entry. -/
def putl (bs : List UInt8) (t : Int) (x : Ent) : List UInt8 :=
  if x.sel < 1 ∨ slots bs t = 0 then bs else if (look bs t x.sel).1 < 0 then bs
  else if (read bs (slotAt t (look bs t x.sel).1)).sel = 0 then put3 (setc bs (t + 8) (wrap64 ((cell bs (t + 8)).1 + 1))) (slotAt t (look bs t x.sel).1) x 3 else put3 bs (slotAt t (look bs t x.sel).1) x 3
theorem putl_eq (bs : List UInt8) (t : Int) (x : Ent) : putl bs t x = putb bs t x := by
  obtain ⟨_, _, h⟩ := search_look bs t x.sel
  unfold putl putb
  by_cases h1 : x.sel < 1 ∨ slots bs t = 0
  · rw [if_pos h1, if_pos h1]
  · rw [if_neg h1, if_neg h1, h]
    by_cases hk : (look bs t x.sel).1 < 0
    · rw [if_pos hk, if_pos hk]
      rfl
    · rw [if_neg hk]
      obtain ⟨hz, _, _⟩ := look_stops (bs := bs) (t := t) (sel := x.sel) (by omega)
      have hin := slots_in hz
      have hsl : t + 8 + 8 ≤ slotAt t (look bs t x.sel).1 := by unfold slotAt; omega
      rw [if_neg hk]
      dsimp only
      rw [if_neg (bne_beq _)]
      by_cases hc : (cell bs (slotAt t (look bs t x.sel).1)).1 = 0
      · rw [if_pos (show (read bs (slotAt t (look bs t x.sel).1)).sel = 0 from hc), if_pos (by simp [hc]), setc_put3 _ _ _ _ _ hsl, cell_put3 _ _ _ _ hsl]
      · rw [if_neg (show ¬ (read bs (slotAt t (look bs t x.sel).1)).sel = 0 from hc), if_neg (by simp [hc])]
theorem putc_look (bs : List UInt8) (t : Int) (x : Ent) : putc bs t x = if x.sel < 1 ∨ slots bs t = 0 then -256 else if (look bs t x.sel).1 < 0 then -2051 else 0 := by
  obtain ⟨_, _, h⟩ := search_look bs t x.sel
  unfold putc
  by_cases h1 : x.sel < 1 ∨ slots bs t = 0
  · rw [if_pos h1, if_pos h1]
  · rw [if_neg h1, if_neg h1, h]
    by_cases hk : (look bs t x.sel).1 < 0
    · rw [if_pos hk, if_pos hk]
      rfl
    · rw [if_neg hk, if_neg hk]
      dsimp only
      rw [if_neg (bne_beq _)]
end Go.Proofs.Ytajeiccfgnpbpaa.Mem
