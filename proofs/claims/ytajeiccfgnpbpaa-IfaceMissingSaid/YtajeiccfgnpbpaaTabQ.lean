/- Plain mathematics: the search of a table, told by the slot's number. No program. -/
import Derived.Test.YtajeiccfgnpbpaaTabP
namespace Go.Proofs.Ytajeiccfgnpbpaa.Mem
open Go.RowKit

/-- The search, told by the slot's number (-1: none) and how many were looked at. -/
def probeI (bs : List UInt8) (t sel n : Int) : Nat → Nat → Int × Int
  | 0, _ => (-1, n)
  | k + 1, i => if stops bs t sel n i = true then ((home sel n + i) % n, i + 1) else probeI bs t sel n k (i + 1)
def look (bs : List UInt8) (t sel : Int) : Int × Int := if slots bs t = 0 then (-1, 0) else probeI bs t sel (slots bs t) (slots bs t).toNat 0
theorem probe_probeI (bs : List UInt8) (t sel n : Int) (hn : 0 < n) : ∀ k i,
    (probeI bs t sel n k i).1 < n ∧ -1 ≤ (probeI bs t sel n k i).1 ∧
    probe bs t sel n k i = if (probeI bs t sel n k i).1 < 0 then ⟨0, false, false, (probeI bs t sel n k i).2⟩ else ⟨slotAt t (probeI bs t sel n k i).1, (cell bs (slotAt t (probeI bs t sel n k i).1)).1 != 0, (cell bs (slotAt t (probeI bs t sel n k i).1)).1 == 0, (probeI bs t sel n k i).2⟩
  | 0, i => by
    rw [probeI]
    exact ⟨by simp only; omega, by simp only; omega, by rw [if_pos (by simp only; omega)]; rfl⟩
  | k + 1, i => by
    rw [probeI, probe]
    split
    · have h0 := Int.emod_nonneg (home sel n + i) (by omega : n ≠ 0)
      have h1 := Int.emod_lt_of_pos (home sel n + i) hn
      exact ⟨h1, by simp only; omega, by rw [if_neg (by simp only; omega)]⟩
    · exact probe_probeI bs t sel n hn k (i + 1)
theorem search_look (bs : List UInt8) (t sel : Int) : (look bs t sel).1 < 1024 ∧ -1 ≤ (look bs t sel).1 ∧
    search bs t sel = if (look bs t sel).1 < 0 then ⟨0, false, false, (look bs t sel).2⟩ else ⟨slotAt t (look bs t sel).1, (cell bs (slotAt t (look bs t sel).1)).1 != 0, (cell bs (slotAt t (look bs t sel).1)).1 == 0, (look bs t sel).2⟩ := by
  unfold search look
  by_cases hz : slots bs t = 0
  · rw [if_pos hz, if_pos hz]
    exact ⟨by decide, by decide, by rw [if_pos (by decide)]⟩
  · rw [if_neg hz, if_neg hz]
    have hb := slots_bd bs t
    have := probe_probeI bs t sel (slots bs t) (by omega) (slots bs t).toNat 0
    exact ⟨by omega, this.2.1, this.2.2⟩

end Go.Proofs.Ytajeiccfgnpbpaa.Mem
