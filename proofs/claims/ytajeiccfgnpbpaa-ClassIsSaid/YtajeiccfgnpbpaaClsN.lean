/- Contracts: the number of a class's place. -/
import Derived.Test.YtajeiccfgnpbpaaClsM
import Derived.BigQuiet
import Derived.Deep.LoopGhost
namespace Go.Proofs.Ytajeiccfgnpbpaa.Mem
open Go.RowKit

set_option maxRecDepth 100000 in
set_option maxHeartbeats 1000000 in
theorem number_any (wb p b gA cA n : Nat) (x root : Int) (v4 : Value) (ats : List Int) (w : World) (base : Nat) (hw : w.heap[wb]? = some (.cells #[.pointer (some ⟨p, 0, none⟩), .pointer (some ⟨b, 0, none⟩), .int .i64 root, .slice (some ⟨gA, 0, none⟩) n cA, v4] 56 (0, 0)))
    (hoA : w.ownsRow base 2 1 (.slice (some ⟨gA, 0, none⟩) n cA) n (ats.map (.int .i64))) (hn : n ≤ 64) :
    Calls Try.prog 28 #[.pointer (some ⟨wb, 0, none⟩), .int .i64 x] w (fun e w' => ∃ i : Int, e = .returned (.int .i64 i) ∧ decide (0 ≤ i) = decide (x ∈ ats) ∧ w' = w) := by
  obtain ⟨q0, q1, q2, q3, q4, y0, y1, y2, y3, y4, yl⟩ := five_cells hw
  have hlen := owns_length hoA
  simp only [List.length_map, Nat.mul_one] at hlen
  have hcell : ∀ k (h : k < ats.length), w.cell? ⟨gA, k, none⟩ = some (.int .i64 ats[k]) := fun k h => by
    have := owns_holds hoA ⟨gA, 0, none⟩ rfl k (.int .i64 ats[k]) (by simp [h])
    rwa [addr_add'] at this
  have HC := Lib.hid hcell
  clear hcell hw hoA
  go_enter Try.func28, Try.ntmps28
  go_wp2_with fail
  go_loop [12] (fun i => ∃ k : Nat, k ≤ n ∧ i = .int .i64 k ∧ ∀ j (h : j < ats.length), j < k → ats[j] ≠ x) (fun i => n - (intOf i).toNat)
  case atStart => exact ⟨0, Nat.zero_le _, rfl, fun j _ hj => absurd hj (Nat.not_lt_zero j)⟩
  case round =>
    obtain ⟨k, hk, rfl, hno⟩ := hrel
    have HN := Lib.hid hno
    clear hno
    by_cases hlt : k < n
    · have hc := HC.out k (by omega)
      have hmem : ats[k]'(by omega) ∈ ats := List.getElem_mem _
      obtain ⟨y, hy⟩ : ∃ y, ats[k]'(by omega) = y := ⟨_, rfl⟩
      rw [hy] at hc hmem
      have HY := Lib.hid hy
      clear hy
      cases hxy : (y == x) with
      | true =>
        obtain rfl : y = x := by simpa using hxy
        go_wp2_with fail
        go_ret
        exact ⟨_, rfl, by simp [hmem], rfl⟩
      | false =>
        have hne : y ≠ x := by simpa using hxy
        go_wp2_with fail
        go_round
        case rel =>
          refine ⟨k + 1, by omega, by go_num, fun j h hj => ?_⟩
          by_cases hjk : j = k
          · subst hjk
            rw [HY.out]
            exact hne
          · exact HN.out j h (by omega)
        case measure => simp [intOf]; omega
    · obtain rfl : k = n := by omega
      have hni : x ∉ ats := fun hm => by
        obtain ⟨j, h, hj⟩ := List.getElem_of_mem hm
        exact HN.out j h (by omega) hj
      go_wp2_with fail
      go_ret
      exact ⟨_, rfl, by simp [hni], rfl⟩

set_option maxRecDepth 100000 in
set_option maxHeartbeats 1000000 in
theorem number_nil (wb p b : Nat) (x root : Int) (v4 : Value) (w : World) (hw : w.heap[wb]? = some (.cells #[.pointer (some ⟨p, 0, none⟩), .pointer (some ⟨b, 0, none⟩), .int .i64 root, .slice none 0 0, v4] 56 (0, 0))) :
    Calls Try.prog 28 #[.pointer (some ⟨wb, 0, none⟩), .int .i64 x] w (fun e w' => e = .returned (.int .i64 (-1)) ∧ w' = w) := by
  obtain ⟨q0, q1, q2, q3, q4, y0, y1, y2, y3, y4, yl⟩ := five_cells hw
  clear hw
  go_enter Try.func28, Try.ntmps28
  go_wp2_with fail
  refine wp_loop_rounds 1 ?_
  rw [rounds_succ]
  go_wp2_with fail
  go_ret
  exact ⟨rfl, rfl⟩
end Go.Proofs.Ytajeiccfgnpbpaa.Mem
