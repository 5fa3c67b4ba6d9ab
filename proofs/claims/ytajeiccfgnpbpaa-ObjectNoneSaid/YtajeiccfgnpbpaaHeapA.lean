/- Contracts of package heap, as far as the statements' example goes: a heap of one unused block. -/
import Derived.Test.YtajeiccfgnpbpaaClsE
import Derived.Deep.RegionHeld3
namespace Go.Proofs.Ytajeiccfgnpbpaa.Mem
open Go.RowKit

/-- At hb lies a heap of the memory at p, from one place to another. -/
def Heap (w : World) (hb p : Nat) (a z : Int) : Prop := w.heap[hb]? = some (.cells #[.pointer (some ⟨p, 0, none⟩), .int .i64 a, .int .i64 z] 156 (0, 0))

set_option maxRecDepth 100000 in
set_option maxHeartbeats 1000000 in
theorem hput_any (hb p g : Nat) (bs : List UInt8) (a z x n : Int) (u : Bool) (w : World) (h : Mat 108 w p g bs) (hh : Heap w hb p a z) (hn : 0 ≤ n ∧ n ≤ 1048576) :
    Calls Try.prog 87 #[.pointer (some ⟨hb, 0, none⟩), .agg #[.int .i64 x, .int .i64 n, .bool u]] w
      fun e w' => e = .returned (.tuple #[]) ∧ Mat 108 w' p g (setc bs x (if u = true then n + 1 else n)) ∧ Only g w w' := by
  have FA := (Fr.refl (fun _ => False) w).alloc (.cells #[.int .i64 x, .int .i64 n, .bool u] 159)
  have OA := heap_alloc_last w (.cells #[.int .i64 x, .int .i64 n, .bool u] 159)
  have hh1 := FA.obj hh id
  obtain ⟨q0, q1, q2, _, _, _, _⟩ := three_cells hh1
  obtain ⟨r0, r1, r2, _, _, _, _⟩ := three_cells OA
  have MA := Lib.hid (h.fr FA id id)
  have HX := Lib.hid (fun v w h => setCell_any p g bs x v w h)
  have HFA := Lib.hid FA
  clear h hh OA hh1 FA
  cases u
  all_goals
    first | rw [if_pos rfl] | rw [if_neg (by decide)]
    go_enter Try.func87, Try.ntmps87
    go_wp2_with fail
    go_region_with (go_at_call 15; refine (HX.out _ _ (Mat.drew MA.out)).mono ?_; rintro e w1 ⟨rfl, hm, hf⟩; have hf1 := Fr.undrew hf)
    all_goals
      go_wp2_with fail
      (try simp only [Exit.inBlock, Exit.then])
      first
      | refine bodyPost_end (results_none rfl _ _ _) rfl ⟨rfl, hm, ?_⟩
      | refine bodyPost_ret (results_none rfl _ _ _) rfl ⟨rfl, hm, ?_⟩
      exact (Fr.some HFA.out fun _ e => e.elim).trans hf1
end Go.Proofs.Ytajeiccfgnpbpaa.Mem
