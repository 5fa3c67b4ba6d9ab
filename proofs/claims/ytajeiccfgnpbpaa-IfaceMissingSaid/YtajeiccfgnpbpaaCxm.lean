/- The first class of the examples: its bytes. -/
import Derived.Test.YtajeiccfgnpbpaaClsJ
namespace Go.Proofs.Ytajeiccfgnpbpaa.Mem
open Go.RowKit

/-- The example's bytes, stage by stage. -/
def cx0 : List UInt8 := setv (List.replicate 1024 0) 8 0
def cx1 : List UInt8 := (cnewv 1024 16 cx0 8 0 4).2.2
theorem cx_new : cnewv 1024 16 cx0 8 0 4 = ((128, 0), 168, cx1) := by
  have h0 : (cnewv 1024 16 cx0 8 0 4).1 = (128, 0) := by decide +kernel
  have h1 : (cnewv 1024 16 cx0 8 0 4).2.1 = 168 := by decide +kernel
  unfold cx1
  obtain ⟨v, hv⟩ : ∃ v, cnewv 1024 16 cx0 8 0 4 = v := ⟨_, rfl⟩
  rw [hv] at h0 h1 ⊢
  exact Prod.ext h0 (Prod.ext h1 rfl)
theorem cx_vis : visited cx1 8 = [⟨128, 0, 8, 16, 0⟩] := by kernel_rfl
end Go.Proofs.Ytajeiccfgnpbpaa.Mem
