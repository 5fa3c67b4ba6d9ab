/- ScriptParses: the closed facts of its row. -/
import Derived.Test.YthkmbnkkohomeaaGreatDoorPwaf
set_option linter.unusedSimpArgs false
set_option linter.unusedVariables false

namespace Go.Proofs.YthkmbnkkohomeaaGreatDoor.scriptParses
open Go.ChangeShapes Go.WideShapes Go.ChangeAt Go.WideMaps Go.WideElems Go.RowKit
open Go.ChangeMaps (open_string shut_string)
open Go.Proofs.YthkmbnkkohomeaaGreatDoor.scriptShows (wrap_both own laid7 kn_of laidOut door_met)
set_option linter.unusedVariables false

set_option maxHeartbeats 4000000 in
theorem closed : joinedFacts Tryz.pinned.checked.prog 3 Tryz.f3 Rows.scriptParsesSpec Rows.scriptParsesRow = true := by
  unfold joinedFacts
  repeat' with_reducible refine Bool.and_eq_true_iff.2 ⟨?_, ?_⟩
  all_goals as_aux_lemma => kernel_rfl
theorem named : Tryz.pinned.checked.prog.funcNamed Rows.scriptParsesRow.func = some 3 := by as_aux_lemma => kernel_rfl
theorem wrapper : Tryz.f3.isWrapper Tryz.pinned.checked.prog Rows.scriptParsesRow.wrapper Rows.scriptParsesRow.mainSum := by
  unfold Func.isWrapper
  first | (rw [if_pos (by decide +kernel)]; as_aux_lemma => kernel_rfl) | (rw [if_neg (by decide +kernel)]; exact ⟨rfl, rfl⟩)

theorem conv (os : Os) (started : os.Started) (H : Type) (enc : TypeId × Value → H) :
    ReturnsInHanded Rows.scriptParsesRow.assume Tryz.pinned.checked os 3 .any (Rows.scriptParsesRow.pre enc Tryz.pinned.checked.prog Tryz.f3 (OpenSpec.ofChange Rows.scriptParsesSpec)) (Rows.scriptParsesSpec.post enc Tryz.pinned.checked.prog Tryz.f3 Rows.scriptParsesRow.apart Rows.scriptParsesRow.fresh Rows.scriptParsesRow.handsOn Rows.scriptParsesRow.again) := lifted os started H enc

theorem inst : Tryz.f3.isInstance Tryz.pinned.checked.prog Rows.scriptParsesRow.origin Rows.scriptParsesRow.targs := of_decide_eq_true (by as_aux_lemma => kernel_rfl)
theorem fn4 : Tryz.pinned.checked.prog.funcs[3]? = some Tryz.f3 := Tryz.func3
end Go.Proofs.YthkmbnkkohomeaaGreatDoor.scriptParses
