/- Of every code, every stack and every output, the statement ScriptShows returns true, and its tied card: the text of any result is the document's, and the chapter's example holds. No condition but the library's own variables (two errors, two tables and what the card lists besides), which the card ties to the program's text. -/
import Derived.Test.YthkmbnkkohomeaaGreatDoorSwbm
set_option linter.unusedSimpArgs false
set_option linter.unusedVariables false

namespace Go.Proofs.YthkmbnkkohomeaaGreatDoor.scriptShows
open Go.ChangeShapes Go.WideShapes Go.ChangeAt Go.WideMaps Go.WideElems Go.RowKit
open Go.ChangeMaps (open_string shut_string)
set_option linter.unusedVariables false

set_option maxHeartbeats 4000000 in
theorem closed : joinedFacts Tryz.pinned.checked.prog 4 Tryz.f4 Rows.scriptShowsSpec Rows.scriptShowsRow = true := by
  unfold joinedFacts
  repeat' with_reducible refine Bool.and_eq_true_iff.2 ⟨?_, ?_⟩
  all_goals as_aux_lemma => kernel_rfl
theorem named : Tryz.pinned.checked.prog.funcNamed Rows.scriptShowsRow.func = some 4 := by as_aux_lemma => kernel_rfl
theorem wrapper : Tryz.f4.isWrapper Tryz.pinned.checked.prog Rows.scriptShowsRow.wrapper Rows.scriptShowsRow.mainSum := by
  unfold Func.isWrapper
  first | (rw [if_pos (by decide +kernel)]; as_aux_lemma => kernel_rfl) | (rw [if_neg (by decide +kernel)]; exact ⟨rfl, rfl⟩)

theorem conv (os : Os) (started : os.Started) (H : Type) (enc : TypeId × Value → H) :
    ReturnsInHanded Rows.scriptShowsRow.assume Tryz.pinned.checked os 4 .any (Rows.scriptShowsRow.pre enc Tryz.pinned.checked.prog Tryz.f4 (OpenSpec.ofChange Rows.scriptShowsSpec)) (Rows.scriptShowsSpec.post enc Tryz.pinned.checked.prog Tryz.f4 Rows.scriptShowsRow.apart Rows.scriptShowsRow.fresh Rows.scriptShowsRow.handsOn Rows.scriptShowsRow.again) := lifted os started H enc

theorem inst : Tryz.f4.isInstance Tryz.pinned.checked.prog Rows.scriptShowsRow.origin Rows.scriptShowsRow.targs := of_decide_eq_true (by as_aux_lemma => kernel_rfl)
theorem fn4 : Tryz.pinned.checked.prog.funcs[4]? = some Tryz.f4 := Tryz.func4
end Go.Proofs.YthkmbnkkohomeaaGreatDoor.scriptShows
