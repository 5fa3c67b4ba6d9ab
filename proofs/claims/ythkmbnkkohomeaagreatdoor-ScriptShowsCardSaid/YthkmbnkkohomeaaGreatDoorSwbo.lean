/- ScriptShows: what its card asks besides. -/
import Derived.Test.YthkmbnkkohomeaaGreatDoorCards
import Derived.Test.YthkmbnkkohomeaaGreatDoorTie
set_option linter.unusedSimpArgs false
set_option linter.unusedVariables false

namespace Go.Proofs.YthkmbnkkohomeaaGreatDoor.scriptShows
open Go


theorem hw : Rows.scriptShowsRow.wfByText (OpenSpec.ofChange Rows.scriptShowsSpec) = true := by as_aux_lemma => kernel_rfl
theorem hm : Tryz.pinned.checked.prog.mainIs = some (Rows.scriptShowsCard.stood.harness.1, Rows.scriptShowsCard.stood.harness.2.toList) := by as_aux_lemma => kernel_rfl
theorem hlk : true = Tryz.pinned.checked.prog.looks [] := by as_aux_lemma => kernel_rfl
theorem hg : false = Rows.scriptShowsRow.goesBy Tryz.pinned.checked.prog := by as_aux_lemma => kernel_rfl
theorem named2 : Tryz.pinned.checked.prog.funcNamed Rows.scriptShowsRow.func = some 4 := by as_aux_lemma => kernel_rfl
theorem wants : ([2, 36, 9].all fun u => !Tryz.prog.wantsStandIn u) = true := by as_aux_lemma => kernel_rfl
theorem hn : (!Rows.scriptShowsCard.stood.harness.1 && Rows.scriptShowsCard.stood.harness.2.isEmpty && !true) = false := by as_aux_lemma => kernel_rfl
end Go.Proofs.YthkmbnkkohomeaaGreatDoor.scriptShows
