/- ScriptParses: what its card asks besides. -/
import Derived.Test.YthkmbnkkohomeaaGreatDoorCards
import Derived.Test.YthkmbnkkohomeaaGreatDoorTie
set_option linter.unusedSimpArgs false
set_option linter.unusedVariables false

namespace Go.Proofs.YthkmbnkkohomeaaGreatDoor.scriptParses
open Go


theorem hw : Rows.scriptParsesRow.wfByText (OpenSpec.ofChange Rows.scriptParsesSpec) = true := by as_aux_lemma => kernel_rfl
theorem hm : Tryz.pinned.checked.prog.mainIs = some (Rows.scriptParsesCard.stood.harness.1, Rows.scriptParsesCard.stood.harness.2.toList) := by as_aux_lemma => kernel_rfl
theorem hlk : true = Tryz.pinned.checked.prog.looks [] := by as_aux_lemma => kernel_rfl
theorem hg : false = Rows.scriptParsesRow.goesBy Tryz.pinned.checked.prog := by as_aux_lemma => kernel_rfl
theorem named2 : Tryz.pinned.checked.prog.funcNamed Rows.scriptParsesRow.func = some 3 := by as_aux_lemma => kernel_rfl
theorem wants : ([9].all fun u => !Tryz.prog.wantsStandIn u) = true := by as_aux_lemma => kernel_rfl
theorem hn : (!Rows.scriptParsesCard.stood.harness.1 && Rows.scriptParsesCard.stood.harness.2.isEmpty && !true) = false := by as_aux_lemma => kernel_rfl
end Go.Proofs.YthkmbnkkohomeaaGreatDoor.scriptParses
