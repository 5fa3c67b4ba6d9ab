/- Of every text, the statement ScriptParses returns true, and its tied card: the script of a text, or the number of the first line that is wrong, is the document's, and the chapter's example holds. No condition but the library's own variables (two errors, two tables and what the card lists besides), which the card ties to the program's text. -/
import Derived.Test.YthkmbnkkohomeaaGreatDoorPwag
import Derived.Test.YthkmbnkkohomeaaGreatDoorPwah
set_option linter.unusedSimpArgs false
set_option linter.unusedVariables false

namespace Go.Proofs.YthkmbnkkohomeaaGreatDoor.scriptParses
open Go.ChangeShapes Go.WideShapes Go.ChangeAt Go.WideMaps Go.WideElems Go.RowKit
open Go.ChangeMaps (open_string shut_string)
open Go.Proofs.YthkmbnkkohomeaaGreatDoor.scriptShows (wrap_both own laid7 kn_of laidOut door_met)
set_option linter.unusedVariables false


theorem row_holds : Rows.ScriptParsesSaid :=
  OpenClaim.holds_of_wide 3 Tryz.f3 rfl rfl rfl rfl rfl rfl rfl ⟨rfl, rfl, rfl, rfl, rfl⟩ rfl rfl rfl rfl rfl named fn4 closed inst wrapper
    (fun os started H enc _ => conv os started H enc)

/-- The tied card. -/
theorem proved : Rows.ScriptParsesCardSaid :=
  Claim7.holds_tied_plain_at .later [] [.data, .data, .data, .sentinel, .sentinel, .listed, .data] true Rows.scriptParsesCard.stood.harness true
    row_holds (fun _ h => by cases h) hw (fun _ h => by cases h) scriptParses_row_tie rfl ⟨rfl, rfl⟩ hm hn
    (fun f fn hf hfn => by
      obtain rfl : f = 3 := Option.some.inj (named2.symm.trans hf) |>.symm
      obtain rfl : fn = Tryz.f3 := (Option.some.inj (Tryz.func3.symm.trans hfn)).symm
      exact ⟨hlk, fun j t ht => by
        rw [Tryz.params3] at ht
        have hm : t ∈ [9] := by simpa using Array.mem_of_getElem? ht
        exact (show Tryz.prog.wantsStandIn t = false by simpa using List.all_eq_true.1 wants t hm)⟩)
    hg
#print axioms proved
end Go.Proofs.YthkmbnkkohomeaaGreatDoor.scriptParses
