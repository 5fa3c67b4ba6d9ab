/-
  No cell of these rows narrows 'for every input' (looked for: loops, veiled, ifaces, maps, wideKeys, modest, calm, conditions, laid).
  DERIVED. THE GIVEN ROWS OF THIS SEAT. 6 by the template 'for every input the law returns true; each argument reads behind the call as it read before'; 0 by the template 'total and deterministic' (their statements: YtajeiccfgnpbpaaTotals.lean).
  GIVEN WITH THE SEED: the statements are not yours to turn. If you find one false, say at which input.
  Laid BY PROGRAM, IN A SANDBOX (cutbox-rows.mjs): the forced cells as the released guide's own fill.sh prints them over the translation 14854861185ac9ba… (all of the seat's roots in one cut). By AI agents, Wed Nov 11 2026. No macro, syntax, notation, axiom, sorry.
-/
import Derived.Test.YtajeiccfgnpbpaaChecked
import GoSem.Claim
import GoSem.ClaimJoined
import GoSem.ClaimMapViews
import Derived.JoinedTies
import Derived.KernelRfl
namespace Go.Proofs.Ytajeiccfgnpbpaa
/- THE CELL 'sum', in the pinned program and in every row, IS THE sha256 OF THE DUMP (.gsa) THAT YtajeiccfgnpbpaaProg.lean LOADS. Nothing in Lean hashes anything: it is a label: what it is worth is what the hold of that sum in a sandbox is worth. -/
noncomputable def Try.pinned : Pinned := { name := "ytajeiccfgnpbpaa", sum := "14854861185ac9ba040be9361dd30384858df18325d314143def32ab70382e1a", checked := Try.checked }
namespace Rows
def none {H : Type} : Left H := { results := [], args := [] }

/-- 'shedlaw10.TableActs': WHATEVER THE INPUT: true; the input reads as it did. -/
def tableActsSpec : ChangeSpec := { name := "tableActs", fn := fun _ => fun
  | [d1, d2] => { results := [.lit (.bool true)], args := [d1, d2] }
  | _ => none }
def tableActsRow : OpenClaim := { program := "ytajeiccfgnpbpaa", sum := "14854861185ac9ba040be9361dd30384858df18325d314143def32ab70382e1a", func := "shed/shedlaw10.TableActs", spec := "tableActs", unfollowed := true, recurses := true, apart := false }
def TableActsSaid : Prop := tableActsRow.holds Try.pinned (OpenSpec.ofChange tableActsSpec)

/-- ITS FALSE NEIGHBOUR: 'it returns false'. Refute it at one input. -/
def tableActsWrong : ChangeSpec := { name := "tableActs", fn := fun _ => fun
  | [d1, d2] => { results := [.lit (.bool false)], args := [d1, d2] }
  | _ => none }
def TableActsWrongFalsely : Prop := tableActsRow.holds Try.pinned (OpenSpec.ofChange tableActsWrong)

/-- 'shedlaw11.ClassIs': WHATEVER THE INPUT: true; the input reads as it did. -/
def classIsSpec : ChangeSpec := { name := "classIs", fn := fun _ => fun
  | [d1, d2, d3] => { results := [.lit (.bool true)], args := [d1, d2, d3] }
  | _ => none }
def classIsRow : OpenClaim := { program := "ytajeiccfgnpbpaa", sum := "14854861185ac9ba040be9361dd30384858df18325d314143def32ab70382e1a", func := "shed/shedlaw11.ClassIs", spec := "classIs", unfollowed := true, recurses := true, apart := false }
def ClassIsSaid : Prop := classIsRow.holds Try.pinned (OpenSpec.ofChange classIsSpec)

/-- ITS FALSE NEIGHBOUR: 'it returns false'. Refute it at one input. -/
def classIsWrong : ChangeSpec := { name := "classIs", fn := fun _ => fun
  | [d1, d2, d3] => { results := [.lit (.bool false)], args := [d1, d2, d3] }
  | _ => none }
def ClassIsWrongFalsely : Prop := classIsRow.holds Try.pinned (OpenSpec.ofChange classIsWrong)

/-- 'shedlaw12.IfaceKeeps': WHATEVER THE INPUT: true; the input reads as it did. -/
def ifaceKeepsSpec : ChangeSpec := { name := "ifaceKeeps", fn := fun _ => fun
  | [d1, d2] => { results := [.lit (.bool true)], args := [d1, d2] }
  | _ => none }
def ifaceKeepsRow : OpenClaim := { program := "ytajeiccfgnpbpaa", sum := "14854861185ac9ba040be9361dd30384858df18325d314143def32ab70382e1a", func := "shed/shedlaw12.IfaceKeeps", spec := "ifaceKeeps", unfollowed := true, recurses := true, apart := false }
def IfaceKeepsSaid : Prop := ifaceKeepsRow.holds Try.pinned (OpenSpec.ofChange ifaceKeepsSpec)

/-- ITS FALSE NEIGHBOUR: 'it returns false'. Refute it at one input. -/
def ifaceKeepsWrong : ChangeSpec := { name := "ifaceKeeps", fn := fun _ => fun
  | [d1, d2] => { results := [.lit (.bool false)], args := [d1, d2] }
  | _ => none }
def IfaceKeepsWrongFalsely : Prop := ifaceKeepsRow.holds Try.pinned (OpenSpec.ofChange ifaceKeepsWrong)

/-- 'shedlaw12.IfaceMissing': WHATEVER THE INPUT: true; the input reads as it did. -/
def ifaceMissingSpec : ChangeSpec := { name := "ifaceMissing", fn := fun _ => fun
  | [d1, d2, d3] => { results := [.lit (.bool true)], args := [d1, d2, d3] }
  | _ => none }
def ifaceMissingRow : OpenClaim := { program := "ytajeiccfgnpbpaa", sum := "14854861185ac9ba040be9361dd30384858df18325d314143def32ab70382e1a", func := "shed/shedlaw12.IfaceMissing", spec := "ifaceMissing", unfollowed := true, recurses := true, apart := false }
def IfaceMissingSaid : Prop := ifaceMissingRow.holds Try.pinned (OpenSpec.ofChange ifaceMissingSpec)

/-- ITS FALSE NEIGHBOUR: 'it returns false'. Refute it at one input. -/
def ifaceMissingWrong : ChangeSpec := { name := "ifaceMissing", fn := fun _ => fun
  | [d1, d2, d3] => { results := [.lit (.bool false)], args := [d1, d2, d3] }
  | _ => none }
def IfaceMissingWrongFalsely : Prop := ifaceMissingRow.holds Try.pinned (OpenSpec.ofChange ifaceMissingWrong)

/-- 'shedlaw13.ObjectSends': WHATEVER THE INPUT: true; the input reads as it did. -/
def objectSendsSpec : ChangeSpec := { name := "objectSends", fn := fun _ => fun
  | [d] => { results := [.lit (.bool true)], args := [d] }
  | _ => none }
def objectSendsRow : OpenClaim := { program := "ytajeiccfgnpbpaa", sum := "14854861185ac9ba040be9361dd30384858df18325d314143def32ab70382e1a", func := "shed/shedlaw13.ObjectSends", spec := "objectSends", inPlace := ["internal/abi.NoEscape", "internal/bytealg.MakeNoZero"], unfollowed := true, recurses := true, apart := false }
def ObjectSendsSaid : Prop := objectSendsRow.holds Try.pinned (OpenSpec.ofChange objectSendsSpec)

/-- ITS FALSE NEIGHBOUR: 'it returns false'. Refute it at one input. -/
def objectSendsWrong : ChangeSpec := { name := "objectSends", fn := fun _ => fun
  | [d] => { results := [.lit (.bool false)], args := [d] }
  | _ => none }
def ObjectSendsWrongFalsely : Prop := objectSendsRow.holds Try.pinned (OpenSpec.ofChange objectSendsWrong)

/-- 'shedlaw13.ObjectNone': WHATEVER THE INPUT: true; the input reads as it did. -/
def objectNoneSpec : ChangeSpec := { name := "objectNone", fn := fun _ => fun
  | [d1, d2] => { results := [.lit (.bool true)], args := [d1, d2] }
  | _ => none }
def objectNoneRow : OpenClaim := { program := "ytajeiccfgnpbpaa", sum := "14854861185ac9ba040be9361dd30384858df18325d314143def32ab70382e1a", func := "shed/shedlaw13.ObjectNone", spec := "objectNone", inPlace := ["internal/abi.NoEscape", "internal/bytealg.MakeNoZero"], unfollowed := true, recurses := true, apart := false }
def ObjectNoneSaid : Prop := objectNoneRow.holds Try.pinned (OpenSpec.ofChange objectNoneSpec)

/-- ITS FALSE NEIGHBOUR: 'it returns false'. Refute it at one input. -/
def objectNoneWrong : ChangeSpec := { name := "objectNone", fn := fun _ => fun
  | [d1, d2] => { results := [.lit (.bool false)], args := [d1, d2] }
  | _ => none }
def ObjectNoneWrongFalsely : Prop := objectNoneRow.holds Try.pinned (OpenSpec.ofChange objectNoneWrong)

/- THE SECOND FORM. 'bulk': how many values and letters a reading holds, each counted each time it is reached (what is shared counts as often as it is met; a slice's spare places count too). A statement '..UptoSaid' is the law's where the arguments, and the package variables that the reading takes, are together of bulk at most 1048576: NARROWER than '..Said'. Prove '..Said' where nothing that the law and all that it calls make is longer than what came in: it says more and counts as full. Else prove '..UptoSaid'. A law counts once. -/
mutual
def uptoBulk {H : Type} : DataW H → Nat
  | .lit (.string bytes) => bytes.length + 1
  | .lit _ => 1
  | .nil => 1
  | .ptr d => uptoBulk d + 1
  | .slice elems spare => uptoBulkAll elems + uptoBulkAll spare + 1
  | .agg parts => uptoBulkAll parts + 1
  | .iface _ d => uptoBulk d + 1
  | .map entries => uptoBulkEntries entries + 1
  | .held _ => 1
def uptoBulkAll {H : Type} : List (DataW H) → Nat
  | [] => 0
  | d :: r => uptoBulk d + uptoBulkAll r
def uptoBulkEntries {H : Type} : List (Lit × DataW H) → Nat
  | [] => 0
  | x :: r => uptoBulkEntry x + uptoBulkEntries r
def uptoBulkEntry {H : Type} : Lit × DataW H → Nat
  | (.string bytes, d) => bytes.length + uptoBulk d + 1
  | (_, d) => uptoBulk d + 1
 end
def uptoSmall : (H : Type) → List (DataW H) → Bool := fun _ ds => decide (uptoBulkAll ds ≤ 1048576)
def OpenSpec.upto (s : _root_.Go.ChangeSpec) : _root_.Go.OpenSpec := { _root_.Go.OpenSpec.ofChange s with cond := some uptoSmall }

/-- 'shedlaw10.TableActs', WHERE WHAT IT READS IS OF BULK AT MOST 1048576: true; the input reads as it did. -/
def tableActsUptoRow : OpenClaim := { program := "ytajeiccfgnpbpaa", sum := "14854861185ac9ba040be9361dd30384858df18325d314143def32ab70382e1a", func := "shed/shedlaw10.TableActs", spec := "tableActs", unfollowed := true, recurses := true, apart := false, narrowed := true }
def TableActsUptoSaid : Prop := tableActsUptoRow.holds Try.pinned (OpenSpec.upto tableActsSpec)

/-- 'shedlaw11.ClassIs', WHERE WHAT IT READS IS OF BULK AT MOST 1048576: true; the input reads as it did. -/
def classIsUptoRow : OpenClaim := { program := "ytajeiccfgnpbpaa", sum := "14854861185ac9ba040be9361dd30384858df18325d314143def32ab70382e1a", func := "shed/shedlaw11.ClassIs", spec := "classIs", unfollowed := true, recurses := true, apart := false, narrowed := true }
def ClassIsUptoSaid : Prop := classIsUptoRow.holds Try.pinned (OpenSpec.upto classIsSpec)

/-- 'shedlaw12.IfaceKeeps', WHERE WHAT IT READS IS OF BULK AT MOST 1048576: true; the input reads as it did. -/
def ifaceKeepsUptoRow : OpenClaim := { program := "ytajeiccfgnpbpaa", sum := "14854861185ac9ba040be9361dd30384858df18325d314143def32ab70382e1a", func := "shed/shedlaw12.IfaceKeeps", spec := "ifaceKeeps", unfollowed := true, recurses := true, apart := false, narrowed := true }
def IfaceKeepsUptoSaid : Prop := ifaceKeepsUptoRow.holds Try.pinned (OpenSpec.upto ifaceKeepsSpec)

/-- 'shedlaw12.IfaceMissing', WHERE WHAT IT READS IS OF BULK AT MOST 1048576: true; the input reads as it did. -/
def ifaceMissingUptoRow : OpenClaim := { program := "ytajeiccfgnpbpaa", sum := "14854861185ac9ba040be9361dd30384858df18325d314143def32ab70382e1a", func := "shed/shedlaw12.IfaceMissing", spec := "ifaceMissing", unfollowed := true, recurses := true, apart := false, narrowed := true }
def IfaceMissingUptoSaid : Prop := ifaceMissingUptoRow.holds Try.pinned (OpenSpec.upto ifaceMissingSpec)

/-- 'shedlaw13.ObjectSends', WHERE WHAT IT READS IS OF BULK AT MOST 1048576: true; the input reads as it did. -/
def objectSendsUptoRow : OpenClaim := { program := "ytajeiccfgnpbpaa", sum := "14854861185ac9ba040be9361dd30384858df18325d314143def32ab70382e1a", func := "shed/shedlaw13.ObjectSends", spec := "objectSends", inPlace := ["internal/abi.NoEscape", "internal/bytealg.MakeNoZero"], unfollowed := true, recurses := true, apart := false, narrowed := true }
def ObjectSendsUptoSaid : Prop := objectSendsUptoRow.holds Try.pinned (OpenSpec.upto objectSendsSpec)

/-- 'shedlaw13.ObjectNone', WHERE WHAT IT READS IS OF BULK AT MOST 1048576: true; the input reads as it did. -/
def objectNoneUptoRow : OpenClaim := { program := "ytajeiccfgnpbpaa", sum := "14854861185ac9ba040be9361dd30384858df18325d314143def32ab70382e1a", func := "shed/shedlaw13.ObjectNone", spec := "objectNone", inPlace := ["internal/abi.NoEscape", "internal/bytealg.MakeNoZero"], unfollowed := true, recurses := true, apart := false, narrowed := true }
def ObjectNoneUptoSaid : Prop := objectNoneUptoRow.holds Try.pinned (OpenSpec.upto objectNoneSpec)

end Rows
end Go.Proofs.Ytajeiccfgnpbpaa
