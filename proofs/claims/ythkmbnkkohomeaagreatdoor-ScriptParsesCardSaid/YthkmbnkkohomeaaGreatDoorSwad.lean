/- What the card of ScriptShows asks of the world, and the wrap. -/
import Derived.Test.YthkmbnkkohomeaaGreatDoorRows
import Derived.Test.YthkmbnkkohomeaaGreatDoorCards
import Derived.Test.YthkmbnkkohomeaaGreatDoorTie
import Derived.Test.YthkmbnkkohomeaaGreatDoorSwac
import Derived.ProofKit
import Derived.LaidMore
import Derived.LaidLaws
import Derived.OpenShut
import Derived.ShutString
import Derived.ChangeOld
import Derived.ChangeSlices
import Derived.HandedShaped
import Derived.Below
import Derived.Stop.Joined
import Derived.SevenTiedAt
import Derived.Lib.LaidTab
set_option linter.unusedSimpArgs false
set_option linter.unusedVariables false

namespace Go.Proofs.YthkmbnkkohomeaaGreatDoor.scriptShows
open Go.ChangeShapes Go.WideShapes Go.ChangeAt Go.WideMaps Go.WideElems Go.RowKit
open Go.ChangeMaps (open_string shut_string)
set_option linter.unusedVariables false

/-- The wrap that keeps both the world's shape and a condition on the heap. -/
theorem wrap_both {H : Type} {enc : TypeId × Value → H} {a : Assume} {C : Checked} {os : Os} {f : FuncId} {fn : Func} {s : ChangeSpec} {apart fresh handsOn again : Bool} {X : World → Array Value → Prop}
    (hX : ∀ (w w' : World) (args : Array Value), w.heap = w'.heap → X w args → X w' args)
    (own : ownKnob C.prog.godebug = none) (started : os.Started) (noInit : C.prog.inits.idxOf? f = none) (hfn : C.prog.funcs[f]? = some fn)
    (witness : ∃ (w : World) (tape : Tape) (i : Input), w.os = os ∧ (w.forCall tape i).Shaped C.prog ∧ i.vars = [] ∧ Input.okWide C.prog (w.forCall tape i) .any w.heap.size f i ∧
      ((s.pre enc C.prog fn [] apart (w.forCall tape i).memory i.args ∧ X (w.forCall tape i).memory i.args) ∧ sizedMet enc C.prog fn (OpenSpec.ofChange s) apart (w.forCall tape i).memory i.args) ∧ a.holds C.prog (lone (Frame.enter C.prog f i.args .normal) [] (w.forCall tape i)))
    (contract : ∀ (W : World) (base : Nat) (args : Array Value) (ds gs : List (DataW H)) (before : List MemPlace),
      (∀ (j : Nat) t v, fn.params[j]? = some t → args[j]? = some v → Value.okWide C.prog W .any base t v) →
      DataW.Whole enc C.prog fn.params.toList s.vars apart W args.toList ds gs before →
      (DataW.weightsEach C.prog (fn.params.toList ++ s.plain.varTypes C.prog) (ds ++ gs)).all (· ≤ reachBytes) = true →
      W.ShapedOpen C.prog → X W args →
      Calls C.prog f args W fun e W' => ∃ v, e = .returned v ∧ s.post enc C.prog fn apart fresh handsOn again W args v W') :
    ReturnsInHanded a C os f .any (fun w args => (s.pre enc C.prog fn [] apart w args ∧ X w args) ∧ sizedMet enc C.prog fn (OpenSpec.ofChange s) apart w args) (s.post enc C.prog fn apart fresh handsOn again) := by
  refine returnsInHanded_of_calls own started noInit witness ?_
  intro w tape i _ hsh _ hok hpre hholds
  obtain ⟨_, _, _, fn', hfn', _, _, _, _, hval⟩ := hok
  have e : fn' = fn := Option.some.inj (hfn'.symm.trans hfn)
  subst e
  obtain ⟨⟨⟨ds, gs, before, hw, hc⟩, hx⟩, hz⟩ := hpre
  have hw' := DataW.Whole.of_heap (w' := w.forCall tape i) (by rfl) hw
  refine (contract (w.forCall tape i) w.heap.size i.args ds gs before hval hw' (hz.weights hw) hsh (hX _ _ _ (by rfl) hx)).mono fun e W' ⟨v, he, hp⟩ => ?_
  subst he
  exact ChangeSpec.post_blind hp

theorem own : ownKnob Tryz.prog.godebug = none := by kernel_rfl
def laid7 : List (String × DataW Unit) := [("math/bits.deBruijn32tab", Rows.laid_math_bits_deBruijn32tab), ("math/bits.deBruijn64tab", Rows.laid_math_bits_deBruijn64tab), ("internal/strconv.uint64pow10", Rows.laid_internal_strconv_uint64pow10), ("strconv.ErrRange", Rows.laid_strconv_ErrRange), ("strconv.ErrSyntax", Rows.laid_strconv_ErrSyntax), ("unicode.White_Space", Rows.laid_unicode_White_Space), ("strings.asciiSpace", Rows.laid_strings_asciiSpace)]
theorem gP : Tryz.prog.globalNamed "internal/strconv.uint64pow10" = some 1 := by kernel_rfl
theorem gA : Tryz.prog.globalNamed "strings.asciiSpace" = some 6 := by kernel_rfl
theorem gR : Tryz.prog.globalNamed "strconv.ErrRange" = some 3 := by kernel_rfl
theorem gS : Tryz.prog.globalNamed "strconv.ErrSyntax" = some 2 := by kernel_rfl
theorem tP : (Tryz.prog.globals[1]?).map (·.type) = some 145 := by kernel_rfl
theorem tA : (Tryz.prog.globals[6]?).map (·.type) = some 311 := by kernel_rfl
theorem tR : (Tryz.prog.globals[3]?).map (·.type) = some 59 := by kernel_rfl
theorem tS : (Tryz.prog.globals[2]?).map (·.type) = some 59 := by kernel_rfl
theorem cP : Tryz.prog.cellsOf 145 = 20 := by kernel_rfl
theorem cA : Tryz.prog.cellsOf 311 = 256 := by kernel_rfl
theorem cE : Tryz.prog.cellsOf 5 = 1 := by kernel_rfl
theorem cQ : Tryz.prog.cellsOf 74 = 1 := by kernel_rfl
theorem uA : Tryz.prog.underlying 311 = some (.array 256 5) := by kernel_rfl
theorem uP : Tryz.prog.underlying 145 = some (.array 20 74) := by kernel_rfl
theorem uE : ∃ ms, Tryz.prog.underlying 59 = some (.interface ms) := ⟨_, Tryz.underlying59⟩
theorem tabData_eq : (Rows.laid_strings_asciiSpace : DataW Unit) = Lib.tabData .u8 Lib.asciiSpaceTab := by kernel_rfl
theorem powData_eq : (Rows.laid_internal_strconv_uint64pow10 : DataW Unit) = Lib.tabData .u64 Lib.pow10Tab := by kernel_rfl

theorem arr_one {a : Array Value} {v : Value} (h : a.toList = [v]) : a = #[v] := by
  cases a
  simp at h
  rw [h]

/-- What the condition gives the walks. -/
theorem of_laid {W : World} (h : laidMetH Tryz.prog laid7 W) : Cod.Tab W ∧ Lib.TabIs Tryz.prog W "internal/strconv.uint64pow10" .u64 Lib.pow10Tab ∧
    (∃ tp p, W.var? Tryz.prog "strconv.ErrSyntax" = some #[.iface tp p]) ∧ (∃ tp p, W.var? Tryz.prog "strconv.ErrRange" = some #[.iface tp p]) := by
  rw [MakeChecks.laidMetH_plain _ _ _ (by kernel_rfl)] at h
  obtain ⟨ps, ⟨g1, t1, cs1, f1, p1, q1, hg1, ht1, hv1, hd1, ⟨g2, t2, cs2, f2, p2, q2, hg2, ht2, hv2, hd2, ⟨g3, t3, cs3, f3, p3, q3, hg3, ht3, hv3, hd3, ⟨g4, t4, cs4, f4, p4, q4, hg4, ht4, hv4, hd4, ⟨g5, t5, cs5, f5, p5, q5, hg5, ht5, hv5, hd5, ⟨g6, t6, cs6, f6, p6, q6, hg6, ht6, hv6, hd6, ⟨g7, t7, cs7, f7, p7, q7, hg7, ht7, hv7, hd7, _, _⟩, _⟩, _⟩, _⟩, _⟩, _⟩, _⟩, _, _⟩ := h
  obtain ⟨ms, hu⟩ := uE
  refine ⟨?_, ?_, ?_, ?_⟩
  · obtain rfl := Option.some.inj (gA.symm.trans hg7)
    obtain rfl := Option.some.inj (tA.symm.trans ht7)
    unfold Cod.Tab Lib.TabIs
    rw [hv7]
    rw [tabData_eq] at hd7
    rw [← Lib.cells_of_tab uA Tryz.underlying5 cE cA hd7]
  · obtain rfl := Option.some.inj (gP.symm.trans hg3)
    obtain rfl := Option.some.inj (tP.symm.trans ht3)
    unfold Lib.TabIs
    rw [hv3]
    rw [powData_eq] at hd3
    rw [← Lib.cells_of_tab uP Tryz.underlying74 cQ cP hd3]
  · obtain rfl := Option.some.inj (gS.symm.trans hg5)
    obtain rfl := Option.some.inj (tS.symm.trans ht5)
    obtain ⟨_, u, v, hcs, _, _⟩ := iface_of_trod hu hd5
    exact ⟨u, v, by rw [hv5, arr_one hcs]⟩
  · obtain rfl := Option.some.inj (gR.symm.trans hg4)
    obtain rfl := Option.some.inj (tR.symm.trans ht4)
    obtain ⟨_, u, v, hcs, _, _⟩ := iface_of_trod hu hd4
    exact ⟨u, v, by rw [hv4, arr_one hcs]⟩

/-- The door's own heap meets the condition. -/
theorem door_met (os : Os) (args : Array Value) : laidMetH Tryz.prog laid7 ((World.doorLaid Tryz.prog 400 os).forCall (fun _ _ => 0) ⟨#[], args, []⟩).memory :=
  laidMetH_of_parts3 (fuel := 8) (laidMet_of_run' 8 (by kernel_rfl) (by kernel_rfl)) (by kernel_rfl) (by kernel_rfl)

theorem laidOut : laidOutB Tryz.prog = true := by kernel_rfl
theorem cI : Tryz.prog.cellsOf 2 = 1 := by kernel_rfl
theorem kn_of {W : World} (h : laidMetH Tryz.prog laid7 W) (hs : W.ShapedOpen Tryz.prog) : Mem.Kn W := by
  obtain ⟨h1, h2, h3, h4⟩ := of_laid h
  exact ⟨h1, h2, h3, h4, Tryz.laysM219.s1_3 W hs⟩

end Go.Proofs.YthkmbnkkohomeaaGreatDoor.scriptShows
