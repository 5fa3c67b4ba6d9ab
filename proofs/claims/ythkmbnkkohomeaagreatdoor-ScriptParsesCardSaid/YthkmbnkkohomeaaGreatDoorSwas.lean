/- Several texts in one: ArA, FmD, VmC. -/
import Derived.Test.YthkmbnkkohomeaaGreatDoorSwac
import Derived.Test.YthkmbnkkohomeaaGreatDoorChecked
import Derived.WalkKit
import Derived.WalkSpells
import Derived.WalkLawsBesides
import Derived.WalkSmall
import Derived.BigQuiet
import Derived.Deep.QuietTactic
import Derived.Lib.Hide
import Derived.OwnWalk
import Derived.Test.YthkmbnkkohomeaaGreatDoorSwaq
import Derived.Deep.RegionLaw
import Derived.Test.YthkmbnkkohomeaaGreatDoorSwar
set_option linter.unusedSimpArgs false
set_option linter.unusedVariables false
/- Contracts of package arith, of the numbers 1 and 1: which names it knows. -/
namespace Go.Proofs.YthkmbnkkohomeaaGreatDoor.Mem
open Go.RowKit

def isComp (s : ByteArray) : Bool := (s.toList == [43]) || (s.toList == [45]) || (s.toList == [42]) || (s.toList == [97, 110, 100]) || (s.toList == [111, 114]) || (s.toList == [120, 111, 114]) || (s.toList == [108, 115, 104, 105, 102, 116]) || (s.toList == [114, 115, 104, 105, 102, 116]) || (s.toList == [109, 105, 110]) || (s.toList == [109, 97, 120])
def isCmp (s : ByteArray) : Bool := (s.toList == [61]) || (s.toList == [60, 62]) || (s.toList == [60]) || (s.toList == [62]) || (s.toList == [117, 60])
def isDiv (s : ByteArray) : Bool := (s.toList == [47]) || (s.toList == [109, 111, 100])
def isOne (s : ByteArray) : Bool := (s.toList == [110, 101, 103, 97, 116, 101]) || (s.toList == [105, 110, 118, 101, 114, 116]) || (s.toList == [97, 98, 115]) || (s.toList == [48, 61]) || (s.toList == [48, 60]) || (s.toList == [49, 43]) || (s.toList == [99, 104, 97, 114, 43]) || (s.toList == [49, 45]) || (s.toList == [50, 42]) || (s.toList == [50, 47]) || (s.toList == [99, 101, 108, 108, 115]) || (s.toList == [99, 101, 108, 108, 43]) || (s.toList == [97, 108, 105, 103, 110, 101, 100])
def Num2 (ok : Bool) (e : Ending) : Prop := ∃ n : Int, e = .returned (.tuple #[.int .i64 n, .bool ok])
def Num3 (ok : Bool) (e : Ending) : Prop := ∃ n c : Int, e = .returned (.tuple #[.int .i64 n, .int .i64 c, .bool ok])
def DivR (e : Ending) : Prop := ∃ n c : Int, e = .returned (.tuple #[.int .i64 n, .int .i64 c])
def Bool2 (ok : Bool) (e : Ending) : Prop := ∃ h : Bool, e = .returned (.tuple #[.bool h, .bool ok])

set_option maxRecDepth 100000 in
set_option maxHeartbeats 4000000 in
theorem comp1 (s : ByteArray) (w : World) :
    Calls Tryz.prog 305 #[.string s, .int .i64 1, .int .i64 1] w fun e w' => Num2 (isComp s) e ∧ w' = w := by
  cases t0 : (s.toList == [43]) with
  | true =>
    go_enter Tryz.func305, Tryz.ntmps305
    go_wp2_with (go_at_call 307; refine (flag_any _ _).mono ?_; rintro e w9 ⟨⟨n9, rfl⟩, rfl⟩)
    go_ret2
    exact ⟨⟨_, by simp [isComp, *]; rfl⟩, rfl⟩
  | false =>
    cases t1 : (s.toList == [45]) with
    | true =>
      go_enter Tryz.func305, Tryz.ntmps305
      go_wp2_with (go_at_call 307; refine (flag_any _ _).mono ?_; rintro e w9 ⟨⟨n9, rfl⟩, rfl⟩)
      go_ret2
      exact ⟨⟨_, by simp [isComp, *]; rfl⟩, rfl⟩
    | false =>
      cases t2 : (s.toList == [42]) with
      | true =>
        go_enter Tryz.func305, Tryz.ntmps305
        go_wp2_with (go_at_call 307; refine (flag_any _ _).mono ?_; rintro e w9 ⟨⟨n9, rfl⟩, rfl⟩)
        go_ret2
        exact ⟨⟨_, by simp [isComp, *]; rfl⟩, rfl⟩
      | false =>
        cases t3 : (s.toList == [97, 110, 100]) with
        | true =>
          go_enter Tryz.func305, Tryz.ntmps305
          go_wp2_with (go_at_call 307; refine (flag_any _ _).mono ?_; rintro e w9 ⟨⟨n9, rfl⟩, rfl⟩)
          go_ret2
          exact ⟨⟨_, by simp [isComp, *]; rfl⟩, rfl⟩
        | false =>
          cases t4 : (s.toList == [111, 114]) with
          | true =>
            go_enter Tryz.func305, Tryz.ntmps305
            go_wp2_with (go_at_call 307; refine (flag_any _ _).mono ?_; rintro e w9 ⟨⟨n9, rfl⟩, rfl⟩)
            go_ret2
            exact ⟨⟨_, by simp [isComp, *]; rfl⟩, rfl⟩
          | false =>
            cases t5 : (s.toList == [120, 111, 114]) with
            | true =>
              go_enter Tryz.func305, Tryz.ntmps305
              go_wp2_with (go_at_call 307; refine (flag_any _ _).mono ?_; rintro e w9 ⟨⟨n9, rfl⟩, rfl⟩)
              go_ret2
              exact ⟨⟨_, by simp [isComp, *]; rfl⟩, rfl⟩
            | false =>
              cases t6 : (s.toList == [108, 115, 104, 105, 102, 116]) with
              | true =>
                go_enter Tryz.func305, Tryz.ntmps305
                go_wp2_with (go_at_call 307; refine (flag_any _ _).mono ?_; rintro e w9 ⟨⟨n9, rfl⟩, rfl⟩)
                go_ret2
                exact ⟨⟨_, by simp [isComp, *]; rfl⟩, rfl⟩
              | false =>
                cases t7 : (s.toList == [114, 115, 104, 105, 102, 116]) with
                | true =>
                  go_enter Tryz.func305, Tryz.ntmps305
                  go_wp2_with (go_at_call 307; refine (flag_any _ _).mono ?_; rintro e w9 ⟨⟨n9, rfl⟩, rfl⟩)
                  go_ret2
                  exact ⟨⟨_, by simp [isComp, *]; rfl⟩, rfl⟩
                | false =>
                  cases t8 : (s.toList == [109, 105, 110]) with
                  | true =>
                    go_enter Tryz.func305, Tryz.ntmps305
                    go_wp2_with (go_at_call 307; refine (flag_any _ _).mono ?_; rintro e w9 ⟨⟨n9, rfl⟩, rfl⟩)
                    go_ret2
                    exact ⟨⟨_, by simp [isComp, *]; rfl⟩, rfl⟩
                  | false =>
                    cases t9 : (s.toList == [109, 97, 120]) with
                    | true =>
                      go_enter Tryz.func305, Tryz.ntmps305
                      go_wp2_with (go_at_call 307; refine (flag_any _ _).mono ?_; rintro e w9 ⟨⟨n9, rfl⟩, rfl⟩)
                      go_ret2
                      exact ⟨⟨_, by simp [isComp, *]; rfl⟩, rfl⟩
                    | false =>
                      go_enter Tryz.func305, Tryz.ntmps305
                      go_wp2_with (go_at_call 307; refine (flag_any _ _).mono ?_; rintro e w9 ⟨⟨n9, rfl⟩, rfl⟩)
                      go_ret2
                      exact ⟨⟨_, by simp [isComp, *]; rfl⟩, rfl⟩

set_option maxRecDepth 100000 in
set_option maxHeartbeats 4000000 in
theorem cmp1 (s : ByteArray) (w : World) :
    Calls Tryz.prog 306 #[.string s, .int .i64 1, .int .i64 1] w fun e w' => Bool2 (isCmp s) e ∧ w' = w := by
  cases t0 : (s.toList == [61]) with
  | true =>
    go_enter Tryz.func306, Tryz.ntmps306
    go_wp2_with (go_at_call 307; refine (flag_any _ _).mono ?_; rintro e w9 ⟨⟨n9, rfl⟩, rfl⟩)
    go_ret2
    exact ⟨⟨_, by simp [isCmp, *]; rfl⟩, rfl⟩
  | false =>
    cases t1 : (s.toList == [60, 62]) with
    | true =>
      go_enter Tryz.func306, Tryz.ntmps306
      go_wp2_with (go_at_call 307; refine (flag_any _ _).mono ?_; rintro e w9 ⟨⟨n9, rfl⟩, rfl⟩)
      go_ret2
      exact ⟨⟨_, by simp [isCmp, *]; rfl⟩, rfl⟩
    | false =>
      cases t2 : (s.toList == [60]) with
      | true =>
        go_enter Tryz.func306, Tryz.ntmps306
        go_wp2_with (go_at_call 307; refine (flag_any _ _).mono ?_; rintro e w9 ⟨⟨n9, rfl⟩, rfl⟩)
        go_ret2
        exact ⟨⟨_, by simp [isCmp, *]; rfl⟩, rfl⟩
      | false =>
        cases t3 : (s.toList == [62]) with
        | true =>
          go_enter Tryz.func306, Tryz.ntmps306
          go_wp2_with (go_at_call 307; refine (flag_any _ _).mono ?_; rintro e w9 ⟨⟨n9, rfl⟩, rfl⟩)
          go_ret2
          exact ⟨⟨_, by simp [isCmp, *]; rfl⟩, rfl⟩
        | false =>
          cases t4 : (s.toList == [117, 60]) with
          | true =>
            go_enter Tryz.func306, Tryz.ntmps306
            go_wp2_with (go_at_call 307; refine (flag_any _ _).mono ?_; rintro e w9 ⟨⟨n9, rfl⟩, rfl⟩)
            go_ret2
            exact ⟨⟨_, by simp [isCmp, *]; rfl⟩, rfl⟩
          | false =>
            go_enter Tryz.func306, Tryz.ntmps306
            go_wp2_with (go_at_call 307; refine (flag_any _ _).mono ?_; rintro e w9 ⟨⟨n9, rfl⟩, rfl⟩)
            go_ret2
            exact ⟨⟨_, by simp [isCmp, *]; rfl⟩, rfl⟩

set_option maxRecDepth 100000 in
theorem flag_any (b : Bool) (w : World) : Calls Tryz.prog 307 #[.bool b] w fun e w' => (∃ n : Int, e = .returned (.int .i64 n)) ∧ w' = w := by
  cases b
  · go_enter Tryz.func307, Tryz.ntmps307
    go_wp2_with fail
    go_ret
    exact ⟨⟨_, rfl⟩, rfl⟩
  · go_enter Tryz.func307, Tryz.ntmps307
    go_wp2_with fail
    go_ret
    exact ⟨⟨_, rfl⟩, rfl⟩

set_option maxRecDepth 100000 in
set_option maxHeartbeats 4000000 in
theorem one1 (s : ByteArray) (w : World) :
    Calls Tryz.prog 178 #[.string s, .int .i64 1] w fun e w' => Num2 (isOne s) e ∧ w' = w := by
  cases t0 : (s.toList == [110, 101, 103, 97, 116, 101]) with
  | true =>
    go_enter Tryz.func178, Tryz.ntmps178
    go_wp2_with (go_at_call 307; refine (flag_any _ _).mono ?_; rintro e w9 ⟨⟨n9, rfl⟩, rfl⟩)
    go_ret2
    exact ⟨⟨_, by simp [isOne, *]; rfl⟩, rfl⟩
  | false =>
    cases t1 : (s.toList == [105, 110, 118, 101, 114, 116]) with
    | true =>
      go_enter Tryz.func178, Tryz.ntmps178
      go_wp2_with (go_at_call 307; refine (flag_any _ _).mono ?_; rintro e w9 ⟨⟨n9, rfl⟩, rfl⟩)
      go_ret2
      exact ⟨⟨_, by simp [isOne, *]; rfl⟩, rfl⟩
    | false =>
      cases t2 : (s.toList == [97, 98, 115]) with
      | true =>
        go_enter Tryz.func178, Tryz.ntmps178
        go_wp2_with (go_at_call 307; refine (flag_any _ _).mono ?_; rintro e w9 ⟨⟨n9, rfl⟩, rfl⟩)
        go_ret2
        exact ⟨⟨_, by simp [isOne, *]; rfl⟩, rfl⟩
      | false =>
        cases t3 : (s.toList == [48, 61]) with
        | true =>
          go_enter Tryz.func178, Tryz.ntmps178
          go_wp2_with (go_at_call 307; refine (flag_any _ _).mono ?_; rintro e w9 ⟨⟨n9, rfl⟩, rfl⟩)
          go_ret2
          exact ⟨⟨_, by simp [isOne, *]; rfl⟩, rfl⟩
        | false =>
          cases t4 : (s.toList == [48, 60]) with
          | true =>
            go_enter Tryz.func178, Tryz.ntmps178
            go_wp2_with (go_at_call 307; refine (flag_any _ _).mono ?_; rintro e w9 ⟨⟨n9, rfl⟩, rfl⟩)
            go_ret2
            exact ⟨⟨_, by simp [isOne, *]; rfl⟩, rfl⟩
          | false =>
            cases t5 : (s.toList == [49, 43]) with
            | true =>
              go_enter Tryz.func178, Tryz.ntmps178
              go_wp2_with (go_at_call 307; refine (flag_any _ _).mono ?_; rintro e w9 ⟨⟨n9, rfl⟩, rfl⟩)
              go_ret2
              exact ⟨⟨_, by simp [isOne, *]; rfl⟩, rfl⟩
            | false =>
              cases t6 : (s.toList == [99, 104, 97, 114, 43]) with
              | true =>
                go_enter Tryz.func178, Tryz.ntmps178
                go_wp2_with (go_at_call 307; refine (flag_any _ _).mono ?_; rintro e w9 ⟨⟨n9, rfl⟩, rfl⟩)
                go_ret2
                exact ⟨⟨_, by simp [isOne, *]; rfl⟩, rfl⟩
              | false =>
                cases t7 : (s.toList == [49, 45]) with
                | true =>
                  go_enter Tryz.func178, Tryz.ntmps178
                  go_wp2_with (go_at_call 307; refine (flag_any _ _).mono ?_; rintro e w9 ⟨⟨n9, rfl⟩, rfl⟩)
                  go_ret2
                  exact ⟨⟨_, by simp [isOne, *]; rfl⟩, rfl⟩
                | false =>
                  cases t8 : (s.toList == [50, 42]) with
                  | true =>
                    go_enter Tryz.func178, Tryz.ntmps178
                    go_wp2_with (go_at_call 307; refine (flag_any _ _).mono ?_; rintro e w9 ⟨⟨n9, rfl⟩, rfl⟩)
                    go_ret2
                    exact ⟨⟨_, by simp [isOne, *]; rfl⟩, rfl⟩
                  | false =>
                    cases t9 : (s.toList == [50, 47]) with
                    | true =>
                      go_enter Tryz.func178, Tryz.ntmps178
                      go_wp2_with (go_at_call 307; refine (flag_any _ _).mono ?_; rintro e w9 ⟨⟨n9, rfl⟩, rfl⟩)
                      go_ret2
                      exact ⟨⟨_, by simp [isOne, *]; rfl⟩, rfl⟩
                    | false =>
                      cases t10 : (s.toList == [99, 101, 108, 108, 115]) with
                      | true =>
                        go_enter Tryz.func178, Tryz.ntmps178
                        go_wp2_with (go_at_call 307; refine (flag_any _ _).mono ?_; rintro e w9 ⟨⟨n9, rfl⟩, rfl⟩)
                        go_ret2
                        exact ⟨⟨_, by simp [isOne, *]; rfl⟩, rfl⟩
                      | false =>
                        cases t11 : (s.toList == [99, 101, 108, 108, 43]) with
                        | true =>
                          go_enter Tryz.func178, Tryz.ntmps178
                          go_wp2_with (go_at_call 307; refine (flag_any _ _).mono ?_; rintro e w9 ⟨⟨n9, rfl⟩, rfl⟩)
                          go_ret2
                          exact ⟨⟨_, by simp [isOne, *]; rfl⟩, rfl⟩
                        | false =>
                          cases t12 : (s.toList == [97, 108, 105, 103, 110, 101, 100]) with
                          | true =>
                            go_enter Tryz.func178, Tryz.ntmps178
                            go_wp2_with (go_at_call 307; refine (flag_any _ _).mono ?_; rintro e w9 ⟨⟨n9, rfl⟩, rfl⟩)
                            go_ret2
                            exact ⟨⟨_, by simp [isOne, *]; rfl⟩, rfl⟩
                          | false =>
                            go_enter Tryz.func178, Tryz.ntmps178
                            go_wp2_with (go_at_call 307; refine (flag_any _ _).mono ?_; rintro e w9 ⟨⟨n9, rfl⟩, rfl⟩)
                            go_ret2
                            exact ⟨⟨_, by simp [isOne, *]; rfl⟩, rfl⟩

set_option maxRecDepth 100000 in
set_option maxHeartbeats 4000000 in
theorem div1 (s : ByteArray) (w : World) :
    Calls Tryz.prog 304 #[.string s, .int .i64 1, .int .i64 1] w fun e w' => DivR e ∧ Fr (fun _ => False) w w' := by
  cases t0 : (s.toList == [47]) with
  | true =>
    go_enter Tryz.func304, Tryz.ntmps304
    go_wp2_with fail
    go_quiet (fail)
    go_wp2_with fail
    go_ret2
    exact ⟨⟨_, _, rfl⟩, (Fr.refl _ _).drewN _⟩
  | false =>
    go_enter Tryz.func304, Tryz.ntmps304
    go_wp2_with fail
    go_quiet (fail)
    go_wp2_with fail
    go_ret2
    exact ⟨⟨_, _, rfl⟩, (Fr.refl _ _).drewN _⟩

def isTwo (s : ByteArray) : Bool := isDiv s || isComp s || isCmp s
set_option maxRecDepth 100000 in
set_option maxHeartbeats 4000000 in
theorem two1 (s : ByteArray) (w : World) :
    Calls Tryz.prog 175 #[.string s, .int .i64 1, .int .i64 1] w fun e w' => Num3 (isTwo s) e ∧ Fr (fun _ => False) w w' := by
  unfold isTwo
  cases t0 : isComp s <;> cases t1 : (s.toList == [47]) <;> cases t2 : (s.toList == [109, 111, 100])
  all_goals
    have hF := Fr.refl (fun _ => False) w
    go_enter Tryz.func175, Tryz.ntmps175
    go_wp2_with (first | (go_at_call 304; refine (div1 _ _).mono ?_; rintro e w9 ⟨⟨n9, c9, rfl⟩, hf9⟩; replace hF := hF.trans hf9) | (go_at_call 305; refine (comp1 _ _).mono ?_; rintro e w9 ⟨⟨n9, rfl⟩, rfl⟩) | (go_at_call 306; refine (cmp1 _ _).mono ?_; rintro e w9 ⟨⟨h9, rfl⟩, rfl⟩) | (go_at_call 307; refine (flag_any _ _).mono ?_; rintro e w9 ⟨⟨n9, rfl⟩, rfl⟩))
    all_goals
      go_ret3
      first | exact ⟨⟨_, _, by simp [isDiv, *]; rfl⟩, hF⟩ | exact ⟨⟨_, _, by simp [isDiv, *]; exact ⟨rfl, rfl⟩⟩, hF⟩

end Go.Proofs.YthkmbnkkohomeaaGreatDoor.Mem

/- Maps of functions: a store in a region that draws its order. -/
namespace Go.Proofs.YthkmbnkkohomeaaGreatDoor.Mem
open Go.RowKit Go.Maps

open Classical in
theorem FmP.store {Kd : List (List UInt8 × Option Value)} {w : World} {b n : Nat} (hown : FmP Kd w b n) (t et : TypeId) (ht : Tryz.prog.underlying t = some (.map 9 et)) (hn : n < maxLen) (s : ByteArray) (hs : s.size ≤ maxLen) (hk : s.data.toList ∉ Kd.map (·.1)) (f : Fn) (p c : Array Value) :
    ∃ w', (Instr.mapUpdate t (.map (some b)) (.string s) (.func f p c)).run Tryz.prog w = .ok () w' ∧ FmP Kd w' b (n + 1) ∧ Fr (fun j => j = b) w w' := by
  obtain ⟨F, ⟨D, hD, hi, hU, hh, hfn⟩, hKd⟩ := hown
  have hkl : WideAt.IsKeyLit (.string s.data.toList) := trivial
  obtain ⟨w', hrun, r1, r2⟩ := hD.store strKey ht hn (WideMaps.keyOf_string_mk Tryz.underlying9 hs) (fnElem_fn f p c)
  refine ⟨w', hrun, ⟨fun z => if z = .string s.data.toList then some (.func f p c) else F z, ⟨_, r1, hi.put _ _, fun z => ?_, fun z => ?_, fun z u hu => ?_⟩, fun y hy => ?_⟩, fr_turnedF r2⟩
  · dsimp only
    by_cases hz : z = .string s.data.toList
    · subst hz
      rw [if_pos rfl, atKey_put_same hi hkl]
      rfl
    · rw [if_neg hz, atKey_put_other hz, hU]
  · dsimp only
    by_cases hz : z = .string s.data.toList
    · subst hz
      rw [if_pos rfl, has_put_same hi hkl]
      rfl
    · rw [if_neg hz, has_put_other hz, hh]
  · dsimp only at hu
    by_cases hz : z = .string s.data.toList
    · rw [if_pos hz] at hu
      exact ⟨f, p, c, (Option.some.inj hu).symm⟩
    · rw [if_neg hz] at hu
      exact hfn z u hu
  · dsimp only
    rw [if_neg (fun e => hk (by injection e with e; rw [← e]; exact List.mem_map_of_mem hy))]
    exact hKd y hy
end Go.Proofs.YthkmbnkkohomeaaGreatDoor.Mem

/- Contracts of package vm: the table of arithmetic. -/
namespace Go.Proofs.YthkmbnkkohomeaaGreatDoor.Mem
open Go.RowKit Go.Maps

theorem two_nodot : ∀ k : Fin 86, isTwo (Cod.nm.getD k.val ByteArray.empty) = true → (Cod.nm.getD k.val ByteArray.empty).data.toList ≠ [46] := by decide +kernel
theorem one_nodot : ∀ k : Fin 86, isOne (Cod.nm.getD k.val ByteArray.empty) = true → (Cod.nm.getD k.val ByteArray.empty).data.toList ≠ [46] := by decide +kernel
theorem nm_small : ∀ k : Fin 86, (Cod.nm.getD k.val ByteArray.empty).size ≤ 31 := by decide +kernel

set_option maxRecDepth 100000 in
set_option maxHeartbeats 4000000 in
theorem arithmetic_nd (w : World) (ht : Cod.Tab w) :
    Calls Tryz.prog 110 #[] w fun e w' => e = .returned (.map (some w.heap.size)) ∧ FmP [([46], none)] w' w.heap.size 172 ∧ Fr (fun _ => False) w w' := by
  have hmf : ∀ (fn : Fn) (first cap : Array Value) (w : World), (Instr.makeFunc fn first cap).run Tryz.prog w = .ok (.func fn first cap) w := fun _ _ _ _ => rfl
  have hmm := @run_makeMap Tryz.prog
  have ht1 : Cod.Tab (w.alloc (.map #[] 0)) := Cod.tab_fr ((Fr.refl _ _).alloc _) ht
  have HN := Lib.hid (Cod.names_any (w.alloc (.map #[] 0)) ht1)
  have hm := (FmP.made [[46]] w)
  have hs1 : (w.alloc (.map #[] 0)).heap.size = w.heap.size + 1 := by simp
  obtain ⟨w1, hw1⟩ : ∃ w1, (w.alloc (.map #[] 0)).alloc (.cells (Cod.nm.map Value.string).toArray 9) = w1 := ⟨_, rfl⟩
  have hcell : ∀ j, j < 86 → w1.cell? ⟨w.heap.size + 1, j, none⟩ = some (.string (Cod.nm.getD j ByteArray.empty)) := fun j hj => by
    rw [← hw1]
    simp [List.getD, Cod.nm_length, hj]
  have hm1 : FmP [([46], none)] w1 w.heap.size 0 := hw1 ▸ hm.fr ((Fr.refl (fun _ => False) _).alloc _) id
  have hF1 : Fr (fun _ => False) w w1 := hw1 ▸ ((Fr.refl _ w).alloc _).alloc _
  have hz1 : w1.heap.size = w.heap.size + 2 := by rw [← hw1]; simp
  have HC := Lib.hid hcell
  have HM := Lib.hid hm1
  have HF := Lib.hid hF1
  clear hcell hm1 hF1 ht1 hm
  go_enter Tryz.func110, Tryz.ntmps110
  go_wp2_with (go_at_call 126; refine HN.out.mono ?_; rintro e w' ⟨rfl, rfl⟩)
  go_loopw [12] (fun iv wr => ∃ k : Nat, k ≤ 86 ∧ iv = .int .i64 k ∧ FmP [([46], none)] wr w.heap.size (2 * k) ∧ Fr (fun j => j = w.heap.size) w1 wr) (fun iv _ => 86 - (intOf iv).toNat)
  case atStart => exact ⟨0, Nat.zero_le _, rfl, HM.out, Fr.refl _ _⟩
  case round =>
    obtain ⟨k, hk, rfl, hm, hF⟩ := hrel
    by_cases hlt : k < 86
    · have hc := hF.cell (HC.out k hlt) (by dsimp only; omega)
      have h2 := two_nodot ⟨k, hlt⟩
      have h1 := one_nodot ⟨k, hlt⟩
      have hz := nm_small ⟨k, hlt⟩
      obtain ⟨s, hs⟩ : ∃ s, Cod.nm.getD k ByteArray.empty = s := ⟨_, rfl⟩
      dsimp only at h1 h2 hz
      rw [hs] at hc h1 h2 hz
      have hk46 : isTwo s = true ∨ isOne s = true → s.data.toList ∉ [([46], (none : Option Value))].map (·.1) := by
        intro h
        simp
        exact h.elim h2 h1
      have hz' : s.size ≤ maxLen := by unfold maxLen; omega
      have hrs := hF.size
      have hbw : w.heap.size < wr.heap.size := by omega
      have hq := cell_of_one (heap_alloc_last wr (.cells #[.string s] 9))
      have HF1 := Lib.hid hF
      have H2 := Lib.hid h2
      have H1 := Lib.hid h1
      have HK := Lib.hid hk46
      clear hs h2 h1 hF hk46
      cases e2 : isTwo s <;> cases e1 : isOne s
      · go_wp2_with (first | (go_at_call 175; refine (two1 _ _).mono ?_; rintro e w9 ⟨⟨n9, c9, rfl⟩, hf9⟩; rw [e2]; have hg9 : Fr (fun _ => False) wr w9 := Fr.trans ((Fr.refl _ _).alloc _) hf9; have hq9 := hf9.cell hq id; have hm9 := hm.fr hg9 id; clear hf9) | (go_at_call 178; refine (one1 _ _).mono ?_; rintro e w8 ⟨⟨n8, rfl⟩, h0⟩; (first | (obtain rfl := h0.symm) | skip); rw [e1]))
        clear e2 e1
        go_roundw
        case rel => exact ⟨k + 1, by omega, by go_num, hm9.mono (by omega), HF1.out.trans (hg9.mono fun _ _ e => e.elim)⟩
        case measure => simp only [intOf]; omega
      · go_wp2_with (first | (go_at_call 175; refine (two1 _ _).mono ?_; rintro e w9 ⟨⟨n9, c9, rfl⟩, hf9⟩; rw [e2]; have hg9 : Fr (fun _ => False) wr w9 := Fr.trans ((Fr.refl _ _).alloc _) hf9; have hq9 := hf9.cell hq id; have hm9 := hm.fr hg9 id; clear hf9) | (go_at_call 178; refine (one1 _ _).mono ?_; rintro e w8 ⟨⟨n8, rfl⟩, h0⟩; (first | (obtain rfl := h0.symm) | skip); rw [e1]))
        have HE1 := Lib.hid e1
        clear e2 e1
        go_region_law (go_simp; go_at_call 179; refine (with_any _ _ _ _).mono ?_; rintro e w6 ⟨rfl, _, hf6⟩; have hg6 : Fr (fun _ => False) w9 w6 := Fr.trans (by repeat' first | exact Fr.refl _ _ | apply Fr.drew) hf6; have hq6 := hg6.cell hq9 id; obtain ⟨w7, hrun, hm7, hf7⟩ := (hm9.fr hg6 id).store 188 193 Tryz.underlying188 (by unfold maxLen; omega) s hz' (HK.out (.inr HE1.out)) (.func 309) #[] #[.pointer (some ⟨w9.heap.size, 0, none⟩)])
        all_goals
          clear hrun
          go_wp2_with fail
          go_roundw
          case rel => exact ⟨k + 1, by omega, by go_num, hm7.mono (by omega), (HF1.out.trans ((hg9.trans hg6).mono fun _ _ e => e.elim)).trans hf7⟩
          case measure => simp only [intOf]; omega
      · go_wp2_with (first | (go_at_call 175; refine (two1 _ _).mono ?_; rintro e w9 ⟨⟨n9, c9, rfl⟩, hf9⟩; rw [e2]; have hg9 : Fr (fun _ => False) wr w9 := Fr.trans ((Fr.refl _ _).alloc _) hf9; have hq9 := hf9.cell hq id; have hm9 := hm.fr hg9 id; clear hf9) | (go_at_call 178; refine (one1 _ _).mono ?_; rintro e w8 ⟨⟨n8, rfl⟩, h0⟩; (first | (obtain rfl := h0.symm) | skip); rw [e1]) | (at_mapUpdate; refine wpList_ins_fmp _ rfl _ _ _ 188 193 (.inl rfl) Tryz.underlying188 _ _ _ rfl hm9 (by unfold maxLen; omega) s rfl hz' (HK.out (.inl e2)) _ _ _ rfl ?_; intro w7 hm7 hf7; have hq7 := hf7.cell hq9 (by dsimp only; omega)))
        clear e2 e1
        go_roundw
        case rel => exact ⟨k + 1, by omega, by go_num, hm7.mono (by omega), (HF1.out.trans (hg9.mono fun _ _ e => e.elim)).trans hf7⟩
        case measure => simp only [intOf]; omega
      · go_wp2_with (first | (go_at_call 175; refine (two1 _ _).mono ?_; rintro e w9 ⟨⟨n9, c9, rfl⟩, hf9⟩; rw [e2]; have hg9 : Fr (fun _ => False) wr w9 := Fr.trans ((Fr.refl _ _).alloc _) hf9; have hq9 := hf9.cell hq id; have hm9 := hm.fr hg9 id; clear hf9) | (go_at_call 178; refine (one1 _ _).mono ?_; rintro e w8 ⟨⟨n8, rfl⟩, h0⟩; (first | (obtain rfl := h0.symm) | skip); rw [e1]) | (at_mapUpdate; refine wpList_ins_fmp _ rfl _ _ _ 188 193 (.inl rfl) Tryz.underlying188 _ _ _ rfl hm9 (by unfold maxLen; omega) s rfl hz' (HK.out (.inl e2)) _ _ _ rfl ?_; intro w7 hm7 hf7; have hq7 := hf7.cell hq9 (by dsimp only; omega)))
        have HE1 := Lib.hid e1
        clear e2 e1
        go_region_law (go_simp; go_at_call 179; refine (with_any _ _ _ _).mono ?_; rintro e w6 ⟨rfl, _, hf6⟩; have hg6 : Fr (fun _ => False) w7 w6 := Fr.trans (by repeat' first | exact Fr.refl _ _ | apply Fr.drew) hf6; have hq6 := hg6.cell hq7 id; obtain ⟨w8, hrun, hm8, hf8⟩ := (hm7.fr hg6 id).store 188 193 Tryz.underlying188 (by unfold maxLen; omega) s hz' (HK.out (.inr HE1.out)) (.func 309) #[] #[.pointer (some ⟨w7.heap.size, 0, none⟩)])
        all_goals
          clear hrun
          go_wp2_with fail
          go_roundw
          case rel => exact ⟨k + 1, by omega, by go_num, hm8.mono (by omega), ((HF1.out.trans (hg9.mono fun _ _ e => e.elim)).trans hf7).trans ((hg6.mono fun _ _ e => e.elim).trans hf8)⟩
          case measure => simp only [intOf]; omega
    · obtain rfl : k = 86 := by omega
      have HM1 := Lib.hid hm
      have HF1 := Lib.hid hF
      clear hm hF
      go_wp2_with fail
      go_ret
      exact ⟨rfl, HM1.out, HF.out.after HF1.out (fun k hk e => by omega)⟩
end Go.Proofs.YthkmbnkkohomeaaGreatDoor.Mem
