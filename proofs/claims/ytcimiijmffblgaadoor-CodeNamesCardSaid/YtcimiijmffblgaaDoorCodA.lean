/- Contracts of package code and of the document's answer for it. -/
import Derived.Test.YtcimiijmffblgaaDoorChecked
import Derived.Test.YtcimiijmffblgaaDoorCodP
import Derived.Test.YtcimiijmffblgaaDoorCodS
import Derived.Test.YtcimiijmffblgaaDoorUtil
import Derived.WalkKit
import Derived.WalkSpells
import Derived.WalkLawsBesides
import Derived.WalkSmall
import Derived.Lib.Hide
import Derived.BigQuiet
import Derived.Deep.LoopGhost
namespace Go.Proofs.YtcimiijmffblgaaDoor.Cod
open Go.RowKit

/-- The table of blanks is there. -/
def Tab (w : World) : Prop := Lib.TabIs Tryd.prog w "strings.asciiSpace" .u8 Lib.asciiSpaceTab

theorem nml_map : (nml.map fun l => Value.string ⟨l.toArray⟩) = nm.map Value.string := by simp [nm, Function.comp_def]

set_option maxRecDepth 100000 in
set_option maxHeartbeats 400000 in
theorem names_any (w : World) (ht : Tab w) :
    Calls Tryd.prog 13 #[] w fun e w' => e = .returned (.slice (some ⟨w.heap.size, 0, none⟩) 86 86) ∧ w' = w.alloc (.cells (nm.map Value.string).toArray 9) := by
  have hl : nml.length = 86 := by decide +kernel
  have HF := Lib.hid (Tryd.strings_Fields primS w prim_size prim_ascii ht)
  rw [prim_fields, hl, nml_map] at HF
  clear hl
  go_enter Tryd.func13, Tryd.ntmps13
  go_wp2_with fail
  refine HF.out.mono ?_
  rintro e w' ⟨rfl, rfl⟩
  go_wp2_with fail
  go_ret
  exact ⟨rfl, rfl⟩

theorem ret_int {k : IntKind} {a b : Int} (h : a = b) : Ending.returned (.int k a) = .returned (.int k b) := by rw [h]

/-- How many numbers follow a primitive. -/
def inl (s : ByteArray) : Int :=
  if (s.toList == [108, 105, 116]) || (s.toList == [98, 114, 97, 110, 99, 104]) || (s.toList == [48, 98, 114, 97, 110, 99, 104]) || (s.toList == [40, 108, 111, 111, 112, 41]) || (s.toList == [40, 43, 108, 111, 111, 112, 41]) || (s.toList == [40, 115, 101, 110, 100, 41]) || (s.toList == [40, 99, 97, 108, 108, 41]) then 1 else if s.toList == [40, 115, 117, 112, 101, 114, 41] then 2 else 0
/-- Does a primitive make sense in a definition alone? -/
def inn (s : ByteArray) : Bool := (s.toList == [101, 120, 105, 116]) || (s.toList == [40, 100, 111, 41]) || (s.toList == [40, 99, 97, 117, 103, 104, 116, 41]) || (s.toList == [40, 101, 120, 105, 116, 109, 41]) || (s.toList == [105]) || (s.toList == [106]) || (s.toList == [117, 110, 108, 111, 111, 112]) || (s.toList == [62, 114]) || (s.toList == [114, 62]) || (s.toList == [114, 64]) || decide (0 < inl s)

set_option maxRecDepth 100000 in
set_option maxHeartbeats 1000000 in
theorem inline_any (s : ByteArray) (w : World) :
    Calls Tryd.prog 7 #[.string s] w fun e w' => e = .returned (.int .i64 (inl s)) ∧ w' = w := by
  cases t0 : (s.toList == [108, 105, 116]) with
  | true =>
    go_enter Tryd.func7, Tryd.ntmps7
    go_wp2
    go_ret
    exact ⟨ret_int (by simp [inl, *]), rfl⟩
  | false =>
    cases t1 : (s.toList == [98, 114, 97, 110, 99, 104]) with
    | true =>
      go_enter Tryd.func7, Tryd.ntmps7
      go_wp2
      go_ret
      exact ⟨ret_int (by simp [inl, *]), rfl⟩
    | false =>
      cases t2 : (s.toList == [48, 98, 114, 97, 110, 99, 104]) with
      | true =>
        go_enter Tryd.func7, Tryd.ntmps7
        go_wp2
        go_ret
        exact ⟨ret_int (by simp [inl, *]), rfl⟩
      | false =>
        cases t3 : (s.toList == [40, 108, 111, 111, 112, 41]) with
        | true =>
          go_enter Tryd.func7, Tryd.ntmps7
          go_wp2
          go_ret
          exact ⟨ret_int (by simp [inl, *]), rfl⟩
        | false =>
          cases t4 : (s.toList == [40, 43, 108, 111, 111, 112, 41]) with
          | true =>
            go_enter Tryd.func7, Tryd.ntmps7
            go_wp2
            go_ret
            exact ⟨ret_int (by simp [inl, *]), rfl⟩
          | false =>
            cases t5 : (s.toList == [40, 115, 101, 110, 100, 41]) with
            | true =>
              go_enter Tryd.func7, Tryd.ntmps7
              go_wp2
              go_ret
              exact ⟨ret_int (by simp [inl, *]), rfl⟩
            | false =>
              cases t6 : (s.toList == [40, 99, 97, 108, 108, 41]) with
              | true =>
                go_enter Tryd.func7, Tryd.ntmps7
                go_wp2
                go_ret
                exact ⟨ret_int (by simp [inl, *]), rfl⟩
              | false =>
                cases t7 : (s.toList == [40, 115, 117, 112, 101, 114, 41]) with
                | true =>
                  go_enter Tryd.func7, Tryd.ntmps7
                  go_wp2
                  go_ret
                  exact ⟨ret_int (by simp [inl, *]), rfl⟩
                | false =>
                  go_enter Tryd.func7, Tryd.ntmps7
                  go_wp2
                  go_ret
                  exact ⟨ret_int (by simp [inl, *]), rfl⟩

set_option maxRecDepth 100000 in
set_option maxHeartbeats 1000000 in
theorem refinline_any (s : ByteArray) (w : World) :
    Calls Tryd.prog 8 #[.string s] w fun e w' => e = .returned (.int .i64 (inl s)) ∧ w' = w := by
  cases t0 : (s.toList == [108, 105, 116]) with
  | true =>
    go_enter Tryd.func8, Tryd.ntmps8
    go_wp2
    go_ret
    exact ⟨ret_int (by simp [inl, *]), rfl⟩
  | false =>
    cases t1 : (s.toList == [98, 114, 97, 110, 99, 104]) with
    | true =>
      go_enter Tryd.func8, Tryd.ntmps8
      go_wp2
      go_ret
      exact ⟨ret_int (by simp [inl, *]), rfl⟩
    | false =>
      cases t2 : (s.toList == [48, 98, 114, 97, 110, 99, 104]) with
      | true =>
        go_enter Tryd.func8, Tryd.ntmps8
        go_wp2
        go_ret
        exact ⟨ret_int (by simp [inl, *]), rfl⟩
      | false =>
        cases t3 : (s.toList == [40, 108, 111, 111, 112, 41]) with
        | true =>
          go_enter Tryd.func8, Tryd.ntmps8
          go_wp2
          go_ret
          exact ⟨ret_int (by simp [inl, *]), rfl⟩
        | false =>
          cases t4 : (s.toList == [40, 43, 108, 111, 111, 112, 41]) with
          | true =>
            go_enter Tryd.func8, Tryd.ntmps8
            go_wp2
            go_ret
            exact ⟨ret_int (by simp [inl, *]), rfl⟩
          | false =>
            cases t5 : (s.toList == [40, 115, 101, 110, 100, 41]) with
            | true =>
              go_enter Tryd.func8, Tryd.ntmps8
              go_wp2
              go_ret
              exact ⟨ret_int (by simp [inl, *]), rfl⟩
            | false =>
              cases t6 : (s.toList == [40, 99, 97, 108, 108, 41]) with
              | true =>
                go_enter Tryd.func8, Tryd.ntmps8
                go_wp2
                go_ret
                exact ⟨ret_int (by simp [inl, *]), rfl⟩
              | false =>
                cases t7 : (s.toList == [40, 115, 117, 112, 101, 114, 41]) with
                | true =>
                  go_enter Tryd.func8, Tryd.ntmps8
                  go_wp2
                  go_ret
                  exact ⟨ret_int (by simp [inl, *]), rfl⟩
                | false =>
                  go_enter Tryd.func8, Tryd.ntmps8
                  go_wp2
                  go_ret
                  exact ⟨ret_int (by simp [inl, *]), rfl⟩

set_option maxRecDepth 100000 in
set_option maxHeartbeats 1000000 in
theorem inner_any (s : ByteArray) (w : World) :
    Calls Tryd.prog 9 #[.string s] w fun e w' => e = .returned (.bool (inn s)) ∧ w' = w := by
  cases t0 : (s.toList == [101, 120, 105, 116]) with
  | true =>
    go_enter Tryd.func9, Tryd.ntmps9
    go_wp2
    go_ret
    exact ⟨by simp [inn, *], rfl⟩
  | false =>
    cases t1 : (s.toList == [40, 100, 111, 41]) with
    | true =>
      go_enter Tryd.func9, Tryd.ntmps9
      go_wp2
      go_ret
      exact ⟨by simp [inn, *], rfl⟩
    | false =>
      cases t2 : (s.toList == [40, 99, 97, 117, 103, 104, 116, 41]) with
      | true =>
        go_enter Tryd.func9, Tryd.ntmps9
        go_wp2
        go_ret
        exact ⟨by simp [inn, *], rfl⟩
      | false =>
        cases t3 : (s.toList == [40, 101, 120, 105, 116, 109, 41]) with
        | true =>
          go_enter Tryd.func9, Tryd.ntmps9
          go_wp2
          go_ret
          exact ⟨by simp [inn, *], rfl⟩
        | false =>
          cases t4 : (s.toList == [105]) with
          | true =>
            go_enter Tryd.func9, Tryd.ntmps9
            go_wp2
            go_ret
            exact ⟨by simp [inn, *], rfl⟩
          | false =>
            cases t5 : (s.toList == [106]) with
            | true =>
              go_enter Tryd.func9, Tryd.ntmps9
              go_wp2
              go_ret
              exact ⟨by simp [inn, *], rfl⟩
            | false =>
              cases t6 : (s.toList == [117, 110, 108, 111, 111, 112]) with
              | true =>
                go_enter Tryd.func9, Tryd.ntmps9
                go_wp2
                go_ret
                exact ⟨by simp [inn, *], rfl⟩
              | false =>
                cases t7 : (s.toList == [62, 114]) with
                | true =>
                  go_enter Tryd.func9, Tryd.ntmps9
                  go_wp2
                  go_ret
                  exact ⟨by simp [inn, *], rfl⟩
                | false =>
                  cases t8 : (s.toList == [114, 62]) with
                  | true =>
                    go_enter Tryd.func9, Tryd.ntmps9
                    go_wp2
                    go_ret
                    exact ⟨by simp [inn, *], rfl⟩
                  | false =>
                    cases t9 : (s.toList == [114, 64]) with
                    | true =>
                      go_enter Tryd.func9, Tryd.ntmps9
                      go_wp2
                      go_ret
                      exact ⟨by simp [inn, *], rfl⟩
                    | false =>
                      have HI := Lib.hid (fun w : World => inline_any s w)
                      by_cases hi : 0 < inl s
                      · go_enter Tryd.func9, Tryd.ntmps9
                        go_wp2_with (go_at_call 7; refine (HI.out _).mono ?_; rintro e w' ⟨rfl, rfl⟩)
                        go_ret
                        exact ⟨by simp [inn, *], rfl⟩
                      · go_enter Tryd.func9, Tryd.ntmps9
                        go_wp2_with (go_at_call 7; refine (HI.out _).mono ?_; rintro e w' ⟨rfl, rfl⟩)
                        go_ret
                        exact ⟨by simp [inn, *], rfl⟩

set_option maxRecDepth 100000 in
set_option maxHeartbeats 1000000 in
theorem refinner_any (s : ByteArray) (w : World) :
    Calls Tryd.prog 10 #[.string s] w fun e w' => e = .returned (.bool (inn s)) ∧ w' = w := by
  cases t0 : (s.toList == [101, 120, 105, 116]) with
  | true =>
    go_enter Tryd.func10, Tryd.ntmps10
    go_wp2
    go_ret
    exact ⟨by simp [inn, *], rfl⟩
  | false =>
    cases t1 : (s.toList == [40, 100, 111, 41]) with
    | true =>
      go_enter Tryd.func10, Tryd.ntmps10
      go_wp2
      go_ret
      exact ⟨by simp [inn, *], rfl⟩
    | false =>
      cases t2 : (s.toList == [40, 99, 97, 117, 103, 104, 116, 41]) with
      | true =>
        go_enter Tryd.func10, Tryd.ntmps10
        go_wp2
        go_ret
        exact ⟨by simp [inn, *], rfl⟩
      | false =>
        cases t3 : (s.toList == [40, 101, 120, 105, 116, 109, 41]) with
        | true =>
          go_enter Tryd.func10, Tryd.ntmps10
          go_wp2
          go_ret
          exact ⟨by simp [inn, *], rfl⟩
        | false =>
          cases t4 : (s.toList == [105]) with
          | true =>
            go_enter Tryd.func10, Tryd.ntmps10
            go_wp2
            go_ret
            exact ⟨by simp [inn, *], rfl⟩
          | false =>
            cases t5 : (s.toList == [106]) with
            | true =>
              go_enter Tryd.func10, Tryd.ntmps10
              go_wp2
              go_ret
              exact ⟨by simp [inn, *], rfl⟩
            | false =>
              cases t6 : (s.toList == [117, 110, 108, 111, 111, 112]) with
              | true =>
                go_enter Tryd.func10, Tryd.ntmps10
                go_wp2
                go_ret
                exact ⟨by simp [inn, *], rfl⟩
              | false =>
                cases t7 : (s.toList == [62, 114]) with
                | true =>
                  go_enter Tryd.func10, Tryd.ntmps10
                  go_wp2
                  go_ret
                  exact ⟨by simp [inn, *], rfl⟩
                | false =>
                  cases t8 : (s.toList == [114, 62]) with
                  | true =>
                    go_enter Tryd.func10, Tryd.ntmps10
                    go_wp2
                    go_ret
                    exact ⟨by simp [inn, *], rfl⟩
                  | false =>
                    cases t9 : (s.toList == [114, 64]) with
                    | true =>
                      go_enter Tryd.func10, Tryd.ntmps10
                      go_wp2
                      go_ret
                      exact ⟨by simp [inn, *], rfl⟩
                    | false =>
                      have HI := Lib.hid (fun w : World => refinline_any s w)
                      by_cases hi : 0 < inl s
                      · go_enter Tryd.func10, Tryd.ntmps10
                        go_wp2_with (go_at_call 8; refine (HI.out _).mono ?_; rintro e w' ⟨rfl, rfl⟩)
                        go_ret
                        exact ⟨by simp [inn, *], rfl⟩
                      · go_enter Tryd.func10, Tryd.ntmps10
                        go_wp2_with (go_at_call 8; refine (HI.out _).mono ?_; rintro e w' ⟨rfl, rfl⟩)
                        go_ret
                        exact ⟨by simp [inn, *], rfl⟩

end Go.Proofs.YtcimiijmffblgaaDoor.Cod
