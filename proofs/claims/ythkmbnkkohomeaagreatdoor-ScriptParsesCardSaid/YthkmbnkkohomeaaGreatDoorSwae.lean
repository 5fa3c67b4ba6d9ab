/- Several texts in one: ScA, FmA, ScB. -/
import Derived.Test.YthkmbnkkohomeaaGreatDoorSwac
import Derived.Lib.ParseIntBTie
import Derived.Test.YthkmbnkkohomeaaGreatDoorChecked
import Derived.Maps.OwnSet
import Derived.Maps.RangeWalk
set_option linter.unusedSimpArgs false
set_option linter.unusedVariables false
/- script: parseNumber, and what sets a field. -/
namespace Go.Proofs.YthkmbnkkohomeaaGreatDoor.Mem
open Go.RowKit

/-- The number of a text, if it is written as it would be shown, and not too great. -/
def pnum (l : List UInt8) : Option Int :=
  match Lib.parseIntB 64 l with
  | .ok v => if 0 ≤ v ∧ v ≤ 1048576 ∧ Lib.itoa v = l then some v else none
  | _ => none

theorem fr_bw {w w' : World} (h : w' = w ∨ ∃ t, w' = Lib.bytesWorld w 5 t) : Fr (fun _ => False) w w' := by
  rcases h with rfl | ⟨t, rfl⟩
  · exact Fr.refl _ _
  · exact Fr.of_below (Lib.bytesWorld_below _ _ _) _

set_option maxRecDepth 100000 in
set_option maxHeartbeats 1000000 in
theorem pnum_ok (s : ByteArray) (hs : s.size ≤ 5000) (w : World) (hk : Kn w) :
    Calls Tryz.prog 24 #[.string s] w fun e w' => e = .returned (.tuple #[.int .i64 ((pnum s.data.toList).getD 0), .bool (pnum s.data.toList).isSome]) ∧ Fr (fun _ => False) w w' := by
  rcases h : Lib.parseIntB 64 s.data.toList with v | _ | _
  · have hb := Lib.parseIntB_bounds h
    have hv0 : -9223372036854775808 ≤ v := by have := hb.1; simpa using this
    have hv1 : v ≤ 9223372036854775807 := by have := hb.2; simp at this; omega
    have HP := Lib.hid (Tryz.strconv_ParseInt_10_at64_ok s (by omega) v h w)
    have HD := Lib.hid (fun W (hW : Fr (fun _ => False) w W) => dec_ok v hv0 hv1 W (hk.fr hW).pow)
    have hp : pnum s.data.toList = if 0 ≤ v ∧ v ≤ 1048576 ∧ Lib.itoa v = s.data.toList then some v else none := by unfold pnum; rw [h]
    clear hb
    by_cases c1 : v < 0
    · rw [hp, if_neg (by omega)]
      clear hp h hk
      go_enter Tryz.func24, Tryz.ntmps24
      go_wp2_with (go_at_call 37; refine HP.out.mono ?_; rintro e w1 ⟨rfl, hw1⟩; have F1 := Lib.hid (fr_bw hw1); clear hw1)
      go_ret2
      exact ⟨rfl, F1.out⟩
    have d1 : decide (v < 0) = false := by simpa using c1
    by_cases c2 : 1048576 < v
    · rw [hp, if_neg (by omega)]
      clear hp h hk
      go_enter Tryz.func24, Tryz.ntmps24
      go_wp2_with (go_at_call 37; refine HP.out.mono ?_; rintro e w1 ⟨rfl, hw1⟩; have F1 := Lib.hid (fr_bw hw1); clear hw1)
      go_ret2
      exact ⟨rfl, F1.out⟩
    have d2 : decide (1048576 < v) = false := by simpa using c2
    by_cases c3 : Lib.itoa v = s.data.toList
    · rw [hp, if_pos ⟨by omega, by omega, c3⟩]
      have e3 : (Lib.itoa v == s.toList) = true := by rw [ByteArray.toList_eq]; simpa using c3
      clear hp h hk c3 c1 c2
      go_enter Tryz.func24, Tryz.ntmps24
      go_wp2_with (go_at_call 37; refine HP.out.mono ?_; rintro e w1 ⟨rfl, hw1⟩; have F1 := Lib.hid (fr_bw hw1); clear hw1)
      go_wp2_with (go_at_call 18; refine (HD.out _ F1.out).mono ?_; rintro e w2 ⟨rfl, hf2⟩; have F2 := Lib.hid (F1.out.trans hf2); clear hf2)
      go_ret2
      exact ⟨rfl, F2.out⟩
    · rw [hp, if_neg (fun e => c3 e.2.2)]
      have e3 : (Lib.itoa v == s.toList) = false := by rw [ByteArray.toList_eq]; simpa using c3
      clear hp h hk c3 c1 c2
      go_enter Tryz.func24, Tryz.ntmps24
      go_wp2_with (go_at_call 37; refine HP.out.mono ?_; rintro e w1 ⟨rfl, hw1⟩; have F1 := Lib.hid (fr_bw hw1); clear hw1)
      go_wp2_with (go_at_call 18; refine (HD.out _ F1.out).mono ?_; rintro e w2 ⟨rfl, hf2⟩; have F2 := Lib.hid (F1.out.trans hf2); clear hf2)
      go_ret2
      exact ⟨rfl, F2.out⟩
  · have hp : pnum s.data.toList = none := by unfold pnum; rw [h]
    obtain ⟨tp, p, hv⟩ := hk.syn
    have HP := Lib.hid (Tryz.strconv_ParseInt_10_at64_nonum s (by omega) (fun v e => by rw [h] at e; cases e) (fun e => by rw [h] at e; cases e) tp p w hv)
    rw [hp]
    clear hp h hk hv
    go_enter Tryz.func24, Tryz.ntmps24
    go_wp2_with (go_at_call 37; refine HP.out.mono ?_; rintro e w1 ⟨N, rfl, _, _, hb1⟩; have F1 := Lib.hid (Fr.of_below hb1 (fun _ => False)); clear hb1)
    go_ret2
    exact ⟨rfl, F1.out⟩
  · have hp : pnum s.data.toList = none := by unfold pnum; rw [h]
    obtain ⟨tp, p, hv⟩ := hk.rng
    have HP := Lib.hid (Tryz.strconv_ParseInt_10_at64_range_var s (by omega) h tp p w hv)
    rw [hp]
    clear hp h hk hv
    go_enter Tryz.func24, Tryz.ntmps24
    go_wp2_with (go_at_call 37; refine HP.out.mono ?_; rintro e w1 ⟨N, rfl, _, _, hb1⟩; have F1 := Lib.hid (Fr.of_below hb1 (fun _ => False)); clear hb1)
    go_ret2
    exact ⟨rfl, F1.out⟩
end Go.Proofs.YthkmbnkkohomeaaGreatDoor.Mem

/- Maps of functions that the call has made, as functions of their keys: made, looked up, stored into, ranged over. -/
namespace Go.Proofs.YthkmbnkkohomeaaGreatDoor.Mem
open Go.RowKit Go.Maps

/-- How a function reads as an element of a map: as itself. -/
def fnElem : Value → Option (DataW Value × List MemPlace)
  | .func f a b => some (.held (.func f a b), [])
  | .nilFunc => some (.held .nilFunc, [])
  | _ => none
theorem fnElem_inv {v x : Value} {ps : List MemPlace} (h : fnElem v = some (.held x, ps)) : v = x := by
  unfold fnElem at h
  split at h
  · simp at h; exact h.1
  · simp at h; exact h.1
  · cases h
theorem fnElem_fn (f : Fn) (a b : Array Value) : fnElem (.func f a b) = some (.held (.func f a b), []) := rfl
theorem fnElem_some {v : Value} {y : DataW Value × List MemPlace} (h : fnElem v = some y) : y = (.held v, []) ∧ (v = .nilFunc ∨ ∃ f a b, v = .func f a b) := by
  unfold fnElem at h
  split at h
  · simp at h; exact ⟨h.symm, .inr ⟨_, _, _, rfl⟩⟩
  · simp at h; exact ⟨h.symm, .inl rfl⟩
  · cases h

/-- A map of functions reads as a function of its keys. -/
def FMap (w : World) (kt : TypeId) (b n : Nat) (F : Lit → Option Value) : Prop :=
  ∃ D : DataW Value, w.ownsMap Tryz.prog kt fnElem b n D ∧ IsMap D ∧ (∀ k, D.atKey k (.held .nilFunc) = .held ((F k).getD .nilFunc)) ∧ (∀ k, has D k = (F k).isSome) ∧ ∀ k v, F k = some v → ∃ f p c, v = .func f p c

theorem FMap.made (w : World) (kt : TypeId) : FMap (w.alloc (.map #[] 0)) kt w.heap.size 0 (fun _ => none) :=
  ⟨.map [], World.ownsMap_made w _ _ _, isMap_empty, fun _ => rfl, fun _ => rfl, fun _ _ h => by cases h⟩
theorem FMap.lt {w : World} {kt : TypeId} {b n : Nat} {F : Lit → Option Value} (h : FMap w kt b n F) : b < w.heap.size := by
  obtain ⟨D, h, _⟩ := h
  exact h.lt
theorem FMap.obj {w : World} {kt : TypeId} {b n : Nat} {F : Lit → Option Value} (h : FMap w kt b n F) : ∃ es ck, w.heap[b]? = some (.map es ck) := by
  obtain ⟨D, ⟨es, ck, h, _⟩, _⟩ := h
  exact ⟨es, ck, h⟩
theorem FMap.fr {S : Nat → Prop} {w w' : World} {kt : TypeId} {b n : Nat} {F : Lit → Option Value} (h : FMap w kt b n F) (f : Fr S w w') (hs : ¬ S b) : FMap w' kt b n F := by
  obtain ⟨D, ⟨es, ck, hb, h2, h3, h4⟩, h5, h6⟩ := h
  exact ⟨D, ⟨es, ck, f.obj hb hs, h2, h3, h4⟩, h5, h6⟩
theorem FMap.mono {w : World} {kt : TypeId} {b n n' : Nat} {F : Lit → Option Value} (h : FMap w kt b n F) (hn : n ≤ n') : FMap w kt b n' F := by
  obtain ⟨D, h1, h2⟩ := h
  exact ⟨D, h1.mono hn, h2⟩
theorem fr_turnedF {w w' : World} {mb : Nat} (h : w.mapTurned w' mb) : Fr (fun j => j = mb) w w' :=
  Fr.grown (Fr.refl _ _) h.grown (fun _ hk => .inr (Option.some.inj hk).symm)

section
variable (w : World) {ops : Array Oper} {rest : List Oper} {o : Oper} {a : Act} {Q : Exit → Act → World → Prop}

open Classical in
/-- A store, or an entry of a literal. -/
theorem wpList_store_fmap (hg : o.guard = none) (m x v : Operand) (t kt et : TypeId) (hop : o.op = Op.mapUpdate t m x v ∨ o.op = Op.insert t m x v) (K : Keyed Tryz.prog kt) (ht : Tryz.prog.underlying t = some (.map kt et)) (b n : Nat) (F : Lit → Option Value)
    (hm : a.eval m = .map (some b)) (hown : FMap w kt b n F) (hn : n < maxLen) (key : Value) (kl : Lit) (hx : a.eval x = key) (hkey : keyOf Tryz.prog kt key = some kl) (hkl : WideAt.IsKeyLit kl) (f : Fn) (p c : Array Value) (hv : a.eval v = .func f p c)
    (hK : ∀ w', FMap w' kt b (n + 1) (fun z => if z = kl then some (.func f p c) else F z) → w.mapTurned w' b → wpList Tryz.prog ops Q rest (a.put o.dst undef) w') :
    wpList Tryz.prog ops Q (o :: rest) a w := by
  obtain ⟨D, hD, hi, hU, hh, hfn⟩ := hown
  refine wpList_plain hg fun K' hK' => ?_
  obtain ⟨w', hrun, r1, r2⟩ := hD.store K ht hn hkey (fnElem_fn f p c)
  have hfin := hK w' ⟨_, r1, hi.put _ _, fun z => ?_, fun z => ?_, fun z u hu => ?_⟩ r2
  · unfold Oper.wp
    rcases hop with hop | hop
    · simp [execOp, hop, hm, hx, hv, hrun, Result.andThen]
      exact hK' _ _ hfin
    · simp [execOp, hop, hm, hx, hv, hrun, Result.andThen]
      exact hK' _ _ hfin
  · dsimp only
    by_cases hz : z = kl
    · subst hz
      rw [if_pos rfl, atKey_put_same hi hkl]
      rfl
    · rw [if_neg hz, atKey_put_other hz, hU]
  · dsimp only
    by_cases hz : z = kl
    · subst hz
      rw [if_pos rfl, has_put_same hi hkl]
      rfl
    · rw [if_neg hz, has_put_other hz, hh]
  · dsimp only at hu
    by_cases hz : z = kl
    · rw [if_pos hz] at hu
      exact ⟨f, p, c, (Option.some.inj hu).symm⟩
    · rw [if_neg hz] at hu
      exact hfn z u hu

theorem wpList_look_fmap (hg : o.guard = none) (m x : Operand) (t kt et : TypeId) (hop : o.op = Op.lookup t m x false) (K : Keyed Tryz.prog kt) (ht : Tryz.prog.underlying t = some (.map kt et)) (hz : (zeroValue et).run Tryz.prog w = .ok .nilFunc w) (b n : Nat) (F : Lit → Option Value)
    (hm : a.eval m = .map (some b)) (hown : FMap w kt b n F) (key : Value) (kl : Lit) (hx : a.eval x = key) (hkey : keyOf Tryz.prog kt key = some kl)
    (hK : wpList Tryz.prog ops Q rest (a.put o.dst ((F kl).getD .nilFunc)) w) :
    wpList Tryz.prog ops Q (o :: rest) a w := by
  refine wpList_plain hg fun K' hK' => ?_
  obtain ⟨D, hD, _, hU, _, _⟩ := hown
  obtain ⟨v, ps, hrun, hv⟩ := hD.lookup K ht hz (zd := .held .nilFunc) (zp := []) rfl hkey
  rw [hU] at hv
  obtain rfl := fnElem_inv hv
  unfold Oper.wp
  simp [execOp, hop, hm, hx, hrun, Result.andThen]
  exact hK' _ _ hK

theorem wpList_lookOk_fmap (hg : o.guard = none) (m x : Operand) (t kt et : TypeId) (hop : o.op = Op.lookup t m x true) (K : Keyed Tryz.prog kt) (ht : Tryz.prog.underlying t = some (.map kt et)) (hz : (zeroValue et).run Tryz.prog w = .ok .nilFunc w) (b n : Nat) (F : Lit → Option Value)
    (hm : a.eval m = .map (some b)) (hown : FMap w kt b n F) (key : Value) (kl : Lit) (hx : a.eval x = key) (hkey : keyOf Tryz.prog kt key = some kl)
    (hK : wpList Tryz.prog ops Q rest (a.put o.dst (.tuple #[(F kl).getD .nilFunc, .bool (F kl).isSome])) w) :
    wpList Tryz.prog ops Q (o :: rest) a w := by
  obtain ⟨D, hD, _, hU, hh, _⟩ := hown
  refine wpList_lookup_own_ok w hg m x t hop kt et K ht fnElem hz (.held .nilFunc) [] rfl b n D hm hD key kl hx hkey fun v ps hv => ?_
  rw [hU] at hv
  obtain rfl := fnElem_inv hv
  rw [hh]
  exact hK
end

theorem strKey : Keyed Tryz.prog 9 := string_keyed Tryz.underlying9
theorem intKey : Keyed Tryz.prog 2 := int_keyed Tryz.underlying2
end Go.Proofs.YthkmbnkkohomeaaGreatDoor.Mem

/- script.fields: what sets the fields of a script. -/
namespace Go.Proofs.YthkmbnkkohomeaaGreatDoor.Mem
open Go.RowKit Go.Maps

/-- A script's cells. -/
structure Scr where
  di : Int
  da : Int
  re : Int
  he : Int
  sl : Int
  tx : ByteArray
  inn : ByteArray
  fu : Int
def Scr.row (s : Scr) : Array Value := #[.int .i64 s.di, .int .i64 s.da, .int .i64 s.re, .int .i64 s.he, .int .i64 s.sl, .string s.tx, .string s.inn, .int .i64 s.fu]
def ScrAt (w : World) (b : Nat) (s : Scr) : Prop := w.heap[b]? = some (.cells s.row 26 (0, 0))
/-- Of the i-th number. -/
def Scr.set (s : Scr) (i : Nat) (n : Int) : Scr :=
  match i with
  | 0 => { s with di := n }
  | 1 => { s with da := n }
  | 2 => { s with re := n }
  | 3 => { s with he := n }
  | 4 => { s with sl := n }
  | _ => { s with fu := n }

theorem ScrAt.fr {S : Nat → Prop} {w w' : World} {b : Nat} {s : Scr} (h : ScrAt w b s) (f : Fr S w w') (hb : ¬ S b) : ScrAt w' b s := f.obj h hb

set_option maxRecDepth 100000 in
theorem set_f2 (b1 sb : Nat) (s : Scr) (n : Int) (w : World) (h : ScrAt w sb s) (h1 : w.cell? ⟨b1, 0, none⟩ = some (.pointer (some ⟨sb, 0, none⟩))) :
    Calls Tryz.prog 25 #[.int .i64 n, .pointer (some ⟨b1, 0, none⟩)] w fun e w' => e = .returned (.tuple #[]) ∧ ScrAt w' sb (s.set 0 n) ∧ Fr (fun j => j = sb) w w' := by
  have hfz := frozen_of_row w sb 0 _ _ h
  have hc := cell_of_row w sb 0 _ _ _ h
  simp only [Scr.row] at hc
  go_enter Tryz.func25, Tryz.ntmps25
  go_wp2_with fail
  go_end0
  refine ⟨rfl, ?_, (Fr.refl _ _).setOne _ _⟩
  unfold ScrAt
  rw [heap_setCell_same w sb _ _ _ _ h]
  rfl
set_option maxRecDepth 100000 in
theorem set_f3 (b1 sb : Nat) (s : Scr) (n : Int) (w : World) (h : ScrAt w sb s) (h1 : w.cell? ⟨b1, 0, none⟩ = some (.pointer (some ⟨sb, 0, none⟩))) :
    Calls Tryz.prog 26 #[.int .i64 n, .pointer (some ⟨b1, 0, none⟩)] w fun e w' => e = .returned (.tuple #[]) ∧ ScrAt w' sb (s.set 1 n) ∧ Fr (fun j => j = sb) w w' := by
  have hfz := frozen_of_row w sb 1 _ _ h
  have hc := cell_of_row w sb 1 _ _ _ h
  simp only [Scr.row] at hc
  go_enter Tryz.func26, Tryz.ntmps26
  go_wp2_with fail
  go_end0
  refine ⟨rfl, ?_, (Fr.refl _ _).setOne _ _⟩
  unfold ScrAt
  rw [heap_setCell_same w sb _ _ _ _ h]
  rfl
set_option maxRecDepth 100000 in
theorem set_f4 (b1 sb : Nat) (s : Scr) (n : Int) (w : World) (h : ScrAt w sb s) (h1 : w.cell? ⟨b1, 0, none⟩ = some (.pointer (some ⟨sb, 0, none⟩))) :
    Calls Tryz.prog 27 #[.int .i64 n, .pointer (some ⟨b1, 0, none⟩)] w fun e w' => e = .returned (.tuple #[]) ∧ ScrAt w' sb (s.set 2 n) ∧ Fr (fun j => j = sb) w w' := by
  have hfz := frozen_of_row w sb 2 _ _ h
  have hc := cell_of_row w sb 2 _ _ _ h
  simp only [Scr.row] at hc
  go_enter Tryz.func27, Tryz.ntmps27
  go_wp2_with fail
  go_end0
  refine ⟨rfl, ?_, (Fr.refl _ _).setOne _ _⟩
  unfold ScrAt
  rw [heap_setCell_same w sb _ _ _ _ h]
  rfl
set_option maxRecDepth 100000 in
theorem set_f5 (b1 sb : Nat) (s : Scr) (n : Int) (w : World) (h : ScrAt w sb s) (h1 : w.cell? ⟨b1, 0, none⟩ = some (.pointer (some ⟨sb, 0, none⟩))) :
    Calls Tryz.prog 28 #[.int .i64 n, .pointer (some ⟨b1, 0, none⟩)] w fun e w' => e = .returned (.tuple #[]) ∧ ScrAt w' sb (s.set 3 n) ∧ Fr (fun j => j = sb) w w' := by
  have hfz := frozen_of_row w sb 3 _ _ h
  have hc := cell_of_row w sb 3 _ _ _ h
  simp only [Scr.row] at hc
  go_enter Tryz.func28, Tryz.ntmps28
  go_wp2_with fail
  go_end0
  refine ⟨rfl, ?_, (Fr.refl _ _).setOne _ _⟩
  unfold ScrAt
  rw [heap_setCell_same w sb _ _ _ _ h]
  rfl
set_option maxRecDepth 100000 in
theorem set_f6 (b1 sb : Nat) (s : Scr) (n : Int) (w : World) (h : ScrAt w sb s) (h1 : w.cell? ⟨b1, 0, none⟩ = some (.pointer (some ⟨sb, 0, none⟩))) :
    Calls Tryz.prog 29 #[.int .i64 n, .pointer (some ⟨b1, 0, none⟩)] w fun e w' => e = .returned (.tuple #[]) ∧ ScrAt w' sb (s.set 4 n) ∧ Fr (fun j => j = sb) w w' := by
  have hfz := frozen_of_row w sb 4 _ _ h
  have hc := cell_of_row w sb 4 _ _ _ h
  simp only [Scr.row] at hc
  go_enter Tryz.func29, Tryz.ntmps29
  go_wp2_with fail
  go_end0
  refine ⟨rfl, ?_, (Fr.refl _ _).setOne _ _⟩
  unfold ScrAt
  rw [heap_setCell_same w sb _ _ _ _ h]
  rfl
set_option maxRecDepth 100000 in
theorem set_f7 (b1 sb : Nat) (s : Scr) (n : Int) (w : World) (h : ScrAt w sb s) (h1 : w.cell? ⟨b1, 0, none⟩ = some (.pointer (some ⟨sb, 0, none⟩))) :
    Calls Tryz.prog 30 #[.int .i64 n, .pointer (some ⟨b1, 0, none⟩)] w fun e w' => e = .returned (.tuple #[]) ∧ ScrAt w' sb (s.set 5 n) ∧ Fr (fun j => j = sb) w w' := by
  have hfz := frozen_of_row w sb 7 _ _ h
  have hc := cell_of_row w sb 7 _ _ _ h
  simp only [Scr.row] at hc
  go_enter Tryz.func30, Tryz.ntmps30
  go_wp2_with fail
  go_end0
  refine ⟨rfl, ?_, (Fr.refl _ _).setOne _ _⟩
  unfold ScrAt
  rw [heap_setCell_same w sb _ _ _ _ h]
  rfl
set_option maxRecDepth 100000 in
theorem set_f8 (b1 sb : Nat) (s : Scr) (t : ByteArray) (sp : Bool) (w : World) (h : ScrAt w sb s) (h1 : w.cell? ⟨b1, 0, none⟩ = some (.pointer (some ⟨sb, 0, none⟩))) :
    Calls Tryz.prog 31 #[.string t, .bool sp, .pointer (some ⟨b1, 0, none⟩)] w fun e w' => e = .returned (.bool true) ∧ ScrAt w' sb { s with inn := t } ∧ Fr (fun j => j = sb) w w' := by
  have hfz := frozen_of_row w sb 6 _ _ h
  have hc := cell_of_row w sb 6 _ _ _ h
  simp only [Scr.row] at hc
  go_enter Tryz.func31, Tryz.ntmps31
  go_wp2_with fail
  go_ret
  refine ⟨rfl, ?_, (Fr.refl _ _).setOne _ _⟩
  unfold ScrAt
  rw [heap_setCell_same w sb _ _ _ _ h]
  rfl
end Go.Proofs.YthkmbnkkohomeaaGreatDoor.Mem
