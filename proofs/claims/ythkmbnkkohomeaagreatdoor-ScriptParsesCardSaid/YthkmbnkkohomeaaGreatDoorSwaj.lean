/- Several texts in one: ClsP, HdU, ScD. -/
import Derived.Test.YthkmbnkkohomeaaGreatDoorSwai
import Derived.Test.YthkmbnkkohomeaaGreatDoorSwah
import Derived.Test.YthkmbnkkohomeaaGreatDoorSwaf
import Derived.Laws.EntriesVeiled
set_option linter.unusedSimpArgs false
set_option linter.unusedVariables false
/- Plain mathematics of classes in a memory of bytes. No program. -/
namespace Go.Proofs.YthkmbnkkohomeaaGreatDoor.Mem
open Go.RowKit

/-- A class: its place, its parent's, its objects' size, its table, the class before it. -/
structure Cl where
  a : Int
  par : Int
  size : Int
  tab : Int
  prev : Int
def magic : Int := 357694784579
/-- Is there a class at a? -/
def isCl (bs : List UInt8) (a : Int) : Bool :=
  (cell bs a).2 == 0 && (cell bs (a + 8)).2 == 0 && (cell bs (a + 16)).2 == 0 && (cell bs (a + 24)).2 == 0 && (cell bs (a + 32)).2 == 0 && (cell bs a).1 == magic
/-- The class at a; all 0: there is none. -/
def clv (bs : List UInt8) (a : Int) : Cl := if isCl bs a = true then ⟨a, (cell bs (a + 8)).1, (cell bs (a + 16)).1, (cell bs (a + 24)).1, (cell bs (a + 32)).1⟩ else ⟨0, 0, 0, 0, 0⟩

theorem cell_code {bs : List UInt8} {a : Int} (h : (cell bs a).2 = 0) : 0 ≤ a ∧ a + 8 ≤ bs.length ∧ a % 8 = 0 := by
  unfold cell at h
  split at h
  · rename_i hc; exact code_ok hc
  · rename_i hc; exact absurd h hc
theorem cell_bd' (bs : List UInt8) (a : Int) : -9223372036854775808 ≤ (cell bs a).1 ∧ (cell bs a).1 ≤ 9223372036854775807 := by
  unfold cell; split
  · simp only [cellv, wrap64]; omega
  · simp
theorem isCl_in {bs : List UInt8} {a : Int} (h : isCl bs a = true) : 0 ≤ a ∧ a + 40 ≤ bs.length ∧ a % 8 = 0 ∧ (cell bs a).1 = magic := by
  unfold isCl at h
  simp only [Bool.and_eq_true, beq_iff_eq] at h
  obtain ⟨⟨⟨⟨⟨h0, h1⟩, h2⟩, h3⟩, h4⟩, h5⟩ := h
  have := cell_code h0
  have := cell_code h4
  exact ⟨by omega, by omega, by omega, h5⟩

/-- Is one of the classes from x downwards (below lim) at a? -/
def chainIs (bs : List UInt8) (a : Int) : Nat → Int → Int → Bool
  | 0, _, _ => false
  | f + 1, lim, x => if 0 < x ∧ x < lim ∧ isCl bs x = true then (if x = a then true else chainIs bs a f x (clv bs x).prev) else false
theorem chainIs_end (bs : List UInt8) (a : Int) (f : Nat) (lim x : Int) (h : ¬ (0 < x ∧ x < lim ∧ isCl bs x = true)) : chainIs bs a f lim x = false := by
  cases f with
  | zero => rfl
  | succ f => rw [chainIs, if_neg h]
/-- Is one of a root's classes at a? -/
def isIn (bs : List UInt8) (root a : Int) : Bool := chainIs bs a (bs.length + 1) bs.length (cell bs root).1

/-- Cells allocated one by one, as far as there is room up to z: where allocation stands, the bytes, was there room for all. -/
def layl (z : Nat) : List Int → Nat → List UInt8 → Nat × List UInt8 × Bool
  | [], x, bs => (x, bs, true)
  | n :: l, x, bs => if x + 8 ≤ z then layl z l (x + 8) (setv bs x n) else (x, bs, false)
theorem layl_inv (z : Nat) : ∀ (l : List Int) x bs, x ≤ z → x ≤ (layl z l x bs).1 ∧ (layl z l x bs).1 ≤ z ∧ (layl z l x bs).1 % 8 = x % 8 ∧ (layl z l x bs).2.1.length = bs.length
  | [], _, _, h => ⟨Nat.le_refl _, h, rfl, rfl⟩
  | n :: l, x, bs, h => by
    rw [layl]
    split
    · rename_i h8
      have ih := layl_inv z l (x + 8) (setv bs x n) h8
      rw [setv_length] at ih
      exact ⟨by omega, ih.2.1, by omega, ih.2.2.2⟩
    · exact ⟨Nat.le_refl _, h, rfl, rfl⟩
end Go.Proofs.YthkmbnkkohomeaaGreatDoor.Mem

/- Small facts: results with a struct, blocks of four cells. -/
namespace Go.Proofs.YthkmbnkkohomeaaGreatDoor.Mem
open Go.RowKit

theorem results_cell2 {P : Program} {fn : Func} {p u v : Tmp} {ty : TypeId} (h : fn.results = #[.cell p ty, .tmp u, .tmp v]) (tmps : Array Value) (w : World) (g : Nat) (t : TypeId) (cs : Array Value) (fr : Nat × Nat) (d : TypeDesc)
    (hp : tmps.getD p undef = .pointer (some ⟨g, 0, none⟩)) (hg : w.heap[g]? = some (.cells cs t fr))
    (hu : P.underlying ty = some d) (hd : (match d with | .struct _ | .array _ _ => true | _ => false) = true) (hi : (P.info? ty).map (·.size) = some cs.size) :
    (results fn tmps).run P w = .ok (.tuple #[.agg cs, tmps.getD u undef, tmps.getD v undef]) w := by
  have hp' : tmps[p]?.getD undef = .pointer (some ⟨g, 0, none⟩) := by simpa using hp
  simp [results, h, hp', asAddr, run_loadVar_row w g t ty cs fr d hg hu hd hi]

theorem four_cells {w : World} {b : Nat} {x0 x1 x2 x3 : Value} {t : TypeId} (h : w.heap[b]? = some (.cells #[x0, x1, x2, x3] t (0, 0))) :
    w.cell? ⟨b, 0, none⟩ = some x0 ∧ w.cell? ⟨b, 1, none⟩ = some x1 ∧ w.cell? ⟨b, 2, none⟩ = some x2 ∧ w.cell? ⟨b, 3, none⟩ = some x3 ∧ b < w.heap.size :=
  ⟨by rw [cell_of_row w b _ _ _ _ h]; rfl, by rw [cell_of_row w b _ _ _ _ h]; rfl, by rw [cell_of_row w b _ _ _ _ h]; rfl, by rw [cell_of_row w b _ _ _ _ h]; rfl, lt_of_block h⟩
theorem cell_four_new (w : World) (x0 x1 x2 x3 : Value) (t : TypeId) (b : Nat) (h : w.heap[b]? = some (.cells #[x0, x1, x2, x3] t (0, 0))) : ∀ j u, [x0, x1, x2, x3][j]? = some u → w.cell? ((⟨b, 0, none⟩ : Addr).add j) = some u := by
  intro j u hu
  obtain ⟨h0, h1, h2, h3, _⟩ := four_cells h
  have hp : ((⟨b, 0, none⟩ : Addr).add j) = ⟨b, j, none⟩ := by unfold Addr.add; split <;> simp_all
  rw [hp]
  match j, hu with
  | 0, hu => rw [h0]; exact hu
  | 1, hu => rw [h1]; exact hu
  | 2, hu => rw [h2]; exact hu
  | 3, hu => rw [h3]; exact hu

theorem four_set {w : World} {b : Nat} {x0 x1 x2 x3 : Value} {t : TypeId} (h : w.heap[b]? = some (.cells #[x0, x1, x2, x3] t (0, 0))) (u0 u1 u2 u3 : Value) :
    ((((w.setCell ⟨b, 0, none⟩ u0).setCell ⟨b, 1, none⟩ u1).setCell ⟨b, 2, none⟩ u2).setCell ⟨b, 3, none⟩ u3).heap[b]? = some (.cells #[u0, u1, u2, u3] t (0, 0)) := by
  have h0 := heap_setCell_same w b 0 _ _ u0 h
  have h1 := heap_setCell_same _ b 1 _ _ u1 h0
  have h2 := heap_setCell_same _ b 2 _ _ u2 h1
  have h3 := heap_setCell_same _ b 3 _ _ u3 h2
  rw [h3]
  rfl

end Go.Proofs.YthkmbnkkohomeaaGreatDoor.Mem

/- script.fields: the map of what sets the fields. -/
namespace Go.Proofs.YthkmbnkkohomeaaGreatDoor.Mem
open Go.RowKit Go.Maps

set_option maxRecDepth 100000 in
theorem fields1_ok (f : Fn) (p q : Array Value) (w : World) : Calls Tryz.prog 22 #[.func f p q] w fun e w' => e = .returned (.func (.func 23) #[] #[.pointer (some ⟨w.heap.size, 0, none⟩)]) ∧ w' = w.alloc (.cells #[.func f p q] 66) := by
  have hmf : ∀ (fn : Fn) (first cap : Array Value) (w : World), (Instr.makeFunc fn first cap).run Tryz.prog w = .ok (.func fn first cap) w := fun _ _ _ _ => rfl
  go_enter Tryz.func22, Tryz.ntmps22
  go_wp2_with fail
  go_ret
  exact ⟨rfl, rfl⟩

/-- A closure that sets a number. -/
def nfn (k : Nat) : Value := .func (.func 23) #[] #[.pointer (some ⟨k, 0, none⟩)]
def sfn (f b1 : Nat) : Value := .func (.func f) #[] #[.pointer (some ⟨b1, 0, none⟩)]
/-- What a map of fields holds. -/
def fldF (b1 k0 k1 k2 k3 k4 k5 : Nat) (x : List UInt8) : Option Value :=
  if x = [105, 110] then some (sfn 31 b1) else
  if x = [102, 117, 101, 108] then some (nfn k5) else
  if x = [115, 108, 111, 116, 115] then some (nfn k4) else
  if x = [104, 101, 97, 112] then some (nfn k3) else
  if x = [114, 101, 116, 117, 114, 110] then some (nfn k2) else
  if x = [100, 97, 116, 97] then some (nfn k1) else
  if x = [100, 105, 99, 116] then some (nfn k0) else
  none

structure Flds (w : World) (mb sb : Nat) (b1 k0 k1 k2 k3 k4 k5 : Nat) : Prop where
  map : ∃ F, FMap w 9 mb 7 F ∧ ∀ x, F (.string x) = fldF b1 k0 k1 k2 k3 k4 k5 x
  c1 : w.cell? ⟨b1, 0, none⟩ = some (.pointer (some ⟨sb, 0, none⟩))
  d0 : w.cell? ⟨k0, 0, none⟩ = some (sfn 25 b1)
  d1 : w.cell? ⟨k1, 0, none⟩ = some (sfn 26 b1)
  d2 : w.cell? ⟨k2, 0, none⟩ = some (sfn 27 b1)
  d3 : w.cell? ⟨k3, 0, none⟩ = some (sfn 28 b1)
  d4 : w.cell? ⟨k4, 0, none⟩ = some (sfn 29 b1)
  d5 : w.cell? ⟨k5, 0, none⟩ = some (sfn 30 b1)
theorem Flds.fr {S : Nat → Prop} {w w' : World} {mb sb b1 k0 k1 k2 k3 k4 k5 : Nat} (h : Flds w mb sb b1 k0 k1 k2 k3 k4 k5) (f : Fr S w w') (hm : ¬ S mb) (h1 : ¬ S b1) (n0 : ¬ S k0) (n1 : ¬ S k1) (n2 : ¬ S k2) (n3 : ¬ S k3) (n4 : ¬ S k4) (n5 : ¬ S k5) : Flds w' mb sb b1 k0 k1 k2 k3 k4 k5 := by
  obtain ⟨F, hF, hx⟩ := h.map
  exact ⟨⟨F, hF.fr f hm, hx⟩, f.cell h.c1 h1, f.cell h.d0 n0, f.cell h.d1 n1, f.cell h.d2 n2, f.cell h.d3 n3, f.cell h.d4 n4, f.cell h.d5 n5⟩

def FldsPost (sb : Nat) (w : World) (e : Ending) (w' : World) : Prop := ∃ mb b1 k0 k1 k2 k3 k4 k5, e = .returned (.map (some mb)) ∧ Flds w' mb sb b1 k0 k1 k2 k3 k4 k5 ∧ (w.heap.size ≤ mb ∧ w.heap.size ≤ b1 ∧ w.heap.size ≤ k0 ∧ w.heap.size ≤ k1 ∧ w.heap.size ≤ k2 ∧ w.heap.size ≤ k3 ∧ w.heap.size ≤ k4 ∧ w.heap.size ≤ k5) ∧ Fr (fun _ => False) w w'

set_option maxRecDepth 100000 in
set_option maxHeartbeats 4000000 in
theorem fields_ok (sb : Nat) (w : World) (hsb : sb < w.heap.size) :
    Calls Tryz.prog 12 #[.pointer (some ⟨sb, 0, none⟩)] w fun e w' => FldsPost sb w e w' := by
  have hmf : ∀ (fn : Fn) (first cap : Array Value) (w : World), (Instr.makeFunc fn first cap).run Tryz.prog w = .ok (.func fn first cap) w := fun _ _ _ _ => rfl
  have hmm := @run_makeMap Tryz.prog
  have HB := cell_of_one (heap_alloc_last w (.cells #[.pointer (some ⟨sb, 0, none⟩)] 46))
  have hz : (w.alloc (.cells #[.pointer (some ⟨sb, 0, none⟩)] 46)).heap.size = w.heap.size + 1 := by simp
  have FB := (Fr.refl (fun _ => False) w).alloc (.cells #[.pointer (some ⟨sb, 0, none⟩)] 46)
  obtain ⟨w1, hw1⟩ : ∃ W, w.alloc (.cells #[.pointer (some ⟨sb, 0, none⟩)] 46) = W := ⟨_, rfl⟩
  rw [hw1] at HB hz FB
  obtain ⟨b1, hb1⟩ : ∃ b, w.heap.size = b := ⟨_, rfl⟩
  rw [hb1] at HB hz
  have hm0 := FMap.made w1 9
  have FM : Fr (fun _ => False) w1 (w1.alloc (.map #[] 0)) := (Fr.refl _ _).alloc _
  obtain ⟨w2, hw2⟩ : ∃ W, w1.alloc (.map #[] 0) = W := ⟨_, rfl⟩
  rw [hw2] at hm0 FM
  rw [hz] at hm0
  obtain ⟨mb, hmb⟩ : ∃ b, b1 + 1 = b := ⟨_, rfl⟩
  rw [hmb] at hm0
  have lm := hm0.lt
  have B1 := Lib.hid (FM.cell HB id)
  have FW := Lib.hid (FB.trans FM)
  clear HB FB FM
  go_enter Tryz.func12, Tryz.ntmps12
  go_wp2_with fail
  have hm := hm0
  have HS0 := Lib.hid (Fr.refl (fun j => j = mb) w2)
  clear hm0
  refine (fields1_ok _ _ _ _).mono ?_
  rintro e w' ⟨rfl, rfl⟩
  have kA0 := cell_of_one (heap_alloc_last w2 (.cells #[.func (.func 25) #[] #[.pointer (some ⟨b1, 0, none⟩)]] 66))
  have fA0 := (Fr.refl (fun j => j = mb) w2).alloc (.cells #[.func (.func 25) #[] #[.pointer (some ⟨b1, 0, none⟩)]] 66)
  obtain ⟨v0, hv0⟩ : ∃ W, w2.alloc (.cells #[.func (.func 25) #[] #[.pointer (some ⟨b1, 0, none⟩)]] 66) = W := ⟨_, rfl⟩
  rw [hv0] at kA0 fA0
  obtain ⟨k0, hk0⟩ : ∃ k, w2.heap.size = k := ⟨_, rfl⟩
  rw [hk0] at kA0
  rw [hv0, hk0]
  have hmA0 := hm.fr ((Fr.refl (fun _ => False) w2).alloc (.cells #[.func (.func 25) #[] #[.pointer (some ⟨b1, 0, none⟩)]] 66)) id
  rw [hv0] at hmA0
  have lk0 : mb < k0 := by have := hm.lt; omega
  clear hm hv0
  go_wp2_with (refine wpList_store_fmap _ rfl _ _ _ 44 9 49 (.inr rfl) strKey Tryz.underlying44 _ _ _ rfl hmA0 (by unfold maxLen; omega) _ (.string _) rfl (WideMaps.keyOf_string_mk Tryz.underlying9 (by decide)) trivial _ _ _ rfl ?_; intro u0 hm ht0; clear hmA0)
  have fS0 := fA0.trans (fr_turnedF ht0)
  have HS1 := Lib.hid (HS0.out.trans fS0)
  have K0x0 := Lib.hid ((fr_turnedF ht0).cell kA0 (show ¬ (k0 = mb) by omega))
  clear fA0 fS0 kA0 ht0
  refine (fields1_ok _ _ _ _).mono ?_
  rintro e w' ⟨rfl, rfl⟩
  have kA1 := cell_of_one (heap_alloc_last u0 (.cells #[.func (.func 26) #[] #[.pointer (some ⟨b1, 0, none⟩)]] 66))
  have fA1 := (Fr.refl (fun j => j = mb) u0).alloc (.cells #[.func (.func 26) #[] #[.pointer (some ⟨b1, 0, none⟩)]] 66)
  obtain ⟨v1, hv1⟩ : ∃ W, u0.alloc (.cells #[.func (.func 26) #[] #[.pointer (some ⟨b1, 0, none⟩)]] 66) = W := ⟨_, rfl⟩
  rw [hv1] at kA1 fA1
  obtain ⟨k1, hk1⟩ : ∃ k, u0.heap.size = k := ⟨_, rfl⟩
  rw [hk1] at kA1
  rw [hv1, hk1]
  have hmA1 := hm.fr ((Fr.refl (fun _ => False) u0).alloc (.cells #[.func (.func 26) #[] #[.pointer (some ⟨b1, 0, none⟩)]] 66)) id
  rw [hv1] at hmA1
  have lk1 : mb < k1 := by have := hm.lt; omega
  clear hm hv1
  go_wp2_with (refine wpList_store_fmap _ rfl _ _ _ 44 9 49 (.inr rfl) strKey Tryz.underlying44 _ _ _ rfl hmA1 (by unfold maxLen; omega) _ (.string _) rfl (WideMaps.keyOf_string_mk Tryz.underlying9 (by decide)) trivial _ _ _ rfl ?_; intro u1 hm ht1; clear hmA1)
  have fS1 := fA1.trans (fr_turnedF ht1)
  have HS2 := Lib.hid (HS1.out.trans fS1)
  have K1x1 := Lib.hid ((fr_turnedF ht1).cell kA1 (show ¬ (k1 = mb) by omega))
  have K0x1 := Lib.hid (fS1.cell K0x0.out (show ¬ (k0 = mb) by omega))
  clear fA1 fS1 kA1 ht1
  refine (fields1_ok _ _ _ _).mono ?_
  rintro e w' ⟨rfl, rfl⟩
  have kA2 := cell_of_one (heap_alloc_last u1 (.cells #[.func (.func 27) #[] #[.pointer (some ⟨b1, 0, none⟩)]] 66))
  have fA2 := (Fr.refl (fun j => j = mb) u1).alloc (.cells #[.func (.func 27) #[] #[.pointer (some ⟨b1, 0, none⟩)]] 66)
  obtain ⟨v2, hv2⟩ : ∃ W, u1.alloc (.cells #[.func (.func 27) #[] #[.pointer (some ⟨b1, 0, none⟩)]] 66) = W := ⟨_, rfl⟩
  rw [hv2] at kA2 fA2
  obtain ⟨k2, hk2⟩ : ∃ k, u1.heap.size = k := ⟨_, rfl⟩
  rw [hk2] at kA2
  rw [hv2, hk2]
  have hmA2 := hm.fr ((Fr.refl (fun _ => False) u1).alloc (.cells #[.func (.func 27) #[] #[.pointer (some ⟨b1, 0, none⟩)]] 66)) id
  rw [hv2] at hmA2
  have lk2 : mb < k2 := by have := hm.lt; omega
  clear hm hv2
  go_wp2_with (refine wpList_store_fmap _ rfl _ _ _ 44 9 49 (.inr rfl) strKey Tryz.underlying44 _ _ _ rfl hmA2 (by unfold maxLen; omega) _ (.string _) rfl (WideMaps.keyOf_string_mk Tryz.underlying9 (by decide)) trivial _ _ _ rfl ?_; intro u2 hm ht2; clear hmA2)
  have fS2 := fA2.trans (fr_turnedF ht2)
  have HS3 := Lib.hid (HS2.out.trans fS2)
  have K2x2 := Lib.hid ((fr_turnedF ht2).cell kA2 (show ¬ (k2 = mb) by omega))
  have K0x2 := Lib.hid (fS2.cell K0x1.out (show ¬ (k0 = mb) by omega))
  have K1x2 := Lib.hid (fS2.cell K1x1.out (show ¬ (k1 = mb) by omega))
  clear fA2 fS2 kA2 ht2
  refine (fields1_ok _ _ _ _).mono ?_
  rintro e w' ⟨rfl, rfl⟩
  have kA3 := cell_of_one (heap_alloc_last u2 (.cells #[.func (.func 28) #[] #[.pointer (some ⟨b1, 0, none⟩)]] 66))
  have fA3 := (Fr.refl (fun j => j = mb) u2).alloc (.cells #[.func (.func 28) #[] #[.pointer (some ⟨b1, 0, none⟩)]] 66)
  obtain ⟨v3, hv3⟩ : ∃ W, u2.alloc (.cells #[.func (.func 28) #[] #[.pointer (some ⟨b1, 0, none⟩)]] 66) = W := ⟨_, rfl⟩
  rw [hv3] at kA3 fA3
  obtain ⟨k3, hk3⟩ : ∃ k, u2.heap.size = k := ⟨_, rfl⟩
  rw [hk3] at kA3
  rw [hv3, hk3]
  have hmA3 := hm.fr ((Fr.refl (fun _ => False) u2).alloc (.cells #[.func (.func 28) #[] #[.pointer (some ⟨b1, 0, none⟩)]] 66)) id
  rw [hv3] at hmA3
  have lk3 : mb < k3 := by have := hm.lt; omega
  clear hm hv3
  go_wp2_with (refine wpList_store_fmap _ rfl _ _ _ 44 9 49 (.inr rfl) strKey Tryz.underlying44 _ _ _ rfl hmA3 (by unfold maxLen; omega) _ (.string _) rfl (WideMaps.keyOf_string_mk Tryz.underlying9 (by decide)) trivial _ _ _ rfl ?_; intro u3 hm ht3; clear hmA3)
  have fS3 := fA3.trans (fr_turnedF ht3)
  have HS4 := Lib.hid (HS3.out.trans fS3)
  have K3x3 := Lib.hid ((fr_turnedF ht3).cell kA3 (show ¬ (k3 = mb) by omega))
  have K0x3 := Lib.hid (fS3.cell K0x2.out (show ¬ (k0 = mb) by omega))
  have K1x3 := Lib.hid (fS3.cell K1x2.out (show ¬ (k1 = mb) by omega))
  have K2x3 := Lib.hid (fS3.cell K2x2.out (show ¬ (k2 = mb) by omega))
  clear fA3 fS3 kA3 ht3
  refine (fields1_ok _ _ _ _).mono ?_
  rintro e w' ⟨rfl, rfl⟩
  have kA4 := cell_of_one (heap_alloc_last u3 (.cells #[.func (.func 29) #[] #[.pointer (some ⟨b1, 0, none⟩)]] 66))
  have fA4 := (Fr.refl (fun j => j = mb) u3).alloc (.cells #[.func (.func 29) #[] #[.pointer (some ⟨b1, 0, none⟩)]] 66)
  obtain ⟨v4, hv4⟩ : ∃ W, u3.alloc (.cells #[.func (.func 29) #[] #[.pointer (some ⟨b1, 0, none⟩)]] 66) = W := ⟨_, rfl⟩
  rw [hv4] at kA4 fA4
  obtain ⟨k4, hk4⟩ : ∃ k, u3.heap.size = k := ⟨_, rfl⟩
  rw [hk4] at kA4
  rw [hv4, hk4]
  have hmA4 := hm.fr ((Fr.refl (fun _ => False) u3).alloc (.cells #[.func (.func 29) #[] #[.pointer (some ⟨b1, 0, none⟩)]] 66)) id
  rw [hv4] at hmA4
  have lk4 : mb < k4 := by have := hm.lt; omega
  clear hm hv4
  go_wp2_with (refine wpList_store_fmap _ rfl _ _ _ 44 9 49 (.inr rfl) strKey Tryz.underlying44 _ _ _ rfl hmA4 (by unfold maxLen; omega) _ (.string _) rfl (WideMaps.keyOf_string_mk Tryz.underlying9 (by decide)) trivial _ _ _ rfl ?_; intro u4 hm ht4; clear hmA4)
  have fS4 := fA4.trans (fr_turnedF ht4)
  have HS5 := Lib.hid (HS4.out.trans fS4)
  have K4x4 := Lib.hid ((fr_turnedF ht4).cell kA4 (show ¬ (k4 = mb) by omega))
  have K0x4 := Lib.hid (fS4.cell K0x3.out (show ¬ (k0 = mb) by omega))
  have K1x4 := Lib.hid (fS4.cell K1x3.out (show ¬ (k1 = mb) by omega))
  have K2x4 := Lib.hid (fS4.cell K2x3.out (show ¬ (k2 = mb) by omega))
  have K3x4 := Lib.hid (fS4.cell K3x3.out (show ¬ (k3 = mb) by omega))
  clear fA4 fS4 kA4 ht4
  refine (fields1_ok _ _ _ _).mono ?_
  rintro e w' ⟨rfl, rfl⟩
  have kA5 := cell_of_one (heap_alloc_last u4 (.cells #[.func (.func 30) #[] #[.pointer (some ⟨b1, 0, none⟩)]] 66))
  have fA5 := (Fr.refl (fun j => j = mb) u4).alloc (.cells #[.func (.func 30) #[] #[.pointer (some ⟨b1, 0, none⟩)]] 66)
  obtain ⟨v5, hv5⟩ : ∃ W, u4.alloc (.cells #[.func (.func 30) #[] #[.pointer (some ⟨b1, 0, none⟩)]] 66) = W := ⟨_, rfl⟩
  rw [hv5] at kA5 fA5
  obtain ⟨k5, hk5⟩ : ∃ k, u4.heap.size = k := ⟨_, rfl⟩
  rw [hk5] at kA5
  rw [hv5, hk5]
  have hmA5 := hm.fr ((Fr.refl (fun _ => False) u4).alloc (.cells #[.func (.func 30) #[] #[.pointer (some ⟨b1, 0, none⟩)]] 66)) id
  rw [hv5] at hmA5
  have lk5 : mb < k5 := by have := hm.lt; omega
  clear hm hv5
  go_wp2_with (first | (refine wpList_store_fmap _ rfl _ _ _ 44 9 49 (.inr rfl) strKey Tryz.underlying44 _ _ _ rfl hmA5 (by unfold maxLen; omega) _ (.string _) rfl (WideMaps.keyOf_string_mk Tryz.underlying9 (by decide)) trivial _ _ _ rfl ?_; intro u5 hm ht5; clear hmA5) | (refine wpList_store_fmap _ rfl _ _ _ 44 9 49 (.inr rfl) strKey Tryz.underlying44 _ _ _ rfl hm (by unfold maxLen; omega) _ (.string _) rfl (WideMaps.keyOf_string_mk Tryz.underlying9 (by decide)) trivial _ _ _ rfl ?_; intro u6 hm6 ht6))
  have fS5 := fA5.trans (fr_turnedF ht5)
  have HS6 := Lib.hid (HS5.out.trans fS5)
  have K5x5 := Lib.hid ((fr_turnedF ht5).cell kA5 (show ¬ (k5 = mb) by omega))
  have K0x5 := Lib.hid (fS5.cell K0x4.out (show ¬ (k0 = mb) by omega))
  have K1x5 := Lib.hid (fS5.cell K1x4.out (show ¬ (k1 = mb) by omega))
  have K2x5 := Lib.hid (fS5.cell K2x4.out (show ¬ (k2 = mb) by omega))
  have K3x5 := Lib.hid (fS5.cell K3x4.out (show ¬ (k3 = mb) by omega))
  have K4x5 := Lib.hid (fS5.cell K4x4.out (show ¬ (k4 = mb) by omega))
  clear fA5 fS5 kA5 ht5
  have F6 := fr_turnedF ht6
  have HSf := HS6.out.trans F6
  go_ret
  refine ⟨mb, b1, k0, k1, k2, k3, k4, k5, rfl, ⟨⟨_, hm6, fun x => ?_⟩, HSf.cell B1.out (show ¬ (b1 = mb) by omega), F6.cell K0x5.out (show ¬ (k0 = mb) by omega), F6.cell K1x5.out (show ¬ (k1 = mb) by omega), F6.cell K2x5.out (show ¬ (k2 = mb) by omega), F6.cell K3x5.out (show ¬ (k3 = mb) by omega), F6.cell K4x5.out (show ¬ (k4 = mb) by omega), F6.cell K5x5.out (show ¬ (k5 = mb) by omega)⟩, by omega, FW.out.after HSf (fun k hk e => by omega)⟩
  simp [fldF, nfn, sfn]
end Go.Proofs.YthkmbnkkohomeaaGreatDoor.Mem
