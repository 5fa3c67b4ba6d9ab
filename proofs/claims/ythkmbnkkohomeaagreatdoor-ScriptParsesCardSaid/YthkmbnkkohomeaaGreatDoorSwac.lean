/- Several texts in one: Util, NmA, KnA. -/
import Derived.WalkKit
import Derived.Lib.Hide
import Derived.Deep.Draws
import Derived.Test.YthkmbnkkohomeaaGreatDoorChecked
import Derived.Test.YthkmbnkkohomeaaGreatDoorSwaa
import Derived.Test.YthkmbnkkohomeaaGreatDoorSwab
import Derived.WalkSpells
import Derived.WalkLawsBesides
import Derived.WalkSmall
import Derived.BigQuiet
import Derived.Deep.LoopGhost
import Derived.Lib.AtoiErrMem
set_option linter.unusedSimpArgs false
set_option linter.unusedVariables false
/- Words on worlds that all texts here use: what a call may have written (a set of blocks), and small facts on blocks. No program. -/
namespace Go.Proofs.YthkmbnkkohomeaaGreatDoor
open Go.RowKit

/-- Of the blocks that were there, only those of S may have been written. -/
structure Fr (S : Nat → Prop) (w w' : World) : Prop where
  os : w'.os = w.os
  tape : w'.tape = w.tape
  output : w'.output = w.output
  size : w.heap.size ≤ w'.heap.size
  block : ∀ k, k < w.heap.size → ¬ S k → w'.heap[k]? = w.heap[k]?

theorem Fr.refl (S : Nat → Prop) (w : World) : Fr S w w := ⟨rfl, rfl, rfl, Nat.le_refl _, fun _ _ _ => rfl⟩
theorem Fr.trans {S : Nat → Prop} {a b c : World} (h : Fr S a b) (k : Fr S b c) : Fr S a c :=
  ⟨k.os.trans h.os, k.tape.trans h.tape, k.output.trans h.output, Nat.le_trans h.size k.size, fun i hi hs => (k.block i (Nat.lt_of_lt_of_le hi h.size) hs).trans (h.block i hi hs)⟩
theorem Fr.mono {S T : Nat → Prop} {a b : World} (h : Fr S a b) (hs : ∀ k, k < a.heap.size → S k → T k) : Fr T a b :=
  ⟨h.os, h.tape, h.output, h.size, fun k hk ht => h.block k hk (fun s => ht (hs k hk s))⟩
theorem Fr.drew {S : Nat → Prop} {a b : World} (h : Fr S a b) : Fr S a b.drew := ⟨h.os, h.tape, h.output, h.size, h.block⟩
theorem Fr.drewN {S : Nat → Prop} {a b : World} (h : Fr S a b) (n : Nat) : Fr S a (b.drewN n) := ⟨h.os, h.tape, h.output, h.size, h.block⟩
theorem Fr.alloc {S : Nat → Prop} {a b : World} (h : Fr S a b) (o : Obj) : Fr S a (b.alloc o) :=
  h.trans ⟨rfl, rfl, rfl, by simp, fun k hk _ => Below.heap_alloc _ _ _ hk⟩
theorem Fr.setCell {S : Nat → Prop} {a b : World} (h : Fr S a b) {p : Addr} (hp : a.heap.size ≤ p.block ∨ S p.block) (u : Value) : Fr S a (b.setCell p u) :=
  ⟨h.os, h.tape, h.output, by simpa [World.setCell] using h.size, fun k hk hs => by
    rw [Below.heap_setCell _ _ _ _ (fun e => by rcases hp with hp | hp
                                                · omega
                                                · exact hs (e ▸ hp))]
    exact h.block k hk hs⟩
theorem Fr.setOne {p : Nat} {a b : World} (h : Fr (fun j => j = p) a b) (off : Nat) (u : Value) : Fr (fun j => j = p) a (b.setCell ⟨p, off, none⟩ u) :=
  Fr.setCell (S := fun j => j = p) h (.inr rfl) u
theorem Fr.grown {S : Nat → Prop} {a b c : World} {row : Option Nat} (h : Fr S a b) (hg : b.grownBy c row) (hr : ∀ k, row = some k → a.heap.size ≤ k ∨ S k) : Fr S a c :=
  ⟨hg.os.trans h.os, hg.tape.trans h.tape, hg.output.trans h.output, Nat.le_trans h.size hg.size, fun k hk hs => by
    rw [hg.block k (Nat.lt_of_lt_of_le hk h.size) (fun e => by rcases hr k e.symm with hr | hr
                                                               · omega
                                                               · exact hs hr)]
    exact h.block k hk hs⟩
/-- What a callee that knows more blocks as new has left. -/
theorem Fr.after {S T : Nat → Prop} {a b c : World} (h : Fr S a b) (k : Fr T b c) (hs : ∀ k, k < a.heap.size → T k → S k) : Fr S a c :=
  ⟨k.os.trans h.os, k.tape.trans h.tape, k.output.trans h.output, Nat.le_trans h.size k.size, fun i hi hsi => (k.block i (Nat.lt_of_lt_of_le hi h.size) (fun t => hsi (hs i hi t))).trans (h.block i hi hsi)⟩
theorem Fr.below {S : Nat → Prop} {a b : World} (h : Fr S a b) (hs : ∀ k, k < a.heap.size → ¬ S k) : Below a.heap.size a b :=
  ⟨h.os, h.tape, h.output, h.size, fun k hk => h.block k hk (hs k hk)⟩
theorem Fr.of_below {a b : World} (h : Below a.heap.size a b) (S : Nat → Prop) : Fr S a b := ⟨h.os, h.tape, h.output, h.size, fun k hk _ => h.block k hk⟩
theorem Fr.cell {S : Nat → Prop} {a b : World} (h : Fr S a b) {p : Addr} {v : Value} (hv : a.cell? p = some v) (hs : ¬ S p.block) : b.cell? p = some v :=
  (World.cell?_of_block (h.block p.block (World.block_lt_of_cell? a p hv) hs)).trans hv
theorem Fr.obj {S : Nat → Prop} {a b : World} (h : Fr S a b) {p : Nat} {o : Obj} (hv : a.heap[p]? = some o) (hs : ¬ S p) : b.heap[p]? = some o :=
  (h.block p (lt_of_block hv) hs).trans hv
theorem Fr.owns {S : Nat → Prop} {a b : World} (h : Fr S a b) {base : Nat} {e : TypeId} {size : Nat} {v : Value} {n : Nat} {xs : List Value} (ho : a.ownsRow base e size v n xs)
    (hs : ∀ k, v.ownBlock = some k → ¬ S k) : b.ownsRow base e size v n xs := by
  refine ⟨ho.1, ?_⟩
  rcases ho.2 with hn | ⟨g, cap, cur, rfl, hb, hgg, rest⟩
  · exact .inl hn
  · exact .inr ⟨g, cap, cur, rfl, hb, h.obj hgg (hs g rfl), rest⟩

theorem owns_mono {w : World} {base base' : Nat} {e : TypeId} {size : Nat} {v : Value} {n : Nat} {xs : List Value} (ho : w.ownsRow base e size v n xs) (h : base' ≤ base) : w.ownsRow base' e size v n xs := by
  refine ⟨ho.1, ?_⟩
  rcases ho.2 with hn | ⟨g, cap, cur, rfl, hb, rest⟩
  · exact .inl hn
  · exact .inr ⟨g, cap, cur, rfl, by omega, rest⟩

/-- A slice's value, out of what it owns. -/
theorem owns_form {w : World} {base : Nat} {e : TypeId} {size : Nat} {v : Value} {n : Nat} {xs : List Value} (ho : w.ownsRow base e size v n xs) :
    ∃ o c, v = .slice o n c ∧ n ≤ c ∧ c ≤ maxLen ∧ (o = none → n = 0 ∧ c = 0) ∧ (∀ b, o = some b → b.off = 0 ∧ b.spot = none ∧ base ≤ b.block ∧ b.block < w.heap.size) := by
  rcases ho.2 with ⟨h, hl⟩ | ⟨g, cap, cur, h, hb, hg, h1, h2, _⟩
  · exact ⟨none, 0, by rw [h, hl], by omega, by decide, fun _ => ⟨hl, rfl⟩, fun b h => by cases h⟩
  · exact ⟨_, _, h, h1, h2, (fun h => by cases h), fun b hb' => by cases hb'; exact ⟨rfl, rfl, hb, lt_of_block hg⟩⟩

theorem owns_holds {w : World} {base : Nat} {e : TypeId} {size : Nat} {o : Option Addr} {n c : Nat} {xs : List Value} (ho : w.ownsRow base e size (.slice o n c) n xs) :
    ∀ b, o = some b → ∀ j u, xs[j]? = some u → w.cell? (b.add j) = some u := by
  intro b hb j u hu
  subst hb
  rcases ho.2 with ⟨h, _⟩ | ⟨g, cap, cur, h, hrest⟩
  · cases h
  · have hg : b = ⟨g, 0, none⟩ := by simp at h; exact h.1
    subst hg
    exact ho.cells rfl j u hu

theorem owns_length {w : World} {base : Nat} {e : TypeId} {size : Nat} {v : Value} {n : Nat} {xs : List Value} (ho : w.ownsRow base e size v n xs) : xs.length = n * size := ho.1

/-- A first part of a slice of the call's own: 's[:k]'. -/
theorem owns_take {w : World} {base : Nat} {e : TypeId} {size g n c k : Nat} {xs : List Value} (ho : w.ownsRow base e size (.slice (some ⟨g, 0, none⟩) n c) n xs) (hk : k ≤ n) :
    w.ownsRow base e size (.slice (some ⟨g, 0, none⟩) k c) k (xs.take (k * size)) := by
  have hks : k * size ≤ n * size := Nat.mul_le_mul_right _ hk
  refine ⟨by rw [List.length_take, ho.1, Nat.min_eq_left hks], ?_⟩
  rcases ho.2 with ⟨h, _⟩ | ⟨g', cap, cur, h, hb, hg, h1, h2, h3, h4⟩
  · cases h
  · simp only [Value.slice.injEq, Option.some.injEq, Addr.mk.injEq, and_true, true_and] at h
    obtain ⟨rfl, rfl⟩ := h
    exact .inr ⟨g, c, cur, rfl, hb, hg, by omega, h2, h3, by rw [← h4, List.take_take, Nat.min_eq_left hks]⟩
end Go.Proofs.YthkmbnkkohomeaaGreatDoor

/- Contracts of package code at a dump with the shelf's contracts: Names, Number. -/
namespace Go.Proofs.YthkmbnkkohomeaaGreatDoor.Cod
open Go.RowKit
/-- The table of blanks is there. -/
def Tab (w : World) : Prop := Lib.TabIs Tryz.prog w "strings.asciiSpace" .u8 Lib.asciiSpaceTab

theorem nml_map : (nml.map fun l => Value.string ⟨l.toArray⟩) = nm.map Value.string := by simp [nm, Function.comp_def]

set_option maxRecDepth 100000 in
set_option maxHeartbeats 400000 in
theorem names_any (w : World) (ht : Tab w) :
    Calls Tryz.prog 126 #[] w fun e w' => e = .returned (.slice (some ⟨w.heap.size, 0, none⟩) 86 86) ∧ w' = w.alloc (.cells (nm.map Value.string).toArray 9) := by
  have hl : nml.length = 86 := by decide +kernel
  have HF := Lib.hid (Tryz.strings_Fields primS w prim_size prim_ascii ht)
  rw [prim_fields, hl, nml_map] at HF
  clear hl
  go_enter Tryz.func126, Tryz.ntmps126
  go_wp2_with fail
  refine HF.out.mono ?_
  rintro e w' ⟨rfl, rfl⟩
  go_wp2_with fail
  go_ret
  exact ⟨rfl, rfl⟩

set_option maxRecDepth 100000 in
set_option maxHeartbeats 400000 in
theorem number_any (s : ByteArray) (w : World) (ht : Tab w) :
    Calls Tryz.prog 118 #[.string s] w fun e w' => e = .returned (.int .i64 (Lib.idxOfS nm s + 1)) ∧ Fr (fun _ => False) w w' := by
  have HN := Lib.hid (names_any w ht)
  have hb := idx_bd s
  have hc : ∀ j, j < nm.length → (w.alloc (.cells (nm.map Value.string).toArray 9)).cell? ⟨w.heap.size, 0 + j, none⟩ = some (.string (nm.getD j ByteArray.empty)) := fun j hj => by
    simp [List.getD, hj]
  have HI := Lib.hid (Tryz.slices_Index_string w.heap.size 0 86 86 nm s (w.alloc (.cells (nm.map Value.string).toArray 9)) (by rw [nm_length]; exact Nat.le_refl _) (by omega) hc)
  rw [List.take_of_length_le (by rw [nm_length]; exact Nat.le_refl _)] at HI
  clear hc
  go_enter Tryz.func118, Tryz.ntmps118
  go_wp2_with (go_at_call 126; refine HN.out.mono ?_; rintro e w' ⟨rfl, rfl⟩)
  refine HI.out.mono ?_
  rintro e w' ⟨rfl, rfl⟩
  go_wp2_with fail
  go_ret
  exact ⟨rfl, (Fr.refl _ _).alloc _⟩

theorem tab_below {w w' : World} (h : Below w.heap.size w w') (ht : Tab w) : Tab w' := by
  have hg : Tryz.prog.globalNamed "strings.asciiSpace" = some 6 := by kernel_rfl
  refine var?_below h hg ?_ ht
  rcases Nat.lt_or_ge 6 w.heap.size with hlt | hge
  · exact hlt
  · exfalso
    unfold Tab Lib.TabIs World.var? at ht
    rw [hg] at ht
    simp only [Option.bind_some] at ht
    rw [Array.getElem?_eq_none hge] at ht
    simp at ht
theorem tab_fr {w w' : World} (h : Fr (fun _ => False) w w') (ht : Tab w) : Tab w' := tab_below (Fr.below h fun _ _ e => e) ht
end Go.Proofs.YthkmbnkkohomeaaGreatDoor.Cod

/- What the walks of script know of the library's variables; decimal. -/
namespace Go.Proofs.YthkmbnkkohomeaaGreatDoor.Mem
open Go.RowKit

theorem var_lt {w : World} {name : String} {g : Nat} {cs : Array Value} (hg : Tryz.prog.globalNamed name = some g) (h : w.var? Tryz.prog name = some cs) : g < w.heap.size := by
  rcases Nat.lt_or_ge g w.heap.size with hlt | hge
  · exact hlt
  · exfalso
    unfold World.var? at h
    rw [hg] at h
    simp only [Option.bind_some] at h
    rw [Array.getElem?_eq_none hge] at h
    simp at h
theorem var_fr {w w' : World} {name : String} {g : Nat} {cs : Array Value} (hg : Tryz.prog.globalNamed name = some g) (f : Fr (fun _ => False) w w') (h : w.var? Tryz.prog name = some cs) : w'.var? Tryz.prog name = some cs :=
  var?_below (Fr.below f fun _ _ e => e) hg (var_lt hg h) h

structure Kn (w : World) : Prop where
  tab : Cod.Tab w
  pow : Lib.TabIs Tryz.prog w "internal/strconv.uint64pow10" .u64 Lib.pow10Tab
  syn : ∃ tp p, w.var? Tryz.prog "strconv.ErrSyntax" = some #[.iface tp p]
  rng : ∃ tp p, w.var? Tryz.prog "strconv.ErrRange" = some #[.iface tp p]
  mx : ∃ m, w.cell? ⟨0, 0, none⟩ = some (.int .i64 m)

theorem Kn.fr {w w' : World} (h : Kn w) (f : Fr (fun _ => False) w w') : Kn w' := by
  obtain ⟨t1, p1, h1⟩ := h.syn
  obtain ⟨t2, p2, h2⟩ := h.rng
  obtain ⟨m, hm⟩ := h.mx
  exact ⟨Cod.tab_fr f h.tab, var_fr (g := 1) (by kernel_rfl) f h.pow, ⟨t1, p1, var_fr (g := 2) (by kernel_rfl) f h1⟩, ⟨t2, p2, var_fr (g := 3) (by kernel_rfl) f h2⟩, ⟨m, f.cell hm id⟩⟩

theorem fr_grow (w : World) (k : Nat) (os : Array Obj) : Fr (fun _ => False) w (Go.Sort.grow (w.drewN k) os) :=
  ⟨rfl, rfl, rfl, by simp [Go.Sort.grow], fun j hj _ => by simp only [Go.Sort.grow]; exact Array.getElem?_append_left hj⟩

theorem decD_len : ∀ (k u : Nat), u < 10 ^ (k + 1) → (Lib.decDigits u).length ≤ k + 1
  | 0, u, h => by rw [Lib.decDigits_one (by simpa using h)]; simp
  | k + 1, u, h => by
    rw [Lib.decDigits]
    split
    · simp
    · have := decD_len k (u / 10) (by rw [Nat.pow_succ] at h; omega)
      rw [List.length_append]
      simp only [List.length_cons, List.length_nil]
      omega
theorem itoa_len (n : Int) (h0 : -9223372036854775808 ≤ n) (h1 : n ≤ 9223372036854775807) : (Lib.itoa n).length ≤ 20 := by
  unfold Lib.itoa
  split
  · have := decD_len 18 n.natAbs (by omega)
    simp only [List.length_cons]
    omega
  · have := decD_len 18 n.toNat (by omega)
    omega

set_option maxRecDepth 100000 in
theorem dec_ok (n : Int) (h0 : -9223372036854775808 ≤ n) (h1 : n ≤ 9223372036854775807) (w : World) (hp : Lib.TabIs Tryz.prog w "internal/strconv.uint64pow10" .u64 Lib.pow10Tab) :
    Calls Tryz.prog 18 #[.int .i64 n] w fun e w' => e = .returned (.string ⟨(Lib.itoa n).toArray⟩) ∧ Fr (fun _ => False) w w' := by
  have HF := Lib.hid (Tryz.strconv_FormatInt_10 n h0 h1 w hp)
  clear hp
  go_enter Tryz.func18, Tryz.ntmps18
  go_wp2_with (go_at_call 34; refine HF.out.mono ?_; rintro e w1 ⟨rfl, k, os, rfl⟩)
  go_ret
  exact ⟨rfl, fr_grow _ _ _⟩
end Go.Proofs.YthkmbnkkohomeaaGreatDoor.Mem
