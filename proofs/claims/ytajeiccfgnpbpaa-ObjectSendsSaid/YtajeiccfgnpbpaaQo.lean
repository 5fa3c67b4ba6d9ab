/- Several texts in one: OslA, ObjD, OslC, OslR, OslD, OsRg. -/
import Derived.Test.YtajeiccfgnpbpaaHoA
import Derived.Test.YtajeiccfgnpbpaaQn
import Derived.Test.YtajeiccfgnpbpaaQj
import Derived.Test.YtajeiccfgnpbpaaQm
import Derived.Deep.QuietTactic
import Derived.BigQuiet
import Derived.Deep.DeepCutAuto
import Derived.Deep.DrawnRows
import Derived.Laws.BytesArg
import Derived.BigRegion
import Derived.RegionTactic
import Derived.Deep.RegionHeld3
import Derived.Maps.OwnSet
set_option linter.unusedSimpArgs false
set_option linter.unusedVariables false
/- The statement ObjectSends: its state between two acts, and what each act does to it. No walk. -/
namespace Go.Proofs.Ytajeiccfgnpbpaa.Mem
open Go.RowKit

theorem no_low {B b g i : Nat} (h : B ≤ i) (hd : b < B ∧ g < B) (e : i = b ∨ i = g) : False := by omega

theorem OW.turn {wb B p g b k x x' : Nat} {A : Nat → Nat} {L : List RC} {l l' : List Bk} {T T' : List Th} {bs bs' : List UInt8} {w w' : World} (h : OW wb B p g b k A L l T bs x w) (f : Fr (fun j => j = b ∨ j = g) w w') (hs : Sat w' b p g 16 16384 x' bs')
    (hst : OSt bs' 5 16384 32768 x' k A L l' T') (hd : wb ≠ b ∧ wb ≠ g ∧ b < B ∧ g < B) : OW wb B p g b k A L l' T' bs' x' w' := by
  obtain ⟨vs, vA, vL, hob, hs0, hst0, hone, hown, hv⟩ := h
  have hgobj := hs0.mat.2.2.1
  have hbobj := hs0.2.2.1
  refine ⟨vs, vA, vL, f.obj hob (fun e => e.elim hd.1 hd.2.1), hs, hst, hone, fun j hj => (hown j hj).fr f (fun i cs hi e => ?_), hv.imp id fun ⟨hk0, gA, cA, gL, cL, e1, e2, hne, hoA, hoL⟩ => ⟨hk0, gA, cA, gL, cL, e1, e2, hne, f.owns hoA (fun i hi e => no_low (hoA.lt i hi).1 hd.2.2 e), f.owns hoL (fun i hi e => no_low (hoL.lt i hi).1 hd.2.2 e)⟩⟩
  rcases e with rfl | rfl
  · rw [hbobj] at hi; simp at hi
  · rw [hgobj] at hi; simp at hi

theorem OW.old {wb B p g b k x : Nat} {A : Nat → Nat} {L : List RC} {l : List Bk} {T : List Th} {bs : List UInt8} {w w' : World} (h : OW wb B p g b k A L l T bs x w) {S : Nat → Prop} (f : Fr S w w') (hd : ¬ S wb ∧ ¬ S p ∧ ¬ S g ∧ ¬ S b) (hty : ∀ i cs t, S i → w.heap[i]? = some (.cells cs t (0, 0)) → t ≠ 150 ∧ t ≠ 2 ∧ t ≠ 90) : OW wb B p g b k A L l T bs x w' := by
  obtain ⟨vs, vA, vL, hob, hs0, hst0, hone, hown, hv⟩ := h
  refine ⟨vs, vA, vL, f.obj hob hd.1, hs0.fr f hd.2.2.2 hd.2.1 hd.2.2.1, hst0, hone, fun j hj => (hown j hj).fr f (fun i cs hi e => (hty i cs _ e hi).1 rfl), hv.imp id fun ⟨hk0, gA, cA, gL, cL, e1, e2, hne, hoA, hoL⟩ => ⟨hk0, gA, cA, gL, cL, e1, e2, hne, f.owns hoA (fun i hi e => ?_), f.owns hoL (fun i hi e => ?_)⟩⟩
  · obtain rfl : gA = i := by simpa [Value.ownBlock] using hi
    obtain ⟨cs, ho⟩ := own_obj hoA
    exact (hty gA cs _ e ho).2.1 rfl
  · obtain rfl : gL = i := by simpa [Value.ownBlock] using hi
    obtain ⟨cs, ho⟩ := own_obj hoL
    exact (hty gL cs _ e ho).2.2 rfl

theorem setL_el (L : List RC) (c : Nat) (sel xt : Int) (j : Nat) (h : j < (setL L c sel xt).length) (hj : j < L.length) : (setL L c sel xt)[j] = if j = c then { L[j] with own := setOwn L[j].own sel xt } else L[j] := by
  have := setL_get L c sel xt j
  rw [List.getElem?_eq_getElem h, List.getElem?_eq_getElem hj] at this
  simpa using this
theorem setSz_el (L : List RC) (c : Nat) (v : Int) (j : Nat) (h : j < (setSz L c v).length) (hj : j < L.length) : (setSz L c v)[j] = if j = c then { L[j] with size := v } else L[j] := by
  have := setSz_get L c v j
  rw [List.getElem?_eq_getElem h, List.getElem?_eq_getElem hj] at this
  simpa using this

/-- Sizes and methods of few acts. -/
def FewS (j : Nat) (L : List RC) : Prop := ∀ r ∈ L, 8 ≤ r.size ∧ r.size ≤ 8 + 264 * (j : Int) ∧ r.size % 8 = 0 ∧ r.own.length ≤ j
theorem FewS.mono {j j' : Nat} {L : List RC} (h : FewS j L) (hj : j ≤ j') : FewS j' L := fun r hr => by
  have := h r hr
  omega
theorem FewS.new {j k : Nat} {L : List RC} (h : FewS j L) (hL : L.length = k) {q : Int} (hq : q < k) (s : Int) : FewS (j + 1) (L ++ [⟨q, sizeOfP L q, s, []⟩]) := fun r hr => by
  rcases List.mem_append.1 hr with hr | hr
  · exact h.mono (Nat.le_succ j) r hr
  · have : r = ⟨q, sizeOfP L q, s, []⟩ := by simpa using hr
    subst this
    dsimp only
    unfold sizeOfP
    split
    · simp; omega
    · have hql : q.toNat < L.length := by omega
      have := h.mono (Nat.le_succ j) L[q.toNat] (List.getElem_mem _)
      simp only [List.getD_eq_getElem?_getD, List.getElem?_eq_getElem hql, Option.map_some, Option.getD_some]
      simp
      omega
theorem FewS.set {j c : Nat} {L : List RC} (h : FewS j L) (sel xt : Int) : FewS (j + 1) (setL L c sel xt) := fun r hr => by
  obtain ⟨i, hi, rfl⟩ := List.mem_iff_getElem.1 hr
  have hil : i < L.length := by rwa [setL_length] at hi
  have hL := h L[i] (List.getElem_mem _)
  rw [setL_el L c sel xt i hi hil]
  split
  · dsimp only
    refine ⟨hL.1, by omega, hL.2.2.1, ?_⟩
    unfold setOwn
    rw [List.length_append, List.length_singleton]
    have := List.length_filter_le (fun o : Int × Int => o.1 != sel) L[i].own
    omega
  · omega

theorem FewS.grow {j c : Nat} {L : List RC} (h : FewS j L) {n v : Int} (hn : 0 ≤ n ∧ n ≤ 255) (hv : ∀ hc : c < L.length, v = (L[c].size + n + 7) / 8 * 8) : FewS (j + 1) (setSz L c v) := fun r hr => by
  obtain ⟨i, hi, rfl⟩ := List.mem_iff_getElem.1 hr
  have hil : i < L.length := by rwa [setSz_length] at hi
  have hL := h L[i] (List.getElem_mem _)
  rw [setSz_el L c v i hi hil]
  split
  · next e =>
    subst e
    have := hv hil
    dsimp only
    omega
  · omega

/-- Which addresses are objects' in the heap. -/
def InH (l : List Bk) (U : Int → Bool) : Prop := ∀ y, U y = true ↔ ∃ q m : Nat, y = (q : Int) ∧ UsedAt 16384 l q m

/-- What stands behind j acts. -/
def OSL (wb B p g b hb mb j : Nat) (vT : Value) (wr : World) : Prop :=
  ∃ (k : Nat) (A : Nat → Nat) (L : List RC) (l : List Bk) (T : List Th) (bs : List UInt8) (x nn : Nat) (U : Int → Bool), OW wb B p g b k A L l T bs x wr ∧ Heap wr hb p 16384 32768 ∧ BMap wr mb nn U ∧ InH l U ∧
    wr.ownsRow B 95 3 vT T.length (thcells T) ∧ (k ≤ j ∧ nn ≤ j ∧ T.length ≤ j) ∧ FewS j L ∧ (k = 0 → x = 16)

theorem owns_ty {w : World} {B : Nat} {t : TypeId} {size : Nat} {v : Value} {n : Nat} {xs : List Value} (h : w.ownsRow B t size v n xs) {i : Nat} (hi : v.ownBlock = some i) : ∃ cs, w.heap[i]? = some (.cells cs t (0, 0)) := by
  rcases h.2 with ⟨e, _⟩ | ⟨g', cap, cur, rfl, hb, hg, _⟩
  · rw [e] at hi; cases hi
  · obtain rfl : g' = i := by simpa [Value.ownBlock] using hi
    exact ⟨cur, hg⟩

/-- What an act leaves alone. -/
theorem rest_fr {S : Nat → Prop} {B hb mb p nn n : Nat} {U : Int → Bool} {vT : Value} {xs : List Value} {w w' : World} (f : Fr S w w') (h1 : ¬ S hb) (h2 : ¬ S mb) (h3 : ∀ i cs, S i → w.heap[i]? = some (.cells cs 95 (0, 0)) → False)
    (hh : Heap w hb p 16384 32768) (hm : BMap w mb nn U) (ho : w.ownsRow B 95 3 vT n xs) : Heap w' hb p 16384 32768 ∧ BMap w' mb nn U ∧ w'.ownsRow B 95 3 vT n xs :=
  ⟨f.obj hh h1, hm.fr f h2, f.owns ho fun i hi e => by
    obtain ⟨cs, hc⟩ := owns_ty ho hi
    exact h3 i cs e hc⟩

/-- A class's size, as it is read. -/
theorem CSt.sizeAt {bs : List UInt8} {S x k : Nat} {A : Nat → Nat} {L : List RC} (h : CSt bs S x k A L) {c : Nat} (hc : c < k) (hcl : c < L.length) : isCl bs ((A c : Nat) : Int) = true ∧ (clv bs ((A c : Nat) : Int)).size = L[c].size := by
  refine ⟨h.is c hc, ?_⟩
  rw [h.v c hc]
  exact h.siz c _ (List.getElem?_eq_getElem hcl)
theorem CSt.sizev {bs : List UInt8} {S x k : Nat} {A : Nat → Nat} {L : List RC} (h : CSt bs S x k A L) {c : Nat} (hc : c < k) (hcl : c < L.length) {n : Nat} (hn : L[c].size = n) (h8 : 8 ≤ n) (hM : n ≤ 1048576) : Mem.sizev bs ((A c : Nat) : Int) = ((n : Int), 0) := by
  obtain ⟨h1, h2⟩ := h.sizeAt hc hcl
  unfold Mem.sizev
  rw [if_pos h1, h2, hn, if_neg (by omega)]

/-- An object in the heap: what it leaves. -/
theorem oheap_state {p g hz z x k c n : Nat} {A : Nat → Nat} {L : List RC} {l : List Bk} {T : List Th} {bs : List UInt8} {e : Ending} {w' : World} (h : OSt bs 5 hz z x k A L l T) (hc : c < k) (hn8 : n % 8 = 0) (hn : 8 ≤ n) (hp : OHeapPost p g bs hz l ((A c : Nat) : Int) n e w') :
    (e = .returned (.tuple #[.int .i64 0, .int .i64 (-59)]) ∧ Mat 108 w' p g bs) ∨
    ∃ (a : Nat) (l' : List Bk) (bs' : List UInt8), e = .returned (.tuple #[.int .i64 (a : Nat), .int .i64 0]) ∧ a ≤ 1048576 ∧ Mat 108 w' p g bs' ∧ bs'.length = bs.length ∧ OSt bs' 5 hz z x k A L l' (T ++ [⟨a, c, List.replicate (n - 8) 0⟩]) ∧
      (∃ m, UsedAt hz l' a m) ∧ (∀ m, ¬ UsedAt hz l a m) ∧ (∀ y m, UsedAt hz l y m → UsedAt hz l' y m) ∧ (∀ y m, UsedAt hz l' y m → y = a ∨ UsedAt hz l y m) := by
  rcases hp with ⟨e1, e2⟩ | ⟨i, m, hi, hnm, e1, e2⟩
  · exact .inl ⟨e1, e2⟩
  · have hz1 : z ≤ bs.length := by rw [h.len]; exact Nat.le_refl _
    obtain ⟨l', ha⟩ := alloced h.blks hz1 h.cst.big hi hnm
    obtain ⟨hil, _⟩ := List.getElem?_eq_some_iff.1 hi
    have hgt := h.blks.get i hil
    have hgt1 := hgt.2.1
    have hgt2 := hgt.2.2.1
    have hbig := h.cst.big
    have hal := h.blks.aligned i (by omega) h.hz8
    have ho := h.heapObj ha hc (by omega) hn8 hn
    refine .inr ⟨boff hz l i + 8, l', _, by rw [e1]; rfl, by omega, e2, by rw [sett_length, setc_length, splitb_length], ho, ?_, ha.fresh, ha.old, ha.back⟩
    obtain ⟨m, hu, _⟩ := ha.new
    exact ⟨m, hu⟩

theorem InH.add {l l' : List Bk} {U : Int → Bool} (h : InH l U) {a : Nat} (h1 : ∃ m, UsedAt 16384 l' a m) (h2 : ∀ y m, UsedAt 16384 l y m → UsedAt 16384 l' y m) (h3 : ∀ y m, UsedAt 16384 l' y m → y = a ∨ UsedAt 16384 l y m) : InH l' (fun y => if y = (a : Int) then true else U y) := fun y => by
  dsimp only
  by_cases hy : y = a
  · subst hy
    rw [if_pos rfl]
    obtain ⟨m, hm⟩ := h1
    exact ⟨fun _ => ⟨a, m, rfl, hm⟩, fun _ => rfl⟩
  · rw [if_neg hy, h y]
    refine ⟨fun ⟨q, m, e, hu⟩ => ⟨q, m, e, h2 q m hu⟩, fun ⟨q, m, e, hu⟩ => ⟨q, m, e, ?_⟩⟩
    rcases h3 q m hu with e' | hu
    · subst e'; exact absurd e hy
    · exact hu
theorem InH.same {l l' : List Bk} {U : Int → Bool} (h : InH l U) (he : ∀ y m, UsedAt 16384 l' y m ↔ UsedAt 16384 l y m) : InH l' U := fun y => by
  rw [h y]
  exact ⟨fun ⟨q, m, e, hu⟩ => ⟨q, m, e, (he q m).2 hu⟩, fun ⟨q, m, e, hu⟩ => ⟨q, m, e, (he q m).1 hu⟩⟩
theorem InH.del {l l' : List Bk} {U : Int → Bool} (h : InH l U) {a : Nat} (he : ∀ y m, UsedAt 16384 l' y m ↔ UsedAt 16384 l y m ∧ y ≠ a) : InH l' (fun y => if y = (a : Int) then false else U y) := fun y => by
  dsimp only
  by_cases hy : y = a
  · subst hy
    rw [if_pos rfl]
    refine ⟨(fun e => by cases e), fun ⟨q, m, e, hu⟩ => ?_⟩
    have := ((he q m).1 hu).2
    omega
  · rw [if_neg hy, h y]
    refine ⟨fun ⟨q, m, e, hu⟩ => ⟨q, m, e, (he q m).2 ⟨hu, ?_⟩⟩, fun ⟨q, m, e, hu⟩ => ⟨q, m, e, ((he q m).1 hu).1⟩⟩
    intro e2
    subst e2
    exact hy e

/-- Free: what it leaves: of an address that is in the heap, and of one that isn't. -/
theorem free_state {p g hz z x k : Nat} {A : Nat → Nat} {L : List RC} {l : List Bk} {T : List Th} {bs : List UInt8} {e : Ending} {w' : World} {a : Nat} (h : OSt bs 5 hz z x k A L l T) (hp : FreePost p g bs hz l ((a : Nat) : Int) e w') :
    (e = .returned (.int .i64 (-60)) ∧ Mat 108 w' p g bs ∧ ∀ m, ¬ UsedAt hz l a m) ∨
    ((∃ m, UsedAt hz l a m) ∧ ∃ (l' : List Bk) (bs' : List UInt8), e = .returned (.int .i64 0) ∧ Mat 108 w' p g bs' ∧ bs'.length = bs.length ∧ Freed hz z l bs bs' a l') := by
  rcases hp with ⟨e1, e2, e3⟩ | ⟨i, m, s, t, hi, hx, hs, ht, htl, e1, e2⟩
  · refine .inl ⟨e1, e2, fun m hu => ?_⟩
    obtain ⟨i, hi, hb⟩ := (used_get hz l a m).1 hu
    exact e3 i m hi (by omega)
  · have hz1 : z ≤ bs.length := by rw [h.len]; exact Nat.le_refl _
    have hx' : boff hz l i + 8 = a := by omega
    obtain ⟨l', hf⟩ := freed h.blks hz1 h.cst.big hi hx' hs ht htl
    exact .inr ⟨⟨m, (used_get hz l a m).2 ⟨i, hi, hx'⟩⟩, l', _, e1, e2, setv_length _ _ _, hf⟩

theorem no_obj_at {bs : List UInt8} {hz z x k : Nat} {A : Nat → Nat} {L : List RC} {l : List Bk} {T : List Th} (h : OSt bs 5 hz z x k A L l T) {i j : Nat} {t u : Th} (hij : i ≠ j) (hi : T[i]? = some t) (hj : T[j]? = some u) : t.at' ≠ u.at' := by
  have := h.apart2 hij hi hj
  omega

/-- The new object is freed again. -/
theorem OSt.freeNew {bs bs' : List UInt8} {hz z x k : Nat} {A : Nat → Nat} {L : List RC} {l l' : List Bk} {T : List Th} {n : Th} (h : OSt bs 5 hz z x k A L l (T ++ [n])) (hf : Freed hz z l bs bs' n.at' l') : OSt bs' 5 hz z x k A L l' T := by
  refine h.free hf (fun t ht => ⟨List.mem_append_left _ ht, ?_⟩) (fun i j t u hij hi hj => ?_)
  · obtain ⟨i, hi⟩ := List.mem_iff_getElem?.1 ht
    have hil := (List.getElem?_eq_some_iff.1 hi).1
    exact no_obj_at h (i := i) (j := T.length) (by omega) (by rw [List.getElem?_append_left hil]; exact hi) (by simp)
  · have hil := (List.getElem?_eq_some_iff.1 hi).1
    have hjl := (List.getElem?_eq_some_iff.1 hj).1
    exact h.apart i j t u hij (by rw [List.getElem?_append_left hil]; exact hi) (by rw [List.getElem?_append_left hjl]; exact hj)

/-- An object is freed, and is none any more. -/
theorem OSt.freeAt {bs bs' : List UInt8} {hz z x k : Nat} {A : Nat → Nat} {L : List RC} {l l' : List Bk} {T : List Th} {q : Nat} {t : Th} (h : OSt bs 5 hz z x k A L l T) (hq : T[q]? = some t) (hf : Freed hz z l bs bs' t.at' l') : OSt bs' 5 hz z x k A L l' (T.take q ++ T.drop (q + 1)) := by
  have hget : ∀ i u, (T.take q ++ T.drop (q + 1))[i]? = some u → ∃ i', T[i']? = some u ∧ i' ≠ q ∧ ((i < q ∧ i' = i) ∨ (q ≤ i ∧ i' = i + 1)) := fun i u hi => by
    have hql := (List.getElem?_eq_some_iff.1 hq).1
    have htl : (T.take q).length = q := by rw [List.length_take]; omega
    rcases Nat.lt_or_ge i q with h1 | h1
    · rw [List.getElem?_append_left (by omega), List.getElem?_take_of_lt h1] at hi
      exact ⟨i, hi, by omega, .inl ⟨h1, rfl⟩⟩
    · rw [List.getElem?_append_right (by omega), htl, List.getElem?_drop] at hi
      exact ⟨i + 1, by rw [show i + 1 = q + 1 + (i - q) by omega]; exact hi, by omega, .inr ⟨h1, rfl⟩⟩
  refine h.free hf (fun u hu => ?_) (fun i j u v hij hi hj => ?_)
  · obtain ⟨i, hi⟩ := List.mem_iff_getElem?.1 hu
    obtain ⟨i', h1, h2, _⟩ := hget i u hi
    exact ⟨List.mem_of_getElem? h1, no_obj_at h h2 h1 hq⟩
  · obtain ⟨i', h1, _, h2⟩ := hget i u hi
    obtain ⟨j', g1, _, g2⟩ := hget j v hj
    exact h.apart i' j' u v (by omega) h1 g1

theorem thcells_append (T T' : List Th) : thcells (T ++ T') = thcells T ++ thcells T' := by simp [thcells]
theorem thcells_take (T : List Th) (q : Nat) : thcells (T.take q) = (thcells T).take (q * 3) := by
  induction T generalizing q with
  | nil => simp [thcells]
  | cons t T ih =>
    cases q with
    | zero => simp [thcells]
    | succ q =>
      have e : ∀ t T, thcells (t :: T) = [.int .i64 (t.at' : Nat), .int .i64 (t.cls : Nat), .string ⟨t.txt.toArray⟩] ++ thcells T := fun t T => by simp [thcells]
      rw [List.take_succ_cons, e, e, ih, show (q + 1) * 3 = q * 3 + 3 by omega]
      rfl
theorem thcells_drop (T : List Th) (q : Nat) : thcells (T.drop q) = (thcells T).drop (q * 3) := by
  induction T generalizing q with
  | nil => simp [thcells]
  | cons t T ih =>
    cases q with
    | zero => simp [thcells]
    | succ q =>
      have e : ∀ t T, thcells (t :: T) = [.int .i64 (t.at' : Nat), .int .i64 (t.cls : Nat), .string ⟨t.txt.toArray⟩] ++ thcells T := fun t T => by simp [thcells]
      rw [List.drop_succ_cons, e, ih, show (q + 1) * 3 = q * 3 + 3 by omega]
      rfl
theorem thcells_one (T : List Th) : ∀ u ∈ thcells T, u.oneCell' = true := by
  intro u hu
  obtain ⟨t, _, hu⟩ := List.mem_flatMap.1 hu
  simp only [List.mem_cons, List.not_mem_nil, or_false] at hu
  rcases hu with rfl | rfl | rfl <;> rfl

/-- What the statement's walk through the objects reads. -/
theorem things_read {w : World} {B : Nat} {o : Option Addr} {c : Nat} {T : List Th} (h : w.ownsRow B 95 3 (.slice o T.length c) T.length (thcells T)) :
    (T = [] ∧ c = 0) ∨ ∃ gT, o = some ⟨gT, 0, none⟩ ∧ B ≤ gT ∧ T.length ≤ c ∧ c ≤ maxLen ∧ (∃ cs, w.heap[gT]? = some (.cells cs 95 (0, 0))) ∧
      ∀ i t, T[i]? = some t → w.cell? ⟨gT, i * 3, none⟩ = some (.int .i64 (t.at' : Nat)) ∧ w.cell? ⟨gT, i * 3 + 1, none⟩ = some (.int .i64 (t.cls : Nat)) ∧ w.cell? ⟨gT, i * 3 + 2, none⟩ = some (.string ⟨t.txt.toArray⟩) := by
  rcases h.2 with ⟨e, el⟩ | ⟨g', cap, cur, e, hb, hg, h1, h2, _⟩
  · simp only [Value.slice.injEq] at e
    exact .inl ⟨List.length_eq_zero_iff.1 el, e.2.2⟩
  · simp only [Value.slice.injEq, true_and] at e
    obtain ⟨rfl, rfl⟩ := e
    refine .inr ⟨g', rfl, hb, h1, h2, ⟨cur, hg⟩, fun i t ht => ?_⟩
    obtain ⟨d0, d1, d2⟩ := thcells_get T i t ht
    have hh := owns_holds h ⟨g', 0, none⟩ rfl
    have k0 := hh _ _ d0
    have k1 := hh _ _ d1
    have k2 := hh _ _ d2
    rw [addr_add'] at k0 k1 k2
    exact ⟨k0, k1, k2⟩
end Go.Proofs.Ytajeiccfgnpbpaa.Mem

/- Contracts: Allot of a space; an object in a space. -/
namespace Go.Proofs.Ytajeiccfgnpbpaa.Mem
open Go.RowKit

set_option maxRecDepth 100000 in
set_option maxHeartbeats 1000000 in
theorem sallot_ok (b p g a z x n : Nat) (bs : List UInt8) (w : World) (h : Sat w b p g a z x bs) (hn : x + n ≤ z) :
    Calls Try.prog 114 #[.pointer (some ⟨b, 0, none⟩), .int .i64 (n : Nat)] w fun e w' => e = .returned (.int .i64 0) ∧ Sat w' b p g a z (x + n) bs ∧ Fr (fun j => j = b) w w' := by
  obtain ⟨h0, h1, h2, h3⟩ := h.cells
  have hf := h.free 3
  have hb := h.bd
  have HM := Lib.hid (fun k => Sat.move (show Sat (w.drewN k) b p g a z x bs from h) (x + n) (by omega) (by omega))
  have hbd : x ≤ 1048576 ∧ a ≤ 1048576 ∧ z ≤ 1048576 ∧ n ≤ 1048576 := by omega
  have c1 : decide ((z : Int) - x < n) = false := decide_eq_false (by omega)
  have c2 : decide ((n : Int) < (a : Int) - x) = false := decide_eq_false (by omega)
  clear h
  go_enter Try.func114, Try.ntmps114
  go_wp2_with fail
  go_quiet (fail)
  go_wp2_with fail
  go_ret
  exact ⟨rfl, by simpa using HM.out nq, ((Fr.refl _ w).drewN nq).setOne _ _⟩

set_option maxRecDepth 100000 in
set_option maxHeartbeats 1000000 in
theorem sallot_full (b p g a z x n : Nat) (bs : List UInt8) (w : World) (h : Sat w b p g a z x bs) (hn : ¬ x + n ≤ z) (hn2 : n ≤ 1048576) :
    Calls Try.prog 114 #[.pointer (some ⟨b, 0, none⟩), .int .i64 (n : Nat)] w fun e w' => e = .returned (.int .i64 (-8)) ∧ Fr (fun _ => False) w w' := by
  obtain ⟨h0, h1, h2, h3⟩ := h.cells
  have hb := h.bd
  have hbd : x ≤ 1048576 ∧ a ≤ 1048576 ∧ z ≤ 1048576 := by omega
  have c1 : (z : Int) - x < n := by omega
  clear h
  go_enter Try.func114, Try.ntmps114
  go_wp2_with fail
  go_quiet (fail)
  go_wp2_with fail
  go_ret
  exact ⟨rfl, (Fr.refl _ w).drewN nq⟩

set_option maxRecDepth 100000 in
set_option maxHeartbeats 1000000 in
theorem oallot_ok (b p g a z x n : Nat) (bs : List UInt8) (w : World) (h : Sat w b p g a z x bs) (h8 : x % 8 = 0) (hn : x + n ≤ z) :
    Calls Try.prog 92 #[.pointer (some ⟨b, 0, none⟩), .int .i64 (n : Nat)] w fun e w' => e = .returned (.tuple #[.int .i64 (x : Nat), .int .i64 0]) ∧ Sat w' b p g a z (x + n) bs ∧ Fr (fun j => j = b) w w' := by
  have HA := Lib.hid (align_ok b p g a z x bs w h h8)
  have HR := Lib.hid (here_any b p g a z x bs w h)
  have HL := Lib.hid (sallot_ok b p g a z x n bs w h hn)
  clear h
  go_enter Try.func92, Try.ntmps92
  go_wp2_with (first | (go_at_call 101; refine HA.out.mono ?_; rintro e w' ⟨rfl, h0⟩; obtain rfl := h0.symm) | (go_at_call 21; refine HR.out.mono ?_; rintro e w' ⟨rfl, h0⟩; obtain rfl := h0.symm) | (go_at_call 114; refine HL.out.mono ?_; rintro e w2 ⟨rfl, hm, hf⟩; have M2 := Lib.hid hm; have F2 := Lib.hid hf; clear hm hf))
  go_ret2
  exact ⟨rfl, M2.out, F2.out⟩

set_option maxRecDepth 100000 in
set_option maxHeartbeats 1000000 in
theorem oallot_full (b p g a z x n : Nat) (bs : List UInt8) (w : World) (h : Sat w b p g a z x bs) (h8 : x % 8 = 0) (hn : ¬ x + n ≤ z) (hn2 : n ≤ 1048576) :
    Calls Try.prog 92 #[.pointer (some ⟨b, 0, none⟩), .int .i64 (n : Nat)] w fun e w' => e = .returned (.tuple #[.int .i64 (x : Nat), .int .i64 (-8)]) ∧ Fr (fun _ => False) w w' := by
  have HA := Lib.hid (align_ok b p g a z x bs w h h8)
  have HR := Lib.hid (here_any b p g a z x bs w h)
  have HL := Lib.hid (sallot_full b p g a z x n bs w h hn hn2)
  clear h
  go_enter Try.func92, Try.ntmps92
  go_wp2_with (first | (go_at_call 101; refine HA.out.mono ?_; rintro e w' ⟨rfl, h0⟩; obtain rfl := h0.symm) | (go_at_call 21; refine HR.out.mono ?_; rintro e w' ⟨rfl, h0⟩; obtain rfl := h0.symm) | (go_at_call 114; refine HL.out.mono ?_; rintro e w2 ⟨rfl, hf⟩; have F2 := Lib.hid hf; clear hf))
  go_ret2
  exact ⟨rfl, F2.out⟩

/-- What an object in a space leaves. -/
def ODictPost (b p g a z x : Nat) (bs : List UInt8) (c : Int) (n : Nat) (e : Ending) (w' : World) : Prop :=
  (¬ x + n ≤ z ∧ e = .returned (.tuple #[.int .i64 0, .int .i64 (-8)]) ∧ Sat w' b p g a z x bs) ∨
    (x + n ≤ z ∧ e = .returned (.tuple #[.int .i64 (x : Nat), .int .i64 0]) ∧ Sat w' b p g a z (x + n) (sett (setc bs x c) ((x : Int) + 8) (List.replicate (n - 8) 0)))

set_option maxRecDepth 100000 in
set_option maxHeartbeats 2000000 in
theorem odict_any (b p g a z x : Nat) (bs : List UInt8) (c : Int) (n : Nat) (w : World) (h : Sat w b p g a z x bs) (h8 : x % 8 = 0) (hc : -9223372036854775808 ≤ c ∧ c ≤ 9223372036854775807) (hs : sizev bs c = ((n : Int), 0)) :
    Calls Try.prog 42 #[.pointer (some ⟨b, 0, none⟩), .int .i64 c] w fun e w' => ODictPost b p g a z x bs c n e w' ∧ Both b g w w' := by
  obtain ⟨q0, q1, q2, q3⟩ := h.cells
  have hsz := sizeOf_any p g bs c w h.mat hc
  have hbd := @sizev_bd bs c (by rw [hs])
  rw [hs] at hsz hbd
  dsimp only at hsz hbd
  have HS := Lib.hid hsz
  have H := Lib.hid h
  have hb := h.bd
  have hl := h.lt
  have hbp : b ≠ p := h.1
  have hbg : b ≠ g := h.2.1
  clear hsz hs h
  by_cases hn : x + n ≤ z
  · have HA := Lib.hid (fun w h => oallot_ok b p g a z x n bs w h h8 hn)
    have hol := olay_ok bs (x : Int) c n (by omega) (by omega) (by omega) (by omega)
    have HY : ∀ w, Mat 108 w p g bs → _ := fun w h => olay_any p g bs (x : Int) c n w h (by omega)
    rw [hol] at HY
    dsimp only at HY
    have HYY := Lib.hid HY
    clear hol HY
    go_enter Try.func42, Try.ntmps42
    go_wp2_with (first | (go_at_call 88; refine HS.out.mono ?_; rintro e w1 ⟨rfl, hf⟩; have F1 := Lib.hid hf; clear hf) | (go_at_call 21; refine (here_any b p g a z x bs _ (H.out.fr F1.out id id id)).mono ?_; rintro e w' ⟨rfl, h0⟩; obtain rfl := h0.symm))
    refine (HA.out _ (H.out.fr F1.out id id id)).mono ?_
    rintro e w2 ⟨rfl, hm, hf⟩
    have M2 := Lib.hid hm
    obtain ⟨k0, _, _, _⟩ := hm.cells
    have F2 := Lib.hid ((Fr.some F1.out fun _ e => e.elim).trans hf)
    clear hm hf
    go_wp2_with fail
    refine (HYY.out _ M2.out.mat).mono ?_
    rintro e w3 ⟨rfl, hm, hf⟩
    have M3 := Lib.hid (M2.out.wrote hf hm (by rw [sett_length, setc_length]))
    have F3 := Lib.hid ((F2.out.mono (T := fun j => j = b ∨ j = g) fun _ _ e => .inl e).trans (hf.mono fun _ _ e => .inr e))
    clear hm hf
    go_wp2_with fail
    go_ret2
    exact ⟨.inr ⟨hn, rfl, M3.out⟩, F3.out⟩
  · have HA := Lib.hid (fun w h => oallot_full b p g a z x n bs w h h8 hn (by omega))
    have HN := Lib.hid hn
    clear hn
    go_enter Try.func42, Try.ntmps42
    go_wp2_with (first | (go_at_call 88; refine HS.out.mono ?_; rintro e w1 ⟨rfl, hf⟩; have F1 := Lib.hid hf; clear hf) | (go_at_call 21; refine (here_any b p g a z x bs _ (H.out.fr F1.out id id id)).mono ?_; rintro e w' ⟨rfl, h0⟩; obtain rfl := h0.symm) | (go_at_call 92; refine (HA.out _ (H.out.fr F1.out id id id)).mono ?_; rintro e w2 ⟨rfl, hf⟩; have F1' := Lib.hid (F1.out.trans hf); clear hf))
    refine (back_ok b p g a z x x bs _ (H.out.fr F1'.out id id id) hb.1 (Nat.le_refl _)).mono ?_
    rintro e w3 ⟨rfl, hm, hf⟩
    have M2 := Lib.hid hm
    have F2 := Lib.hid (((Fr.some F1'.out fun _ e => e.elim).trans hf).mono (T := fun j => j = b ∨ j = g) fun _ _ e => .inl e)
    clear hm hf
    go_wp2_with fail
    go_ret2
    exact ⟨.inl ⟨HN.out, rfl, M2.out⟩, F2.out⟩
end Go.Proofs.Ytajeiccfgnpbpaa.Mem

/- The statement ObjectSends: what it asks behind each act, of objects in a slice of the call's own; states behind a store. -/
namespace Go.Proofs.Ytajeiccfgnpbpaa.Mem
open Go.RowKit
attribute [local go_sem ↓] Go.wp_at_zero Go.wp_at_succ

set_option maxRecDepth 100000 in
set_option maxHeartbeats 2000000 in
theorem holds_nil (o : Option Addr) (c : Nat) (wb : Nat) (sel : Int) (w : World) :
    Calls Try.prog 45 #[.pointer (some ⟨wb, 0, none⟩), .slice o 0 c, .int .i64 sel] w fun e w' => e = .returned (.bool true) ∧ Fr (fun _ => False) w w' := by
  go_enter Try.func45, Try.ntmps45
  go_wp2_with fail
  go_loopw [23] (fun iv wr => iv = .int .i64 0 ∧ wr = w) (fun _ _ => 0)
  case atStart => exact ⟨rfl, rfl⟩
  case round =>
    obtain ⟨rfl, rfl⟩ := hrel
    go_wp2_with fail
    go_ret
    exact ⟨rfl, Fr.refl _ _⟩

theorem holds_own {wb B p g b k x : Nat} {A : Nat → Nat} {L : List RC} {l : List Bk} {T : List Th} {bs : List UInt8} {v : Value} (sel : Int) (w : World) (h : OW wb B p g b k A L l T bs x w) (ho : w.ownsRow B 95 3 v T.length (thcells T)) (hn : T.length ≤ 64)
    (hfew : ∀ j (h : j < L.length), L[j].own.length ≤ 64) (hk64 : k ≤ 64) :
    Calls Try.prog 45 #[.pointer (some ⟨wb, 0, none⟩), v, .int .i64 sel] w fun e w' => e = .returned (.bool true) ∧ Fr (fun _ => False) w w' := by
  obtain ⟨o, c, rfl, h1, h2, _, _⟩ := owns_form ho
  rcases things_read ho with ⟨rfl, _⟩ | ⟨gT, rfl, _, h3, h4, _, h5⟩
  · exact holds_nil o c wb sel w
  · exact holds_any gT c sel w h h5 hn h3 h4 hfew hk64

theorem rows4_setsz (L : List RC) (vs : Nat → Value) (c : Nat) (v : Int) (hc : c < L.length) : (rows4 (r4 L vs)).set (c * 4 + 1) (.int .i64 v) = rows4 (r4 (setSz L c v) vs) := by
  apply List.ext_getElem?
  intro x
  rw [List.getElem?_set]
  by_cases hx : x / 4 < L.length
  · have e := Nat.div_add_mod x 4
    have hj : x % 4 < 4 := Nat.mod_lt _ (by omega)
    obtain ⟨k, hk⟩ : ∃ k, x / 4 = k := ⟨_, rfl⟩
    obtain ⟨j, hjj⟩ : ∃ j, x % 4 = j := ⟨_, rfl⟩
    rw [hk] at hx e
    rw [hjj] at hj e
    obtain rfl : x = k * 4 + j := by omega
    clear e hk hjj
    have hk2 : k < (setSz L c v).length := by rw [setSz_length]; exact hx
    rw [rows4_get _ _ _ _ (r4_get L vs k hx) hj, rows4_get _ _ _ _ (r4_get _ _ k hk2) hj, setSz_el L c v k hk2 hx]
    by_cases hkc : k = c
    · subst hkc
      simp only [if_true]
      by_cases hj3 : j = 1
      · subst hj3
        rw [if_pos rfl, if_pos (by rw [rows4_len, r4_len]; omega)]
        rfl
      · rw [if_neg (by omega)]
        rcases (by omega : j = 0 ∨ j = 2 ∨ j = 3) with rfl | rfl | rfl <;> rfl
    · rw [if_neg (by omega), if_neg hkc]
  · rw [if_neg (by omega), List.getElem?_eq_none (by rw [rows4_len, r4_len]; omega), List.getElem?_eq_none (by rw [rows4_len, r4_len, setSz_length]; omega)]

/-- A world whose list of classes was stored. -/
theorem ow_stored {wb B p g b k x gA cA gL cL : Nat} {A : Nat → Nat} {L : List RC} {l : List Bk} {T : List Th} {bs : List UInt8} {vs : Nat → Value} {v0 : Value} {w : World}
    (hob : w.heap[wb]? = some (.cells #[.pointer (some ⟨p, 0, none⟩), .pointer (some ⟨b, 0, none⟩), .int .i64 8, .slice (some ⟨gA, 0, none⟩) k cA, v0] 56 (0, 0)))
    (hs : Sat w b p g 16 16384 x bs) (hst : OSt bs 5 16384 32768 x k A L l T) (hone : ∀ j, (vs j).oneCell' = true) (hown : ∀ j (h : j < L.length), OwnR w (vs j) L[j].own)
    (hk0 : 0 < k) (hne : gA ≠ gL) (hoA : w.ownsRow B 2 1 (.slice (some ⟨gA, 0, none⟩) k cA) k ((ats A k).map (.int .i64))) (hoL : w.ownsRow B 90 4 (.slice (some ⟨gL, 0, none⟩) k cL) k (rows4 (r4 L vs))) (hd : wb ≠ b ∧ wb ≠ p ∧ wb ≠ g ∧ wb < B) :
    OW wb B p g b k A L l T bs x (w.setCell ⟨wb, 4, none⟩ (.slice (some ⟨gL, 0, none⟩) k cL)) := by
  have f : Fr (fun j => j = wb) w (w.setCell ⟨wb, 4, none⟩ (.slice (some ⟨gL, 0, none⟩) k cL)) := Fr.setOne (p := wb) (Fr.refl _ _) _ _
  refine ⟨vs, _, _, ?_, hs.fr f (fun e => hd.1 e.symm) (fun e => hd.2.1 e.symm) (fun e => hd.2.2.1 e.symm), hst, hone, fun j hj => (hown j hj).fr f (fun k cs hk e => by subst e; rw [hob] at hk; simp at hk), .inr ⟨hk0, gA, cA, gL, cL, rfl, rfl, hne, f.owns hoA (fun k hk e => ?_), f.owns hoL (fun k hk e => ?_)⟩⟩
  · have := heap_setCell_same w wb 4 _ _ (.slice (some ⟨gL, 0, none⟩) k cL) hob
    rw [this]
    rfl
  · have := (hoA.lt k hk).1
    subst e
    exact absurd this (by omega)
  · have := (hoL.lt k hk).1
    subst e
    exact absurd this (by omega)

/-- A world in which a class's size was stored. -/
theorem ow_sized {wb B p g b k x gA cA gL cL c : Nat} {v : Int} {A : Nat → Nat} {L : List RC} {l : List Bk} {T : List Th} {bs : List UInt8} {vs : Nat → Value} {w : World}
    (hob : w.heap[wb]? = some (.cells #[.pointer (some ⟨p, 0, none⟩), .pointer (some ⟨b, 0, none⟩), .int .i64 8, .slice (some ⟨gA, 0, none⟩) k cA, .slice (some ⟨gL, 0, none⟩) k cL] 56 (0, 0)))
    (hs : Sat w b p g 16 16384 x bs) (hst : OSt bs 5 16384 32768 x k A (setSz L c v) l T) (hone : ∀ j, (vs j).oneCell' = true) (hown : ∀ j (h : j < L.length), OwnR w (vs j) L[j].own) (hc : c < L.length)
    (hk0 : 0 < k) (hne : gA ≠ gL) (hoA : w.ownsRow B 2 1 (.slice (some ⟨gA, 0, none⟩) k cA) k ((ats A k).map (.int .i64))) (hoL : w.ownsRow B 90 4 (.slice (some ⟨gL, 0, none⟩) k cL) k (rows4 (r4 L vs))) (hd : wb < B ∧ b < B ∧ p < B ∧ g < B) :
    OW wb B p g b k A (setSz L c v) l T bs x (w.setCell ⟨gL, c * 4 + 1, none⟩ (.int .i64 v)) := by
  have f : Fr (fun j => j = gL) w (w.setCell ⟨gL, c * 4 + 1, none⟩ (.int .i64 v)) := Fr.setOne (p := gL) (Fr.refl _ _) _ _
  have hgL := (hoL.lt gL rfl).1
  obtain ⟨lcs, hLo⟩ := own_obj hoL
  have hst2 := (hoL.stored (c * 4 + 1) (.int .i64 v)).1
  rw [rows4_setsz L vs c v hc] at hst2
  refine ⟨vs, _, _, f.obj hob (fun e => by subst e; omega), hs.fr f (fun e => by subst e; omega) (fun e => by subst e; omega) (fun e => by subst e; omega), hst, hone, fun j hj => ?_, .inr ⟨hk0, gA, cA, gL, cL, rfl, rfl, hne, f.owns hoA (fun i hi e => ?_), hst2⟩⟩
  · have hjl : j < L.length := by rwa [setSz_length] at hj
    have : (setSz L c v)[j].own = L[j].own := by
      rw [setSz_el L c v j hj hjl]
      split <;> rfl
    rw [this]
    exact (hown j hjl).fr f (fun i cs hi e => by subst e; rw [hLo] at hi; simp at hi)
  · obtain rfl : gA = i := by simpa [Value.ownBlock] using hi
    exact hne e

theorem OSL.mono {wb B p g b hb mb j j' : Nat} {vT : Value} {w : World} (h : OSL wb B p g b hb mb j vT w) (hj : j ≤ j') : OSL wb B p g b hb mb j' vT w := by
  obtain ⟨k, A, L, l, T, bs, x, nn, U, h1, h2, h3, h4, h5, h6, h7, h8⟩ := h
  exact ⟨k, A, L, l, T, bs, x, nn, U, h1, h2, h3, h4, h5, by omega, h7.mono hj, h8⟩

theorem OSL.old {wb B p g b hb mb j : Nat} {vT : Value} {w w' : World} (h : OSL wb B p g b hb mb j vT w) (f : Fr (fun _ => False) w w') : OSL wb B p g b hb mb j vT w' := by
  obtain ⟨k, A, L, l, T, bs, x, nn, U, h1, h2, h3, h4, h5, h6, h7, h8⟩ := h
  exact ⟨k, A, L, l, T, bs, x, nn, U, h1.old f ⟨id, id, id, id⟩ (fun _ _ _ e => e.elim), f.obj h2 id, h3.fr f id, h4, f.owns h5 (fun _ _ => id), h6, h7, h8⟩
/-- What an object in a heap comes to. -/
def HeapGot (p g k c : Nat) (A : Nat → Nat) (L : List RC) (l : List Bk) (T : List Th) (bs : List UInt8) (x n : Nat) (w' : World) (atv fv : Int) : Prop :=
  (fv = -59 ∧ atv = 0 ∧ Mat 108 w' p g bs) ∨
    ∃ (a : Nat) (l' : List Bk) (bs' : List UInt8), fv = 0 ∧ atv = (a : Int) ∧ a ≤ 1048576 ∧ Mat 108 w' p g bs' ∧ bs'.length = bs.length ∧ OSt bs' 5 16384 32768 x k A L l' (T ++ [⟨a, c, List.replicate (n - 8) 0⟩]) ∧
      (∃ m, UsedAt 16384 l' a m) ∧ (∀ m, ¬ UsedAt 16384 l a m) ∧ (∀ y m, UsedAt 16384 l y m → UsedAt 16384 l' y m) ∧ (∀ y m, UsedAt 16384 l' y m → y = a ∨ UsedAt 16384 l y m)
theorem heap_got {p g x k c n : Nat} {A : Nat → Nat} {L : List RC} {l : List Bk} {T : List Th} {bs : List UInt8} {e : Ending} {w' : World} (h : OSt bs 5 16384 32768 x k A L l T) (hc : c < k) (hn8 : n % 8 = 0) (hn : 8 ≤ n) (hp : OHeapPost p g bs 16384 l ((A c : Nat) : Int) n e w') :
    ∃ atv fv : Int, e = .returned (.tuple #[.int .i64 atv, .int .i64 fv]) ∧ HeapGot p g k c A L l T bs x n w' atv fv := by
  rcases oheap_state h hc hn8 hn hp with ⟨e1, e2⟩ | ⟨a, l', bs', e1, h1, h2, h3, h4, h5, h6, h7, h8⟩
  · exact ⟨0, -59, e1, .inl ⟨rfl, rfl, e2⟩⟩
  · exact ⟨_, _, e1, .inr ⟨a, l', bs', rfl, rfl, h1, h2, h3, h4, h5, h6, h7, h8⟩⟩

/-- What an object in a space comes to. -/
def DictGot (b p g k c : Nat) (A : Nat → Nat) (L : List RC) (l : List Bk) (T : List Th) (bs : List UInt8) (x n : Nat) (w' : World) (atv fv : Int) : Prop :=
  (fv = -8 ∧ atv = 0 ∧ Sat w' b p g 16 16384 x bs) ∨
    ∃ (bs' : List UInt8), fv = 0 ∧ atv = (x : Int) ∧ Sat w' b p g 16 16384 (x + n) bs' ∧ OSt bs' 5 16384 32768 (x + n) k A L l (T ++ [⟨x, c, List.replicate (n - 8) 0⟩])
theorem dict_got {b p g x k c n : Nat} {A : Nat → Nat} {L : List RC} {l : List Bk} {T : List Th} {bs : List UInt8} {e : Ending} {w' : World} (h : OSt bs 5 16384 32768 x k A L l T) (hc : c < k) (hn8 : n % 8 = 0) (hn : 8 ≤ n) (hp : ODictPost b p g 16 16384 x bs ((A c : Nat) : Int) n e w') :
    ∃ atv fv : Int, e = .returned (.tuple #[.int .i64 atv, .int .i64 fv]) ∧ DictGot b p g k c A L l T bs x n w' atv fv := by
  rcases hp with ⟨_, e1, e2⟩ | ⟨h1, e1, e2⟩
  · exact ⟨0, -8, e1, .inl ⟨rfl, rfl, e2⟩⟩
  · exact ⟨_, _, e1, .inr ⟨_, rfl, rfl, e2, h.dictObj hc hn8 hn h1⟩⟩

theorem infoTh : (Try.prog.info? 95).map (fun i => (i.zero, i.size, i.bytes)) = some (some (.agg #[.int .i64 0, .int .i64 0, .string ⟨#[]⟩]), 3, 32) := by kernel_rfl
theorem th_new (w : World) (a c : Nat) (st : ByteArray) : ∀ j u, [Value.int .i64 (a : Nat), .int .i64 (c : Nat), .string st][j]? = some u → (w.alloc (.cells #[.int .i64 (a : Nat), .int .i64 (c : Nat), .string st] 95)).cell? ((⟨w.heap.size, 0, none⟩ : Addr).add j) = some u := by
  intro j u hu
  obtain ⟨h0, h1, h2, _⟩ := three_cells (heap_alloc_last w (.cells #[.int .i64 (a : Nat), .int .i64 (c : Nat), .string st] 95))
  rw [addr_add3]
  match j, hu with
  | 0, hu => rw [h0]; exact hu
  | 1, hu => rw [h1]; exact hu
  | 2, hu => rw [h2]; exact hu
theorem thcells_snoc (T : List Th) (a c : Nat) (tt : List UInt8) : thcells (T ++ [⟨a, c, tt⟩]) = thcells T ++ [.int .i64 (a : Nat), .int .i64 (c : Nat), .string ⟨tt.toArray⟩] := by simp [thcells]
theorem wf_nat (a : Nat) (h : a ≤ 1048576) : (Lit.int .i64 (a : Int)).wf = true := by
  simp [Lit.wf, IntKind.min, IntKind.max, IntKind.bits, IntKind.signed]
  omega
end Go.Proofs.Ytajeiccfgnpbpaa.Mem

/- The statement ObjectSends: a round of its walk, as a statement of its own (the frame written out). -/
namespace Go.Proofs.Ytajeiccfgnpbpaa.Mem
open Go.RowKit

/-- An act of the statement. -/
structure ActS where
  kind : Nat
  par : Nat
  cls : Nat
  sel : Nat
  xt : Nat
def ActS.ok (q : ActS) : Prop := q.kind ≤ 255 ∧ q.par ≤ 255 ∧ q.cls ≤ 255 ∧ q.sel ≤ 255 ∧ q.xt ≤ 255
def ActAt (W : World) (bb o : Nat) (q : ActS) : Prop :=
  W.cell? ⟨bb, o, none⟩ = some (.int .u8 (q.kind : Nat)) ∧ W.cell? ⟨bb, o + 1, none⟩ = some (.int .u8 (q.par : Nat)) ∧ W.cell? ⟨bb, o + 2, none⟩ = some (.int .u8 (q.cls : Nat)) ∧ W.cell? ⟨bb, o + 3, none⟩ = some (.int .u8 (q.sel : Nat)) ∧ W.cell? ⟨bb, o + 4, none⟩ = some (.int .u8 (q.xt : Nat))

def firstLoop : Code → Option Code
  | .loop c => some c
  | .seq a b => match firstLoop a with
    | some c => some c
    | none => firstLoop b
  | .block _ c => firstLoop c
  | .scope c => firstLoop c
  | .cond _ a b => match firstLoop a with
    | some c => some c
    | none => firstLoop b
  | _ => none
noncomputable def osBody : Code := (Try.f7.body.bind firstLoop).getD .skip

/-- What never changes. -/
structure OsFix (w : World) (wb B p g b hb mb : Nat) : Prop where
  wd : wb ≠ b ∧ wb ≠ p ∧ wb ≠ g
  lt : wb < B ∧ b < B ∧ p < B ∧ g < B
  hd : hb < B ∧ hb ≠ wb ∧ hb ≠ b ∧ hb ≠ g ∧ hb ≠ p
  md : mb ≠ wb ∧ mb ≠ b ∧ mb ≠ g ∧ mb ≠ p
  mB : mb < B ∧ B ≤ mb + 1
  old : w.heap.size ≤ wb ∧ w.heap.size ≤ b ∧ w.heap.size ≤ g ∧ w.heap.size ≤ mb ∧ w.heap.size ≤ B

/-- What stands ahead of a round. -/
structure OsIn (w wr : World) (wb B p g b hb mb j n bb o : Nat) (q : ActS) (vT : Value) (k : Nat) (A : Nat → Nat) (L : List RC) (l : List Bk) (T : List Th) (bs : List UInt8) (x nn : Nat) (U : Int → Bool) : Prop where
  ow : OW wb B p g b k A L l T bs x wr
  hh : Heap wr hb p 16384 32768
  mp : BMap wr mb nn U
  inh : InH l U
  ot : wr.ownsRow B 95 3 vT T.length (thcells T)
  le : k ≤ j ∧ nn ≤ j ∧ T.length ≤ j
  few : FewS j L
  x0 : k = 0 → x = 16
  fr : Fr (fun _ => False) w wr
  act : ActAt wr bb (o + j * 5) q
  ok : q.ok
  jn : j < n ∧ n ≤ 60

set_option maxRecDepth 1000000 in
/-- A round, of acts that C tells. -/
def OsRound (C : Nat → Nat → Prop) : Prop :=
  ∀ (w wr : World) (wb B p g b hb mb j n bb o c : Nat) (q : ActS) (vT : Value) (k : Nat) (A : Nat → Nat) (L : List RC) (l : List Bk) (T : List Th) (bs : List UInt8) (x nn : Nat) (U : Int → Bool) (c0 c1 c5 c21 c22 c23 c24 c25 c26 c27 c28 c29 c30 c31 c32 c33 c34 c35 c36 c37 c38 c39 c40 c41 c42 c43 c44 c45 c46 c47 c48 u2 u8 u9 u10 u11 u12 u13 u14 u15 u16 u17 u18 u19 u20 u52 u53 u54 u55 u56 u57 u58 u59 u60 u61 u62 u63 u64 u65 u66 u67 u68 u69 u70 u71 u72 u73 u74 u75 u76 u77 u78 u79 u80 u81 u82 u83 u84 u85 u86 u87 u88 u89 u90 u91 u92 u93 u94 u95 u96 u97 u98 u99 u100 u101 u102 u103 u104 u105 u106 u107 u108 u109 u110 u111 u112 u113 u114 u115 u116 u117 u118 u119 u120 u121 u122 u123 u124 u125 u126 u127 u128 u129 u130 u131 u132 u133 u134 u135 u136 u137 u138 u139 u140 u141 u142 u143 u144 u145 u146 u147 u148 u149 u150 u151 u152 u153 u154 u155 u156 u157 u158 u159 u160 u161 u162 u163 u164 u165 u166 u167 u168 u169 u170 u171 u172 u173 u174 u175 u176 u177 u178 u179 u180 u181 u182 u183 u184 u185 u186 u187 u188 u189 u190 u191 u192 u193 u194 u195 u196 u197 u198 u199 u200 u201 u202 u203 u204 u205 u206 u207 u208 u209 u210 u211 u212 u213 u214 u215 u216 u217 u218 u219 u220 u221 u222 u223 u224 u225 u226 u227 u228 u229 u230 u231 u232 u233 u234 u235 u236 u237 u238 u239 u240 u241 u242 u243 u244 u245 u246 u247 u248 u249 u250 u251 u252 u253 u254 u255 u256 u257 u258 u259 u260 u261 u262 u263 u264 u265 u266 u267 u268 u269 u270 u271 u272 u273 u274 u275 u276 u277 u278 u279 u280 u281 u282 u283 u284 u285 u286 u287 u288 u289 u290 u291 u292 u293 u294 u295 u296 u297 u298 u299 u300 u301 u302 u303 u304 u305 u306 u307 u308 u309 u310 u311 u312 u313 u314 u315 u316 u317 u318 u319 u320 u321 u322 u323 u324 u325 u326 u327 : Value) (Q : Exit → Act → World → Prop),
    OsFix w wb B p g b hb mb → OsIn w wr wb B p g b hb mb j n bb o q vT k A L l T bs x nn U → C q.kind k →
    (∀ (vT' : Value) (w' : World) (v2 v8 v9 v10 v11 v12 v13 v14 v15 v16 v17 v18 v19 v20 v52 v53 v54 v55 v56 v57 v58 v59 v60 v61 v62 v63 v64 v65 v66 v67 v68 v69 v70 v71 v72 v73 v74 v75 v76 v77 v78 v79 v80 v81 v82 v83 v84 v85 v86 v87 v88 v89 v90 v91 v92 v93 v94 v95 v96 v97 v98 v99 v100 v101 v102 v103 v104 v105 v106 v107 v108 v109 v110 v111 v112 v113 v114 v115 v116 v117 v118 v119 v120 v121 v122 v123 v124 v125 v126 v127 v128 v129 v130 v131 v132 v133 v134 v135 v136 v137 v138 v139 v140 v141 v142 v143 v144 v145 v146 v147 v148 v149 v150 v151 v152 v153 v154 v155 v156 v157 v158 v159 v160 v161 v162 v163 v164 v165 v166 v167 v168 v169 v170 v171 v172 v173 v174 v175 v176 v177 v178 v179 v180 v181 v182 v183 v184 v185 v186 v187 v188 v189 v190 v191 v192 v193 v194 v195 v196 v197 v198 v199 v200 v201 v202 v203 v204 v205 v206 v207 v208 v209 v210 v211 v212 v213 v214 v215 v216 v217 v218 v219 v220 v221 v222 v223 v224 v225 v226 v227 v228 v229 v230 v231 v232 v233 v234 v235 v236 v237 v238 v239 v240 v241 v242 v243 v244 v245 v246 v247 v248 v249 v250 v251 v252 v253 v254 v255 v256 v257 v258 v259 v260 v261 v262 v263 v264 v265 v266 v267 v268 v269 v270 v271 v272 v273 v274 v275 v276 v277 v278 v279 v280 v281 v282 v283 v284 v285 v286 v287 v288 v289 v290 v291 v292 v293 v294 v295 v296 v297 v298 v299 v300 v301 v302 v303 v304 v305 v306 v307 v308 v309 v310 v311 v312 v313 v314 v315 v316 v317 v318 v319 v320 v321 v322 v323 v324 v325 v326 v327 : Value), OSL wb B p g b hb mb (j + 1) vT' w' → Fr (fun _ => False) w w' → Q .normal ⟨⟨c0 :: c1 :: v2 :: .pointer (some ⟨wb, 0, none⟩) :: .pointer (some ⟨hb, 0, none⟩) :: c5 :: vT' :: .map (some mb) :: v8 :: v9 :: v10 :: v11 :: v12 :: v13 :: v14 :: v15 :: v16 :: v17 :: v18 :: v19 :: v20 :: c21 :: c22 :: c23 :: c24 :: c25 :: c26 :: c27 :: c28 :: c29 :: c30 :: c31 :: c32 :: c33 :: c34 :: c35 :: c36 :: c37 :: c38 :: c39 :: c40 :: c41 :: c42 :: c43 :: c44 :: c45 :: c46 :: c47 :: c48 :: .slice (some ⟨bb, o, none⟩) n c :: .int .i64 (n : Nat) :: .int .i64 ((j + 1 : Nat) : Int) :: v52 :: v53 :: v54 :: v55 :: v56 :: v57 :: v58 :: v59 :: v60 :: v61 :: v62 :: v63 :: v64 :: v65 :: v66 :: v67 :: v68 :: v69 :: v70 :: v71 :: v72 :: v73 :: v74 :: v75 :: v76 :: v77 :: v78 :: v79 :: v80 :: v81 :: v82 :: v83 :: v84 :: v85 :: v86 :: v87 :: v88 :: v89 :: v90 :: v91 :: v92 :: v93 :: v94 :: v95 :: v96 :: v97 :: v98 :: v99 :: v100 :: v101 :: v102 :: v103 :: v104 :: v105 :: v106 :: v107 :: v108 :: v109 :: v110 :: v111 :: v112 :: v113 :: v114 :: v115 :: v116 :: v117 :: v118 :: v119 :: v120 :: v121 :: v122 :: v123 :: v124 :: v125 :: v126 :: v127 :: v128 :: v129 :: v130 :: v131 :: v132 :: v133 :: v134 :: v135 :: v136 :: v137 :: v138 :: v139 :: v140 :: v141 :: v142 :: v143 :: v144 :: v145 :: v146 :: v147 :: v148 :: v149 :: v150 :: v151 :: v152 :: v153 :: v154 :: v155 :: v156 :: v157 :: v158 :: v159 :: v160 :: v161 :: v162 :: v163 :: v164 :: v165 :: v166 :: v167 :: v168 :: v169 :: v170 :: v171 :: v172 :: v173 :: v174 :: v175 :: v176 :: v177 :: v178 :: v179 :: v180 :: v181 :: v182 :: v183 :: v184 :: v185 :: v186 :: v187 :: v188 :: v189 :: v190 :: v191 :: v192 :: v193 :: v194 :: v195 :: v196 :: v197 :: v198 :: v199 :: v200 :: v201 :: v202 :: v203 :: v204 :: v205 :: v206 :: v207 :: v208 :: v209 :: v210 :: v211 :: v212 :: v213 :: v214 :: v215 :: v216 :: v217 :: v218 :: v219 :: v220 :: v221 :: v222 :: v223 :: v224 :: v225 :: v226 :: v227 :: v228 :: v229 :: v230 :: v231 :: v232 :: v233 :: v234 :: v235 :: v236 :: v237 :: v238 :: v239 :: v240 :: v241 :: v242 :: v243 :: v244 :: v245 :: v246 :: v247 :: v248 :: v249 :: v250 :: v251 :: v252 :: v253 :: v254 :: v255 :: v256 :: v257 :: v258 :: v259 :: v260 :: v261 :: v262 :: v263 :: v264 :: v265 :: v266 :: v267 :: v268 :: v269 :: v270 :: v271 :: v272 :: v273 :: v274 :: v275 :: v276 :: v277 :: v278 :: v279 :: v280 :: v281 :: v282 :: v283 :: v284 :: v285 :: v286 :: v287 :: v288 :: v289 :: v290 :: v291 :: v292 :: v293 :: v294 :: v295 :: v296 :: v297 :: v298 :: v299 :: v300 :: v301 :: v302 :: v303 :: v304 :: v305 :: v306 :: v307 :: v308 :: v309 :: v310 :: v311 :: v312 :: v313 :: v314 :: v315 :: v316 :: v317 :: v318 :: v319 :: v320 :: v321 :: v322 :: v323 :: v324 :: v325 :: v326 :: v327 :: []⟩, []⟩ w') →
    Code.wp Try.prog osBody Q ⟨⟨c0 :: c1 :: u2 :: .pointer (some ⟨wb, 0, none⟩) :: .pointer (some ⟨hb, 0, none⟩) :: c5 :: vT :: .map (some mb) :: u8 :: u9 :: u10 :: u11 :: u12 :: u13 :: u14 :: u15 :: u16 :: u17 :: u18 :: u19 :: u20 :: c21 :: c22 :: c23 :: c24 :: c25 :: c26 :: c27 :: c28 :: c29 :: c30 :: c31 :: c32 :: c33 :: c34 :: c35 :: c36 :: c37 :: c38 :: c39 :: c40 :: c41 :: c42 :: c43 :: c44 :: c45 :: c46 :: c47 :: c48 :: .slice (some ⟨bb, o, none⟩) n c :: .int .i64 (n : Nat) :: .int .i64 (j : Nat) :: u52 :: u53 :: u54 :: u55 :: u56 :: u57 :: u58 :: u59 :: u60 :: u61 :: u62 :: u63 :: u64 :: u65 :: u66 :: u67 :: u68 :: u69 :: u70 :: u71 :: u72 :: u73 :: u74 :: u75 :: u76 :: u77 :: u78 :: u79 :: u80 :: u81 :: u82 :: u83 :: u84 :: u85 :: u86 :: u87 :: u88 :: u89 :: u90 :: u91 :: u92 :: u93 :: u94 :: u95 :: u96 :: u97 :: u98 :: u99 :: u100 :: u101 :: u102 :: u103 :: u104 :: u105 :: u106 :: u107 :: u108 :: u109 :: u110 :: u111 :: u112 :: u113 :: u114 :: u115 :: u116 :: u117 :: u118 :: u119 :: u120 :: u121 :: u122 :: u123 :: u124 :: u125 :: u126 :: u127 :: u128 :: u129 :: u130 :: u131 :: u132 :: u133 :: u134 :: u135 :: u136 :: u137 :: u138 :: u139 :: u140 :: u141 :: u142 :: u143 :: u144 :: u145 :: u146 :: u147 :: u148 :: u149 :: u150 :: u151 :: u152 :: u153 :: u154 :: u155 :: u156 :: u157 :: u158 :: u159 :: u160 :: u161 :: u162 :: u163 :: u164 :: u165 :: u166 :: u167 :: u168 :: u169 :: u170 :: u171 :: u172 :: u173 :: u174 :: u175 :: u176 :: u177 :: u178 :: u179 :: u180 :: u181 :: u182 :: u183 :: u184 :: u185 :: u186 :: u187 :: u188 :: u189 :: u190 :: u191 :: u192 :: u193 :: u194 :: u195 :: u196 :: u197 :: u198 :: u199 :: u200 :: u201 :: u202 :: u203 :: u204 :: u205 :: u206 :: u207 :: u208 :: u209 :: u210 :: u211 :: u212 :: u213 :: u214 :: u215 :: u216 :: u217 :: u218 :: u219 :: u220 :: u221 :: u222 :: u223 :: u224 :: u225 :: u226 :: u227 :: u228 :: u229 :: u230 :: u231 :: u232 :: u233 :: u234 :: u235 :: u236 :: u237 :: u238 :: u239 :: u240 :: u241 :: u242 :: u243 :: u244 :: u245 :: u246 :: u247 :: u248 :: u249 :: u250 :: u251 :: u252 :: u253 :: u254 :: u255 :: u256 :: u257 :: u258 :: u259 :: u260 :: u261 :: u262 :: u263 :: u264 :: u265 :: u266 :: u267 :: u268 :: u269 :: u270 :: u271 :: u272 :: u273 :: u274 :: u275 :: u276 :: u277 :: u278 :: u279 :: u280 :: u281 :: u282 :: u283 :: u284 :: u285 :: u286 :: u287 :: u288 :: u289 :: u290 :: u291 :: u292 :: u293 :: u294 :: u295 :: u296 :: u297 :: u298 :: u299 :: u300 :: u301 :: u302 :: u303 :: u304 :: u305 :: u306 :: u307 :: u308 :: u309 :: u310 :: u311 :: u312 :: u313 :: u314 :: u315 :: u316 :: u317 :: u318 :: u319 :: u320 :: u321 :: u322 :: u323 :: u324 :: u325 :: u326 :: u327 :: []⟩, []⟩ wr
end Go.Proofs.Ytajeiccfgnpbpaa.Mem

/- The statement ObjectSends: small facts on objects in a slice, strings.Repeat of one byte, look-ups as equations. -/
namespace Go.Proofs.Ytajeiccfgnpbpaa.Mem
open Go.RowKit Go.Maps

theorem repeatL_b (b : UInt8) : ∀ k, Lib.repeatL [b] k = List.replicate k b
  | 0 => rfl
  | k + 1 => by rw [Lib.repeatL, repeatL_b b k]; rfl

theorem thcells_cons (t : Th) (T : List Th) : thcells (t :: T) = [.int .i64 (t.at' : Nat), .int .i64 (t.cls : Nat), .string ⟨t.txt.toArray⟩] ++ thcells T := by simp [thcells]
theorem thcells_set (T : List Th) (q : Nat) (a c : Nat) (tt t2 : List UInt8) (h : T[q]? = some ⟨a, c, tt⟩) : (thcells T).set (q * 3 + 2) (.string ⟨t2.toArray⟩) = thcells (T.set q ⟨a, c, t2⟩) := by
  induction T generalizing q with
  | nil => simp at h
  | cons t T ih =>
    cases q with
    | zero =>
      have : t = ⟨a, c, tt⟩ := by simpa using h
      subst this
      rw [List.set_cons_zero, thcells_cons, thcells_cons]
      rfl
    | succ q =>
      rw [List.set_cons_succ, thcells_cons, thcells_cons, ← ih q (by simpa using h), show (q + 1) * 3 + 2 = q * 3 + 2 + 3 by omega]
      rfl

/-- One byte in a new slice, as a text. -/
theorem conv_one (W : World) (q : Nat) (hq : q ≤ 255) : (convert 53 9 (.slice (some ⟨W.heap.size, 0, none⟩) 1 1)).run Try.prog (W.alloc (.cells #[.int .u8 (q : Int)] 5)) = .ok (.string ⟨#[UInt8.ofNat q]⟩) (W.alloc (.cells #[.int .u8 (q : Int)] 5)) := by
  have h := run_convert_bytes_arg (P := Try.prog) (W.alloc (.cells #[.int .u8 (q : Int)] 5)) 53 5 Try.underlying53 Try.underlying5 W.heap.size 0 1 1 [(q : Int)] rfl (fun i hi => by
    have hi0 : i = 0 := by simp at hi; omega
    subst hi0
    rw [cell_of_row _ _ _ _ _ _ (heap_alloc_last W (.cells #[.int .u8 (q : Int)] 5))]
    rfl) 9 Try.underlying9
  rw [h]
  simp [strOfNums]

theorem conv_two (W : World) (q : Nat) (hq : q ≤ 255) : (convert 53 9 (.slice (some ⟨W.heap.size, 0, none⟩) 1 1)).run Try.prog (W.alloc (.cells #[.int .u8 (q : Int)] 5)).drew = .ok (.string ⟨#[UInt8.ofNat q]⟩) (W.alloc (.cells #[.int .u8 (q : Int)] 5)).drew := by
  have h := run_convert_bytes_arg (P := Try.prog) (W.alloc (.cells #[.int .u8 (q : Int)] 5)).drew 53 5 Try.underlying53 Try.underlying5 W.heap.size 0 1 1 [(q : Int)] rfl (fun i hi => by
    have hi0 : i = 0 := by simp at hi; omega
    subst hi0
    show (W.alloc (.cells #[.int .u8 (q : Int)] 5)).cell? _ = _
    rw [cell_of_row _ _ _ _ _ _ (heap_alloc_last W (.cells #[.int .u8 (q : Int)] 5))]
    rfl) 9 Try.underlying9
  rw [h]
  simp [strOfNums]

theorem conv_gen (W : World) (nb q : Nat) (hq : q ≤ 255) (hc : W.cell? ⟨nb, 0, none⟩ = some (.int .u8 (q : Int))) : (convert 53 9 (.slice (some ⟨nb, 0, none⟩) 1 1)).run Try.prog W = .ok (.string ⟨#[UInt8.ofNat q]⟩) W := by
  have h := run_convert_bytes_arg (P := Try.prog) W 53 5 Try.underlying53 Try.underlying5 nb 0 1 1 [(q : Int)] rfl (fun i hi => by
    have hi0 : i = 0 := by simp at hi; omega
    subst hi0
    exact hc) 9 Try.underlying9
  rw [h]
  simp [strOfNums]

/-- A text in a cell, whatever it is. -/
def txt2 (gT o : Nat) (W : World) : ByteArray := match W.cell? ⟨gT, o, none⟩ with
  | some (.string s) => s
  | _ => ⟨#[]⟩
/-- A world as it was, or with a text stored. -/
def TxR (gT o : Nat) (st : ByteArray) (wB W : World) : Prop := Fr (fun _ => False) wB W ∨ ∃ W0, Fr (fun _ => False) wB W0 ∧ W = W0.setCell ⟨gT, o, none⟩ (.string st)
theorem TxR.fr {gT o : Nat} {st : ByteArray} {wB W : World} (h : TxR gT o st wB W) : Fr (fun j => j = gT) wB W := by
  rcases h with h | ⟨W0, h, rfl⟩
  · exact Fr.some h fun _ e => e.elim
  · exact Fr.setCell (S := fun j => j = gT) (p := ⟨gT, o, none⟩) (Fr.some h fun _ e => e.elim) (.inr rfl) _
theorem TxR.cell {gT o tl : Nat} {st s0 : ByteArray} {wB W : World} {cs : Array Value} {t : TypeId} (h : TxR gT o st wB W) (hg : wB.heap[gT]? = some (.cells cs t (0, 0))) (h0 : wB.cell? ⟨gT, o, none⟩ = some (.string s0)) (hs0 : s0.size = tl) (hst : st.size = tl) :
    W.cell? ⟨gT, o, none⟩ = some (.string (txt2 gT o W)) ∧ (txt2 gT o W).size = tl := by
  have key : ∃ s, W.cell? ⟨gT, o, none⟩ = some (.string s) ∧ s.size = tl := by
    rcases h with h | ⟨W0, h, rfl⟩
    · exact ⟨s0, h.cell h0 id, hs0⟩
    · have hg0 := h.obj hg id
      have hsz : o < cs.size := by
        rw [cell_of_row _ _ _ _ _ _ hg] at h0
        exact (Array.getElem?_eq_some_iff.1 h0).1
      refine ⟨st, ?_, hst⟩
      rw [cell_of_row _ _ _ _ _ _ (heap_setCell_same W0 gT o _ _ (.string st) hg0)]
      simp [hsz]
  obtain ⟨s, h1, h2⟩ := key
  have : txt2 gT o W = s := by unfold txt2; rw [h1]
  rw [this]
  exact ⟨h1, h2⟩

theorem TxR.frz {gT o : Nat} {st : ByteArray} {wB W : World} {cs : Array Value} {t : TypeId} (h : TxR gT o st wB W) (hg : wB.heap[gT]? = some (.cells cs t (0, 0))) : W.frozen? ⟨gT, o, none⟩ = false := by
  rcases h with h | ⟨W0, h, rfl⟩
  · exact frozen_of_row _ _ _ _ _ (h.obj hg id)
  · exact frozen_of_row _ _ _ _ _ (heap_setCell_same W0 gT o _ _ (.string st) (h.obj hg id))

/-- A look-up as an equation. -/
theorem BMap.run {w : World} {mb nn : Nat} {U : Int → Bool} (h : BMap w mb nn U) (y : Int) (hy : (Lit.int .i64 y).wf = true) : (Instr.lookup 85 (.map (some mb)) (.int .i64 y) false).run Try.prog w = .ok (.bool (U y)) w := by
  obtain ⟨D, hD, _, hU⟩ := h
  obtain ⟨v, ps, hrun, hv⟩ := hD.lookup lawKey Try.underlying85 (z := .bool false) (by kernel_rfl) (plainElem_bool Try.underlying4 false) (keyOf_int_mk Try.underlying2 hy)
  rw [hU] at hv
  obtain rfl := plainBool_inv hv
  exact hrun

/-- What Free comes to. -/
def FreeGot (p g a : Nat) (l : List Bk) (bs : List UInt8) (U : Int → Bool) (w' : World) (fv : Int) : Prop :=
  (fv = -60 ∧ U (a : Int) = false ∧ Mat 108 w' p g bs) ∨ (fv = 0 ∧ U (a : Int) = true ∧ ∃ (l' : List Bk) (bs' : List UInt8), Mat 108 w' p g bs' ∧ bs'.length = bs.length ∧ Freed 16384 32768 l bs bs' a l')
theorem free_got {p g x k : Nat} {A : Nat → Nat} {L : List RC} {l : List Bk} {T : List Th} {bs : List UInt8} {U : Int → Bool} {e : Ending} {w' : World} {a : Nat} (h : OSt bs 5 16384 32768 x k A L l T) (hU : InH l U) (hp : FreePost p g bs 16384 l ((a : Nat) : Int) e w') :
    ∃ fv : Int, e = .returned (.int .i64 fv) ∧ FreeGot p g a l bs U w' fv := by
  rcases free_state h hp with ⟨e1, e2, e3⟩ | ⟨⟨m, e0⟩, l', bs', e1, e2, e3, e4⟩
  · refine ⟨-60, e1, .inl ⟨rfl, ?_, e2⟩⟩
    cases hu : U (a : Int) with
    | false => rfl
    | true =>
      obtain ⟨q, m, e, hm⟩ := (hU _).1 hu
      obtain rfl : a = q := by omega
      exact absurd hm (e3 m)
  · exact ⟨0, e1, .inr ⟨rfl, (hU _).2 ⟨a, m, rfl, e0⟩, l', bs', e2, e3, e4⟩⟩

set_option maxRecDepth 1000000 in
/-- A round, of acts that C tells, and objects that D tells. -/
def OsRoundT (D : List Th → Prop) (C : Nat → Nat → Prop) : Prop :=
  ∀ (w wr : World) (wb B p g b hb mb j n bb o c : Nat) (q : ActS) (vT : Value) (k : Nat) (A : Nat → Nat) (L : List RC) (l : List Bk) (T : List Th) (bs : List UInt8) (x nn : Nat) (U : Int → Bool) (c0 c1 c5 c21 c22 c23 c24 c25 c26 c27 c28 c29 c30 c31 c32 c33 c34 c35 c36 c37 c38 c39 c40 c41 c42 c43 c44 c45 c46 c47 c48 u2 u8 u9 u10 u11 u12 u13 u14 u15 u16 u17 u18 u19 u20 u52 u53 u54 u55 u56 u57 u58 u59 u60 u61 u62 u63 u64 u65 u66 u67 u68 u69 u70 u71 u72 u73 u74 u75 u76 u77 u78 u79 u80 u81 u82 u83 u84 u85 u86 u87 u88 u89 u90 u91 u92 u93 u94 u95 u96 u97 u98 u99 u100 u101 u102 u103 u104 u105 u106 u107 u108 u109 u110 u111 u112 u113 u114 u115 u116 u117 u118 u119 u120 u121 u122 u123 u124 u125 u126 u127 u128 u129 u130 u131 u132 u133 u134 u135 u136 u137 u138 u139 u140 u141 u142 u143 u144 u145 u146 u147 u148 u149 u150 u151 u152 u153 u154 u155 u156 u157 u158 u159 u160 u161 u162 u163 u164 u165 u166 u167 u168 u169 u170 u171 u172 u173 u174 u175 u176 u177 u178 u179 u180 u181 u182 u183 u184 u185 u186 u187 u188 u189 u190 u191 u192 u193 u194 u195 u196 u197 u198 u199 u200 u201 u202 u203 u204 u205 u206 u207 u208 u209 u210 u211 u212 u213 u214 u215 u216 u217 u218 u219 u220 u221 u222 u223 u224 u225 u226 u227 u228 u229 u230 u231 u232 u233 u234 u235 u236 u237 u238 u239 u240 u241 u242 u243 u244 u245 u246 u247 u248 u249 u250 u251 u252 u253 u254 u255 u256 u257 u258 u259 u260 u261 u262 u263 u264 u265 u266 u267 u268 u269 u270 u271 u272 u273 u274 u275 u276 u277 u278 u279 u280 u281 u282 u283 u284 u285 u286 u287 u288 u289 u290 u291 u292 u293 u294 u295 u296 u297 u298 u299 u300 u301 u302 u303 u304 u305 u306 u307 u308 u309 u310 u311 u312 u313 u314 u315 u316 u317 u318 u319 u320 u321 u322 u323 u324 u325 u326 u327 : Value) (Q : Exit → Act → World → Prop),
    OsFix w wb B p g b hb mb → OsIn w wr wb B p g b hb mb j n bb o q vT k A L l T bs x nn U → C q.kind k → D T →
    (∀ (vT' : Value) (w' : World) (v2 v8 v9 v10 v11 v12 v13 v14 v15 v16 v17 v18 v19 v20 v52 v53 v54 v55 v56 v57 v58 v59 v60 v61 v62 v63 v64 v65 v66 v67 v68 v69 v70 v71 v72 v73 v74 v75 v76 v77 v78 v79 v80 v81 v82 v83 v84 v85 v86 v87 v88 v89 v90 v91 v92 v93 v94 v95 v96 v97 v98 v99 v100 v101 v102 v103 v104 v105 v106 v107 v108 v109 v110 v111 v112 v113 v114 v115 v116 v117 v118 v119 v120 v121 v122 v123 v124 v125 v126 v127 v128 v129 v130 v131 v132 v133 v134 v135 v136 v137 v138 v139 v140 v141 v142 v143 v144 v145 v146 v147 v148 v149 v150 v151 v152 v153 v154 v155 v156 v157 v158 v159 v160 v161 v162 v163 v164 v165 v166 v167 v168 v169 v170 v171 v172 v173 v174 v175 v176 v177 v178 v179 v180 v181 v182 v183 v184 v185 v186 v187 v188 v189 v190 v191 v192 v193 v194 v195 v196 v197 v198 v199 v200 v201 v202 v203 v204 v205 v206 v207 v208 v209 v210 v211 v212 v213 v214 v215 v216 v217 v218 v219 v220 v221 v222 v223 v224 v225 v226 v227 v228 v229 v230 v231 v232 v233 v234 v235 v236 v237 v238 v239 v240 v241 v242 v243 v244 v245 v246 v247 v248 v249 v250 v251 v252 v253 v254 v255 v256 v257 v258 v259 v260 v261 v262 v263 v264 v265 v266 v267 v268 v269 v270 v271 v272 v273 v274 v275 v276 v277 v278 v279 v280 v281 v282 v283 v284 v285 v286 v287 v288 v289 v290 v291 v292 v293 v294 v295 v296 v297 v298 v299 v300 v301 v302 v303 v304 v305 v306 v307 v308 v309 v310 v311 v312 v313 v314 v315 v316 v317 v318 v319 v320 v321 v322 v323 v324 v325 v326 v327 : Value), OSL wb B p g b hb mb (j + 1) vT' w' → Fr (fun _ => False) w w' → Q .normal ⟨⟨c0 :: c1 :: v2 :: .pointer (some ⟨wb, 0, none⟩) :: .pointer (some ⟨hb, 0, none⟩) :: c5 :: vT' :: .map (some mb) :: v8 :: v9 :: v10 :: v11 :: v12 :: v13 :: v14 :: v15 :: v16 :: v17 :: v18 :: v19 :: v20 :: c21 :: c22 :: c23 :: c24 :: c25 :: c26 :: c27 :: c28 :: c29 :: c30 :: c31 :: c32 :: c33 :: c34 :: c35 :: c36 :: c37 :: c38 :: c39 :: c40 :: c41 :: c42 :: c43 :: c44 :: c45 :: c46 :: c47 :: c48 :: .slice (some ⟨bb, o, none⟩) n c :: .int .i64 (n : Nat) :: .int .i64 ((j + 1 : Nat) : Int) :: v52 :: v53 :: v54 :: v55 :: v56 :: v57 :: v58 :: v59 :: v60 :: v61 :: v62 :: v63 :: v64 :: v65 :: v66 :: v67 :: v68 :: v69 :: v70 :: v71 :: v72 :: v73 :: v74 :: v75 :: v76 :: v77 :: v78 :: v79 :: v80 :: v81 :: v82 :: v83 :: v84 :: v85 :: v86 :: v87 :: v88 :: v89 :: v90 :: v91 :: v92 :: v93 :: v94 :: v95 :: v96 :: v97 :: v98 :: v99 :: v100 :: v101 :: v102 :: v103 :: v104 :: v105 :: v106 :: v107 :: v108 :: v109 :: v110 :: v111 :: v112 :: v113 :: v114 :: v115 :: v116 :: v117 :: v118 :: v119 :: v120 :: v121 :: v122 :: v123 :: v124 :: v125 :: v126 :: v127 :: v128 :: v129 :: v130 :: v131 :: v132 :: v133 :: v134 :: v135 :: v136 :: v137 :: v138 :: v139 :: v140 :: v141 :: v142 :: v143 :: v144 :: v145 :: v146 :: v147 :: v148 :: v149 :: v150 :: v151 :: v152 :: v153 :: v154 :: v155 :: v156 :: v157 :: v158 :: v159 :: v160 :: v161 :: v162 :: v163 :: v164 :: v165 :: v166 :: v167 :: v168 :: v169 :: v170 :: v171 :: v172 :: v173 :: v174 :: v175 :: v176 :: v177 :: v178 :: v179 :: v180 :: v181 :: v182 :: v183 :: v184 :: v185 :: v186 :: v187 :: v188 :: v189 :: v190 :: v191 :: v192 :: v193 :: v194 :: v195 :: v196 :: v197 :: v198 :: v199 :: v200 :: v201 :: v202 :: v203 :: v204 :: v205 :: v206 :: v207 :: v208 :: v209 :: v210 :: v211 :: v212 :: v213 :: v214 :: v215 :: v216 :: v217 :: v218 :: v219 :: v220 :: v221 :: v222 :: v223 :: v224 :: v225 :: v226 :: v227 :: v228 :: v229 :: v230 :: v231 :: v232 :: v233 :: v234 :: v235 :: v236 :: v237 :: v238 :: v239 :: v240 :: v241 :: v242 :: v243 :: v244 :: v245 :: v246 :: v247 :: v248 :: v249 :: v250 :: v251 :: v252 :: v253 :: v254 :: v255 :: v256 :: v257 :: v258 :: v259 :: v260 :: v261 :: v262 :: v263 :: v264 :: v265 :: v266 :: v267 :: v268 :: v269 :: v270 :: v271 :: v272 :: v273 :: v274 :: v275 :: v276 :: v277 :: v278 :: v279 :: v280 :: v281 :: v282 :: v283 :: v284 :: v285 :: v286 :: v287 :: v288 :: v289 :: v290 :: v291 :: v292 :: v293 :: v294 :: v295 :: v296 :: v297 :: v298 :: v299 :: v300 :: v301 :: v302 :: v303 :: v304 :: v305 :: v306 :: v307 :: v308 :: v309 :: v310 :: v311 :: v312 :: v313 :: v314 :: v315 :: v316 :: v317 :: v318 :: v319 :: v320 :: v321 :: v322 :: v323 :: v324 :: v325 :: v326 :: v327 :: []⟩, []⟩ w') →
    Code.wp Try.prog osBody Q ⟨⟨c0 :: c1 :: u2 :: .pointer (some ⟨wb, 0, none⟩) :: .pointer (some ⟨hb, 0, none⟩) :: c5 :: vT :: .map (some mb) :: u8 :: u9 :: u10 :: u11 :: u12 :: u13 :: u14 :: u15 :: u16 :: u17 :: u18 :: u19 :: u20 :: c21 :: c22 :: c23 :: c24 :: c25 :: c26 :: c27 :: c28 :: c29 :: c30 :: c31 :: c32 :: c33 :: c34 :: c35 :: c36 :: c37 :: c38 :: c39 :: c40 :: c41 :: c42 :: c43 :: c44 :: c45 :: c46 :: c47 :: c48 :: .slice (some ⟨bb, o, none⟩) n c :: .int .i64 (n : Nat) :: .int .i64 (j : Nat) :: u52 :: u53 :: u54 :: u55 :: u56 :: u57 :: u58 :: u59 :: u60 :: u61 :: u62 :: u63 :: u64 :: u65 :: u66 :: u67 :: u68 :: u69 :: u70 :: u71 :: u72 :: u73 :: u74 :: u75 :: u76 :: u77 :: u78 :: u79 :: u80 :: u81 :: u82 :: u83 :: u84 :: u85 :: u86 :: u87 :: u88 :: u89 :: u90 :: u91 :: u92 :: u93 :: u94 :: u95 :: u96 :: u97 :: u98 :: u99 :: u100 :: u101 :: u102 :: u103 :: u104 :: u105 :: u106 :: u107 :: u108 :: u109 :: u110 :: u111 :: u112 :: u113 :: u114 :: u115 :: u116 :: u117 :: u118 :: u119 :: u120 :: u121 :: u122 :: u123 :: u124 :: u125 :: u126 :: u127 :: u128 :: u129 :: u130 :: u131 :: u132 :: u133 :: u134 :: u135 :: u136 :: u137 :: u138 :: u139 :: u140 :: u141 :: u142 :: u143 :: u144 :: u145 :: u146 :: u147 :: u148 :: u149 :: u150 :: u151 :: u152 :: u153 :: u154 :: u155 :: u156 :: u157 :: u158 :: u159 :: u160 :: u161 :: u162 :: u163 :: u164 :: u165 :: u166 :: u167 :: u168 :: u169 :: u170 :: u171 :: u172 :: u173 :: u174 :: u175 :: u176 :: u177 :: u178 :: u179 :: u180 :: u181 :: u182 :: u183 :: u184 :: u185 :: u186 :: u187 :: u188 :: u189 :: u190 :: u191 :: u192 :: u193 :: u194 :: u195 :: u196 :: u197 :: u198 :: u199 :: u200 :: u201 :: u202 :: u203 :: u204 :: u205 :: u206 :: u207 :: u208 :: u209 :: u210 :: u211 :: u212 :: u213 :: u214 :: u215 :: u216 :: u217 :: u218 :: u219 :: u220 :: u221 :: u222 :: u223 :: u224 :: u225 :: u226 :: u227 :: u228 :: u229 :: u230 :: u231 :: u232 :: u233 :: u234 :: u235 :: u236 :: u237 :: u238 :: u239 :: u240 :: u241 :: u242 :: u243 :: u244 :: u245 :: u246 :: u247 :: u248 :: u249 :: u250 :: u251 :: u252 :: u253 :: u254 :: u255 :: u256 :: u257 :: u258 :: u259 :: u260 :: u261 :: u262 :: u263 :: u264 :: u265 :: u266 :: u267 :: u268 :: u269 :: u270 :: u271 :: u272 :: u273 :: u274 :: u275 :: u276 :: u277 :: u278 :: u279 :: u280 :: u281 :: u282 :: u283 :: u284 :: u285 :: u286 :: u287 :: u288 :: u289 :: u290 :: u291 :: u292 :: u293 :: u294 :: u295 :: u296 :: u297 :: u298 :: u299 :: u300 :: u301 :: u302 :: u303 :: u304 :: u305 :: u306 :: u307 :: u308 :: u309 :: u310 :: u311 :: u312 :: u313 :: u314 :: u315 :: u316 :: u317 :: u318 :: u319 :: u320 :: u321 :: u322 :: u323 :: u324 :: u325 :: u326 :: u327 :: []⟩, []⟩ wr
end Go.Proofs.Ytajeiccfgnpbpaa.Mem

/- The statement ObjectSends: two of its regions, each as a statement of its own. -/
namespace Go.Proofs.Ytajeiccfgnpbpaa.Mem
open Go.RowKit
attribute [local go_sem ↓] Go.wp_at_zero Go.wp_at_succ

def regionOf (n : Nat) : Code → Option Code
  | .region id ops b => if id = n then some (.region id ops b) else none
  | .loop c => regionOf n c
  | .seq a b => match regionOf n a with
    | some c => some c
    | none => regionOf n b
  | .block _ c => regionOf n c
  | .scope c => regionOf n c
  | .cond _ a b => match regionOf n a with
    | some c => some c
    | none => regionOf n b
  | _ => none
noncomputable def reg42 : Code := (regionOf 42 osBody).getD .skip
noncomputable def reg50 : Code := (regionOf 50 osBody).getD .skip

theorem addr_addo (g o i : Nat) : (⟨g, o, none⟩ : Addr).add i = ⟨g, o + i, none⟩ := by unfold Addr.add; split <;> simp_all
theorem slice_end (gT nT : Nat) (w : World) : (Instr.slice 84 (.slice (some ⟨gT, 0, none⟩) nT nT) (some (.int .i64 (nT : Int))) none none).run Try.prog w = .ok (.slice (some ⟨gT, 0, none⟩) 0 0) w := by
  go_simp
theorem take_some {α : Type} {l : List α} {n i : Nat} {u : α} (h : (l.take n)[i]? = some u) : l[i]? = some u := by
  rw [List.getElem?_take] at h
  split at h
  · exact h
  · cases h
end Go.Proofs.Ytajeiccfgnpbpaa.Mem
