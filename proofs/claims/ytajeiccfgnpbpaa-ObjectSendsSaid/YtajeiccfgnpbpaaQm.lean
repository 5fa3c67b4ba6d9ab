/- Several texts in one: ObsE, ObsF, ObjC, ObsG, ObsH. -/
import Derived.Test.YtajeiccfgnpbpaaQk
import Derived.Test.YtajeiccfgnpbpaaQj
import Derived.Test.YtajeiccfgnpbpaaImA
import Derived.Test.YtajeiccfgnpbpaaQh
set_option linter.unusedSimpArgs false
set_option linter.unusedVariables false
/- Plain mathematics: the state of ObjectSends: classes and objects in a space, blocks behind it. No program. -/
namespace Go.Proofs.Ytajeiccfgnpbpaa.Mem
open Go.RowKit

/-- An object: where it is, its class, what stands in it. -/
structure Th where
  at' : Nat
  cls : Nat
  txt : List UInt8

/-- An object lies in the space between the classes, or in a used block. -/
def ThAt (S x k : Nat) (A : Nat → Nat) (hz : Nat) (l : List Bk) (t : Th) : Prop :=
  (16 ≤ t.at' ∧ t.at' + 8 + t.txt.length ≤ x ∧ ∀ i, i < k → t.at' + 8 + t.txt.length ≤ A i - (16 + 24 * S) ∨ A i + 40 ≤ t.at') ∨ ∃ m, UsedAt hz l t.at' m ∧ 16 + t.txt.length ≤ m

/-- Classes and objects in a space that ends at hz, and blocks from there to z. -/
structure OSt (bs : List UInt8) (S hz z x k : Nat) (A : Nat → Nat) (L : List RC) (l : List Bk) (T : List Th) : Prop where
  cst : CSt bs S x k A L
  x8 : x % 8 = 0
  xhz : x ≤ hz
  hz8 : hz % 8 = 0
  len : bs.length = z
  blks : Blks bs z hz l
  lt : 0 < l.length
  cls : ∀ t ∈ T, t.cls < k
  cell : ∀ t ∈ T, cellv bs t.at' = ((A t.cls : Nat) : Int)
  txt : ∀ t ∈ T, text bs (t.at' + 8) t.txt.length = t.txt
  a8 : ∀ t ∈ T, t.at' % 8 = 0 ∧ t.txt.length % 8 = 0
  place : ∀ t ∈ T, ThAt S x k A hz l t
  apart : ∀ (i j : Nat) (t u : Th), i < j → T[i]? = some t → T[j]? = some u → t.at' + 8 + t.txt.length ≤ u.at' ∨ u.at' + 8 + u.txt.length ≤ t.at'

theorem keep_thing {bs cs : List UInt8} {t : Th} (hl : cs.length = bs.length) (hin : t.at' + 8 + t.txt.length ≤ bs.length) (hb : ∀ i, t.at' ≤ i → i < t.at' + 8 + t.txt.length → cs.getD i 0 = bs.getD i 0) :
    cellv cs t.at' = cellv bs t.at' ∧ text cs (t.at' + 8) t.txt.length = text bs (t.at' + 8) t.txt.length := by
  constructor
  · unfold cellv
    rw [rd_congr (bs := cs) (cs := bs) (b := t.at') 8 fun i hi => hb _ (by omega) (by omega)]
  · apply List.ext_getElem
    · rw [text_length _ _ _ (by omega), text_length _ _ _ (by omega)]
    · intro i h1 h2
      rw [text_length _ _ _ (by omega)] at h1
      have e1 := text_get cs (t.at' + 8) t.txt.length i h1
      have e2 := text_get bs (t.at' + 8) t.txt.length i h1
      have e3 := hb (t.at' + 8 + i) (by omega) (by omega)
      rw [← e1, ← e2] at e3
      simpa [List.getD_eq_getElem?_getD, List.getElem?_eq_getElem, h1, h2, text_length cs (t.at' + 8) t.txt.length (by omega), text_length bs (t.at' + 8) t.txt.length (by omega)] using e3

variable {bs : List UInt8} {S hz z x k : Nat} {A : Nat → Nat} {L : List RC} {l : List Bk} {T : List Th}

theorem OSt.inside (h : OSt bs S hz z x k A L l T) {t : Th} (ht : t ∈ T) : t.at' + 8 + t.txt.length ≤ bs.length ∧ 16 ≤ t.at' ∧ (t.at' + 8 + t.txt.length ≤ x ∨ hz + 8 ≤ t.at') := by
  have h1 := h.cst.low
  have h2 := h.xhz
  have h3 := h.cst.xb
  have h4 := h.blks.le
  rcases h.place t ht with ⟨p1, p2, _⟩ | ⟨m, hu, hm⟩
  · rw [h.len]; omega
  · have := h.blks.usedIn hu
    rw [h.len]
    omega

/-- Bytes that keep the headers of the blocks. -/
theorem OSt.blksKept (h : OSt bs S hz z x k A L l T) {cs : List UInt8} (hc : ∀ i, hz ≤ i → cs.getD i 0 = bs.getD i 0) : Blks cs z hz l :=
  h.blks.headers fun y hy _ => by
    unfold cellv
    rw [rd_congr (bs := cs) (cs := bs) (b := y) 8 fun i hi => hc _ (by omega)]

/-- A state whose classes have changed, or have become more; the objects and the blocks stay. -/
theorem OSt.classes (h : OSt bs S hz z x k A L l T) {cs : List UInt8} {y k' : Nat} {A' : Nat → Nat} {L' : List RC} (hcs : CSt cs S y k' A' L') (hl : cs.length = bs.length) (hy8 : y % 8 = 0) (hxy : x ≤ y) (hy : y ≤ hz) (hk : k ≤ k') (hA : ∀ i, i < k → A' i = A i)
    (hnew : ∀ i, k ≤ i → i < k' → x ≤ A' i - (16 + 24 * S)) (hb : ∀ t ∈ T, ∀ i, t.at' ≤ i → i < t.at' + 8 + t.txt.length → cs.getD i 0 = bs.getD i 0) (hh : ∀ i, hz ≤ i → cs.getD i 0 = bs.getD i 0) : OSt cs S hz z y k' A' L' l T where
  cst := hcs
  x8 := hy8
  xhz := hy
  hz8 := h.hz8
  len := hl.trans h.len
  blks := h.blksKept hh
  lt := h.lt
  cls t ht := by have := h.cls t ht; omega
  cell t ht := by rw [(keep_thing hl (h.inside ht).1 (hb t ht)).1, h.cell t ht, hA _ (h.cls t ht)]
  txt t ht := by rw [(keep_thing hl (h.inside ht).1 (hb t ht)).2, h.txt t ht]
  a8 := h.a8
  place t ht := by
    rcases h.place t ht with ⟨p1, p2, p3⟩ | p
    · refine .inl ⟨p1, by omega, fun i hi => ?_⟩
      rcases Nat.lt_or_ge i k with h1 | h1
      · rw [hA i h1]; exact p3 i h1
      · have := hnew i h1 hi; omega
    · exact .inr p
  apart := h.apart

/-- One more class, or none where there is no room. -/
theorem OSt.new (h : OSt bs S hz z x k A L l T) (h1 : 1 ≤ S) (h2 : S ≤ 1024) (hroom : x + 56 + 24 * S ≤ hz) {p : Int} (hp : -1 ≤ p ∧ p < (k : Int)) (hsz : I64 (sizeOfP L p)) :
    ∃ cs, cnewv hz x bs 8 (ppl A p) (S : Nat) = ((((x + 16 + 24 * S : Nat) : Int), 0), x + 56 + 24 * S, cs) ∧ OSt cs S hz z (x + 56 + 24 * S) (k + 1) (fun i => if i = k then x + 16 + 24 * S else A i) (L ++ [⟨p, sizeOfP L p, (S : Nat), []⟩]) l T := by
  have hle : hz ≤ bs.length := by rw [h.len]; exact h.blks.le
  obtain ⟨cs, e1, e2, e3⟩ := h.cst.new h1 h2 h.x8 hroom hle hp hsz
  obtain ⟨o1, o2⟩ := h.cst.newOut h1 h2 h.xhz hle hp e1
  refine ⟨cs, e1, h.classes e3 e2 (by have := h.x8; omega) (by omega) hroom (by omega) (fun i hi => ?_) (fun i hi hik => ?_) (fun t ht i hi hj => o2 i ?_) (fun i hi => o2 i (.inr hi))⟩
  · rw [if_neg (by omega)]
  · rw [if_pos (by omega)]
    omega
  · have := h.inside ht
    omega
theorem OSt.newFull (h : OSt bs S hz z x k A L l T) (h1 : 1 ≤ S) (h2 : S ≤ 1024) (hroom : ¬ x + 56 + 24 * S ≤ hz) {p : Int} (hp : -1 ≤ p ∧ p < (k : Int)) :
    ∃ cs, cnewv hz x bs 8 (ppl A p) (S : Nat) = ((0, -8), x, cs) ∧ OSt cs S hz z x k A L l T := by
  have hle : hz ≤ bs.length := by rw [h.len]; exact h.blks.le
  obtain ⟨cs, e1, e2⟩ := h.cst.newFull h1 h2 h.xhz hroom hle hp
  refine ⟨cs, e1, h.classes (h.cst.more e2.1 (Nat.le_refl _) h.cst.xb fun b hb => e2.cellv b (.inl hb)) e2.1 h.x8 (Nat.le_refl _) h.xhz (Nat.le_refl _) (fun _ _ => rfl) (fun i hi hik => by omega) (fun t ht i hi hj => e2.2 i ?_) (fun i hi => e2.2 i (.inr hi))⟩
  have := h.inside ht
  omega

/-- A method is set. -/
theorem OSt.set (h : OSt bs S hz z x k A L l T) {c : Nat} (hc : c < k) {sel xt : Int} (hsel : I64 sel) (hxt : I64 xt) (hok : rsetc L c sel = 0) : OSt (csetv bs 8 ((A c : Nat) : Int) sel xt).2 S hz z x k A (setL L c sel xt) l T := by
  obtain ⟨o1, o2⟩ := h.cst.setOut hc hsel hxt
  have hst := (h.cst.set hc hsel hxt).2.2 hok
  have hfar : ∀ y, y % 8 = 0 → (∀ i, i < k → y + 8 ≤ A i - (16 + 24 * S) + 8 ∨ A i ≤ y) → ∀ i, y ≤ i → i < y + 8 → (csetv bs 8 ((A c : Nat) : Int) sel xt).2.getD i 0 = bs.getD i 0 := fun y _ hy i h1 h2 => by
    have := cell_bytes (o2 y hy) (i - y) (by omega)
    rwa [show y + (i - y) = i by omega] at this
  refine h.classes hst o1 h.x8 (Nat.le_refl _) h.xhz (Nat.le_refl _) (fun _ _ => rfl) (fun i hi hik => by omega) (fun t ht i hi hj => ?_) (fun i hi => ?_)
  · have a8 := h.a8 t ht
    refine hfar (i / 8 * 8) (by omega) (fun j hj' => ?_) i (by omega) (by omega)
    have hp := h.cst.pl j hj'
    have hx := h.xhz
    rcases h.place t ht with ⟨p1, p2, p3⟩ | ⟨m, hu, hm⟩
    · rcases p3 j hj' with e | e <;> omega
    · have := h.blks.usedIn hu
      omega
  · have := h.hz8
    refine hfar (i / 8 * 8) (by omega) (fun j hj' => ?_) i (by omega) (by omega)
    have hp := h.cst.pl j hj'
    have hx := h.xhz
    omega

/-- A class grows. -/
theorem OSt.grow (h : OSt bs S hz z x k A L l T) {c : Nat} (hc : c < k) {v : Int} (hv : I64 v) : OSt (setv bs (A c + 16) v) S hz z x k A (setSz L c v) l T := by
  have hp := h.cst.pl c hc
  have hx := h.xhz
  refine h.classes (h.cst.grow hc hv) (setv_length _ _ _) h.x8 (Nat.le_refl _) h.xhz (Nat.le_refl _) (fun _ _ => rfl) (fun i hi hik => by omega) (fun t ht i hi hj => getD_setv _ _ _ _ ?_) (fun i hi => getD_setv _ _ _ _ (by omega))
  rcases h.place t ht with ⟨p1, p2, p3⟩ | ⟨m, hu, hm⟩
  · rcases p3 c hc with e | e <;> omega
  · have := h.blks.usedIn hu
    omega
end Go.Proofs.Ytajeiccfgnpbpaa.Mem

/- Plain mathematics: the state of ObjectSends behind Alloc, Free, and what is written into an object. No program. -/
namespace Go.Proofs.Ytajeiccfgnpbpaa.Mem
open Go.RowKit

theorem Blks.written {bs cs : List UInt8} {z a : Nat} {l : List Bk} (h : Blks bs z a l) {x m : Nat} (hu : UsedAt a l x m) (hc : ∀ y, a ≤ y → (y + 8 ≤ x ∨ x + m ≤ y + 8) → cellv cs y = cellv bs y) : Blks cs z a l := by
  induction l generalizing a with
  | nil => exact hu.elim
  | cons b l ih =>
    rcases hu with ⟨_, h2, h3⟩ | hu
    · subst h2; subst h3
      refine ⟨h.1, h.2.1, h.2.2.1, ?_, h.2.2.2.2.headers fun y hy _ => hc y (by omega) (.inr (by omega))⟩
      rw [hc a (Nat.le_refl _) (.inl (by omega))]
      exact h.2.2.2.1
    · have hi := h.2.2.2.2.usedIn hu
      refine ⟨h.1, h.2.1, h.2.2.1, ?_, ih h.2.2.2.2 hu fun y hy hd => hc y (by omega) hd⟩
      rw [hc a (Nat.le_refl _) (.inl (by omega))]
      exact h.2.2.2.1

variable {bs : List UInt8} {S hz z x k : Nat} {A : Nat → Nat} {L : List RC} {l : List Bk} {T : List Th}

/-- Blocks have changed; some of the objects stay. -/
theorem OSt.heapKept (h : OSt bs S hz z x k A L l T) {cs : List UInt8} {l' : List Bk} {T' : List Th} (hk : Keeps hz z l bs cs) (hb : Blks cs z hz l') (hlt : 0 < l'.length) (hT : ∀ t ∈ T', t ∈ T) (hold : ∀ t ∈ T', ∀ m, UsedAt hz l t.at' m → UsedAt hz l' t.at' m)
    (hap : ∀ (i j : Nat) (t u : Th), i < j → T'[i]? = some t → T'[j]? = some u → t.at' + 8 + t.txt.length ≤ u.at' ∨ u.at' + 8 + u.txt.length ≤ t.at') : OSt cs S hz z x k A L l' T' := by
  have hxz := h.xhz
  have hby : ∀ t ∈ T, ∀ i, t.at' ≤ i → i < t.at' + 8 + t.txt.length → cs.getD i 0 = bs.getD i 0 := fun t ht i h1 h2 => by
    rcases h.place t ht with ⟨p1, p2, _⟩ | ⟨m, hu, hm⟩
    · exact hk.2.1 i (.inl (by omega))
    · exact hk.2.2 _ m hu i h1 (by omega)
  refine ⟨h.cst.more hk.1 (Nat.le_refl _) h.cst.xb fun b hb => ?_, h.x8, h.xhz, h.hz8, hk.1.trans h.len, hb, hlt, fun t ht => h.cls t (hT t ht), fun t ht => ?_, fun t ht => ?_, fun t ht => h.a8 t (hT t ht), fun t ht => ?_, hap⟩
  · unfold cellv
    rw [rd_congr (bs := cs) (cs := bs) (b := b) 8 fun i hi => hk.2.1 _ (.inl (by omega))]
  · rw [(keep_thing hk.1 (h.inside (hT t ht)).1 (hby t (hT t ht))).1, h.cell t (hT t ht)]
  · rw [(keep_thing hk.1 (h.inside (hT t ht)).1 (hby t (hT t ht))).2, h.txt t (hT t ht)]
  · rcases h.place t (hT t ht) with p | ⟨m, hu, hm⟩
    · exact .inl p
    · exact .inr ⟨m, hold t ht m hu, hm⟩

theorem OSt.alloc (h : OSt bs S hz z x k A L l T) {cs : List UInt8} {l' : List Bk} {a n : Nat} (ha : Alloced hz z l bs cs a n l') : OSt cs S hz z x k A L l' T :=
  h.heapKept ha.keeps ha.blks ha.lt (fun _ h => h) (fun t _ m hu => ha.old _ m hu) h.apart

/-- Objects in blocks that are not freed. -/
theorem OSt.free (h : OSt bs S hz z x k A L l T) {cs : List UInt8} {l' : List Bk} {T' : List Th} {a : Nat} (hf : Freed hz z l bs cs a l') (hT : ∀ t ∈ T', t ∈ T ∧ t.at' ≠ a)
    (hap : ∀ (i j : Nat) (t u : Th), i < j → T'[i]? = some t → T'[j]? = some u → t.at' + 8 + t.txt.length ≤ u.at' ∨ u.at' + 8 + u.txt.length ≤ t.at') : OSt cs S hz z x k A L l' T' :=
  h.heapKept hf.keeps hf.blks hf.lt (fun t ht => (hT t ht).1) (fun t ht m hu => (hf.used _ m).2 ⟨hu, (hT t ht).2⟩) hap

/-- Bytes of one place [a, a + n) are written: of a used block, or of what isn't allocated yet; no other object lies there. -/
theorem OSt.wrote (h : OSt bs S hz z x k A L l T) {cs : List UInt8} {a n y : Nat} (hl : cs.length = bs.length) (hc : ∀ i, i < a ∨ a + n ≤ i → cs.getD i 0 = bs.getD i 0) (hy8 : y % 8 = 0) (hy : y ≤ hz) (hxy : x ≤ y)
    (hpl : (∃ m, UsedAt hz l a m ∧ n + 8 ≤ m) ∨ (16 ≤ a ∧ a + n ≤ y ∧ ∀ i, i < k → a + n ≤ A i - (16 + 24 * S) ∨ A i + 40 ≤ a)) {T' : List Th} (hT : ∀ t ∈ T', t ∈ T ∧ (t.at' + 8 + t.txt.length ≤ a ∨ a + n ≤ t.at'))
    (hap : ∀ (i j : Nat) (t u : Th), i < j → T'[i]? = some t → T'[j]? = some u → t.at' + 8 + t.txt.length ≤ u.at' ∨ u.at' + 8 + u.txt.length ≤ t.at') : OSt cs S hz z y k A L l T' := by
  have hxz := h.xhz
  have hby : ∀ t ∈ T', ∀ i, t.at' ≤ i → i < t.at' + 8 + t.txt.length → cs.getD i 0 = bs.getD i 0 := fun t ht i h1 h2 => hc i (by have := (hT t ht).2; omega)
  have hcell : ∀ b, b + 8 ≤ a ∨ a + n ≤ b → cellv cs b = cellv bs b := fun b hb => by
    unfold cellv
    rw [rd_congr (bs := cs) (cs := bs) (b := b) 8 fun i hi => hc _ (by omega)]
  have hcst : CSt cs S y k A L := by
    have hlow := h.cst.low
    have hfarI : ∀ i, i < k → ∀ b, A i - (16 + 24 * S) ≤ b → b + 8 ≤ A i + 40 → cellv cs b = cellv bs b := fun i hi b h1 h2 => hcell b (by
      have hp := h.cst.pl i hi
      rcases hpl with ⟨m, hu, hm⟩ | ⟨_, _, p⟩
      · have := h.blks.usedIn hu
        omega
      · rcases p i hi with e | e <;> omega)
    have hik : ∀ {i : Nat} {r : RC}, L[i]? = some r → i < k := fun {i r} hr => by
      rcases Nat.lt_or_ge i L.length with h1 | h1
      · rw [h.cst.klen] at h1; exact h1
      · rw [List.getElem?_eq_none h1] at hr; cases hr
    have hyl : y ≤ bs.length := by have := h.blks.le; have := h.len; omega
    refine ⟨h.cst.klen, by rw [hl]; exact hyl, by rw [hl]; exact h.cst.big, by omega, ?_, fun i hi => ?_, h.cst.inc, fun i hi => ?_, fun i hi => ?_, fun i hi => ?_, fun i r hr => ?_, fun i r hr => ?_, fun i hi => ?_, h.cst.slots, h.cst.wf⟩
    · rw [hcell 8 (by rcases hpl with ⟨m, hu, hm⟩ | ⟨p, _, _⟩
                      · have := h.blks.usedIn hu
                        omega
                      · omega), h.cst.root]
    · have := h.cst.pl i hi; omega
    · have hp := h.cst.pl i hi; rw [hfarI i hi _ (by omega) (by omega), h.cst.mag i hi]
    · have hp := h.cst.pl i hi; rw [hfarI i hi _ (by omega) (by omega), h.cst.tb i hi]
    · have hp := h.cst.pl i hi; rw [hfarI i hi _ (by omega) (by omega), h.cst.prv i hi]
    · have hp := h.cst.pl i (hik hr); rw [hfarI i (hik hr) _ (by omega) (by omega), h.cst.par i r hr]
    · have hp := h.cst.pl i (hik hr); rw [hfarI i (hik hr) _ (by omega) (by omega), h.cst.siz i r hr]
    · have hp := h.cst.pl i hi
      have hx := h.cst.xb
      exact (h.cst.tab i hi).same (by omega) (by rw [hl]; omega) (hfarI i hi _ (by omega) (by omega)) (fun j hj => hfarI i hi _ (by omega) (by omega))
  have hblk : Blks cs z hz l := by
    rcases hpl with ⟨m, hu, hm⟩ | ⟨_, p, _⟩
    · exact h.blks.written hu fun b _ hb => hcell b (by omega)
    · exact h.blks.headers fun b hb _ => hcell b (by omega)
  refine ⟨hcst, hy8, hy, h.hz8, hl.trans h.len, hblk, h.lt, fun t ht => h.cls t (hT t ht).1, fun t ht => ?_, fun t ht => ?_, fun t ht => h.a8 t (hT t ht).1, fun t ht => ?_, hap⟩
  · rw [(keep_thing hl (h.inside (hT t ht).1).1 (hby t ht)).1, h.cell t (hT t ht).1]
  · rw [(keep_thing hl (h.inside (hT t ht).1).1 (hby t ht)).2, h.txt t (hT t ht).1]
  · rcases h.place t (hT t ht).1 with ⟨p1, p2, p3⟩ | p
    · exact .inl ⟨p1, by omega, p3⟩
    · exact .inr p
end Go.Proofs.Ytajeiccfgnpbpaa.Mem

/- Contracts of package object, and of space: an object in a heap of any blocks; Allot; an object in a space. -/
namespace Go.Proofs.Ytajeiccfgnpbpaa.Mem
open Go.RowKit

/-- What an object in a heap leaves. -/
def OHeapPost (p g : Nat) (bs : List UInt8) (a : Nat) (l : List Bk) (c : Int) (n : Nat) (e : Ending) (w' : World) : Prop :=
  (e = .returned (.tuple #[.int .i64 0, .int .i64 (-59)]) ∧ Mat 108 w' p g bs) ∨
    ∃ k m, l[k]? = some (m, false) ∧ needv n ≤ m ∧ e = .returned (.tuple #[.int .i64 ((boff a l k : Nat) + 8 : Int), .int .i64 0]) ∧
      Mat 108 w' p g (sett (setc (splitb bs (boff a l k) m (needv n)) ((boff a l k : Nat) + 8 : Int) c) ((boff a l k : Nat) + 8 + 8 : Int) (List.replicate (n - 8) 0))

theorem splitb_length (bs : List UInt8) (y m n : Nat) : (splitb bs y m n).length = bs.length := by
  unfold splitb
  split <;> simp [setv_length]

theorem olay_ok (bs : List UInt8) (x c : Int) (n : Nat) (h0 : 0 ≤ x) (h8 : x % 8 = 0) (hn : 8 ≤ n) (hl : x + n ≤ bs.length) : olay bs x c (n : Int) = (0, sett (setc bs x c) (x + 8) (List.replicate (n - 8) 0)) := by
  unfold olay
  have h1 : (cell bs x).2 = 0 := by
    unfold cell
    rw [if_pos (code_of h0 (by omega) h8)]
  have h2 : (txt bs x n).2 = 0 := by
    unfold txt
    rw [if_pos (by simp [has]; omega)]
  rw [if_pos h1, if_pos h2, show ((n : Int) - 8).toNat = n - 8 by omega]

set_option maxRecDepth 100000 in
set_option maxHeartbeats 4000000 in
theorem oheap_any (hb p g : Nat) (bs : List UInt8) (a z : Nat) (l : List Bk) (c : Int) (n : Nat) (w : World) (h : Mat 108 w p g bs) (hh : Heap w hb p a z) (hB : Blks bs z a l) (ha : a % 8 = 0) (hz : z ≤ bs.length) (hl : 0 < l.length) (hg : hb ≠ g)
    (hc : -9223372036854775808 ≤ c ∧ c ≤ 9223372036854775807) (hs : sizev bs c = ((n : Int), 0)) :
    Calls Try.prog 40 #[.pointer (some ⟨hb, 0, none⟩), .pointer (some ⟨p, 0, none⟩), .int .i64 c] w
      fun e w' => OHeapPost p g bs a l c n e w' ∧ Only g w w' := by
  have hsz := sizeOf_any p g bs c w h hc
  have hbd := @sizev_bd bs c (by rw [hs])
  rw [hs] at hsz hbd
  dsimp only at hsz hbd
  have HS := Lib.hid hsz
  have HA := Lib.hid (fun w h hh => halloc_any hb p g bs a z l n w h hh hB ha hz hl hg (by omega))
  have HX := Lib.hid (fun k (hk : k < l.length) => And.intro (hB.get k hk) (And.intro (hB.bd k (by omega)) (hB.aligned k (by omega) ha)))
  have H := Lib.hid h
  have HH := Lib.hid hh
  have hbl := h.2.2.2
  clear h hh hB hsz hs hl
  go_enter Try.func40, Try.ntmps40
  go_wp2_with (go_at_call 88; refine HS.out.mono ?_; rintro e w1 ⟨rfl, hf⟩; have F1 := Lib.hid hf; clear hf)
  refine (HA.out _ (H.out.fr F1.out id id) (F1.out.obj HH.out id)).mono ?_
  rintro e w2 ⟨hp, hf⟩
  have F2 := Lib.hid ((Fr.some F1.out fun _ e => e.elim).trans hf)
  clear hf
  rcases hp with ⟨rfl, hm⟩ | ⟨k, m, hk, hn, rfl, hm⟩
  · have M2 := Lib.hid hm
    clear hm
    go_wp2_with fail
    go_ret2
    exact ⟨.inl ⟨rfl, M2.out⟩, F2.out⟩
  · have hki := (List.getElem?_eq_some_iff.1 hk)
    obtain ⟨hk1, hk2⟩ := hki
    obtain ⟨⟨_, _, g1, _⟩, _, g2⟩ := HX.out k hk1
    rw [hk2] at g1
    dsimp only at g1
    have hnv : n + 8 ≤ needv n := by unfold needv; omega
    have HK := Lib.hid hk
    have HN := Lib.hid hn
    have hol := olay_ok (splitb bs (boff a l k) m (needv n)) ((boff a l k : Nat) + 8 : Int) c n (by omega) (by omega) (by omega) (by rw [splitb_length]; omega)
    have hy := olay_any p g (splitb bs (boff a l k) m (needv n)) ((boff a l k : Nat) + 8 : Int) c n w2 hm (by omega)
    rw [hol] at hy
    dsimp only at hy
    have HY := Lib.hid hy
    have hkA : boff a l k ≤ 1048576 := by omega
    clear hm hk hk2 hn hol hy hnv
    go_wp2_with fail
    refine HY.out.mono ?_
    rintro e w3 ⟨rfl, hm, hf⟩
    have M3 := Lib.hid hm
    have F3 := Lib.hid (F2.out.trans hf)
    clear hm hf
    go_wp2_with fail
    go_ret2
    exact ⟨.inr ⟨k, m, HK.out, HN.out, rfl, M3.out⟩, F3.out⟩
end Go.Proofs.Ytajeiccfgnpbpaa.Mem

/- Plain mathematics: the state of ObjectSends behind a new object, and behind an object's filling. No program. -/
namespace Go.Proofs.Ytajeiccfgnpbpaa.Mem
open Go.RowKit

theorem text_put (bs T : List UInt8) (a : Nat) (h : a ≤ bs.length) : text (put bs a T) a T.length = T := by
  unfold text put
  rw [List.append_assoc, List.drop_append, List.drop_eq_nil_of_le (by simp; omega), List.nil_append, List.length_take, Nat.min_eq_left h, Nat.sub_self, List.drop_zero, List.take_append_of_le_length (Nat.le_refl _), List.take_length]

/-- The bytes of a new object. -/
theorem obj_bytes (bs : List UInt8) (a n : Nat) (v : Int) (h8 : a % 8 = 0) (hn : 8 ≤ n) (hl : a + n ≤ bs.length) (hl2 : bs.length ≤ 1048576) (hv : I64 v) :
    ∃ cs, sett (setc bs (a : Int) v) ((a : Int) + 8) (List.replicate (n - 8) 0) = cs ∧ cs.length = bs.length ∧ (∀ i, i < a ∨ a + n ≤ i → cs.getD i 0 = bs.getD i 0) ∧ cellv cs a = v ∧ text cs (a + 8) (n - 8) = List.replicate (n - 8) 0 := by
  have e : sett (setc bs (a : Int) v) ((a : Int) + 8) (List.replicate (n - 8) 0) = put (setv bs a v) (a + 8) (List.replicate (n - 8) 0) := by
    rw [setc_nat _ _ _ (by omega) h8]
    unfold sett
    rw [if_pos (by rw [setv_length, List.length_replicate]; simp [has]; omega), show ((a : Int) + 8).toNat = a + 8 by omega]
  have ho := put_out (x := a) (z := a + n) (setv bs a v) (List.replicate (n - 8) 0) (a + 8) (by omega) (by rw [List.length_replicate]; omega) (by rw [setv_length, List.length_replicate]; omega)
  refine ⟨_, e, by rw [ho.1, setv_length], fun i hi => by rw [ho.2 i hi, getD_setv _ _ _ _ (by omega)], ?_, ?_⟩
  · rw [cellv_put_other _ _ _ _ (by omega) (by rw [setv_length]; omega), cellv_same _ _ _ (by omega) hv]
  · have := text_put (setv bs a v) (List.replicate (n - 8) 0) (a + 8) (by rw [setv_length]; omega)
    rwa [List.length_replicate] at this

variable {bs : List UInt8} {S hz z x k : Nat} {A : Nat → Nat} {L : List RC} {l : List Bk} {T : List Th}

/-- Other objects in the same bytes. -/
theorem OSt.things (h : OSt bs S hz z x k A L l T) {T' : List Th} (hT : ∀ t ∈ T', t ∈ T ∨ (t.cls < k ∧ cellv bs t.at' = ((A t.cls : Nat) : Int) ∧ text bs (t.at' + 8) t.txt.length = t.txt ∧ (t.at' % 8 = 0 ∧ t.txt.length % 8 = 0) ∧ ThAt S x k A hz l t))
    (hap : ∀ (i j : Nat) (t u : Th), i < j → T'[i]? = some t → T'[j]? = some u → t.at' + 8 + t.txt.length ≤ u.at' ∨ u.at' + 8 + u.txt.length ≤ t.at') : OSt bs S hz z x k A L l T' :=
  { h with
    cls := fun t ht => (hT t ht).elim (h.cls t) (fun g => g.1)
    cell := fun t ht => (hT t ht).elim (h.cell t) (fun g => g.2.1)
    txt := fun t ht => (hT t ht).elim (h.txt t) (fun g => g.2.2.1)
    a8 := fun t ht => (hT t ht).elim (h.a8 t) (fun g => g.2.2.2.1)
    place := fun t ht => (hT t ht).elim (h.place t) (fun g => g.2.2.2.2)
    apart := hap }

theorem apart_snoc {T : List Th} {n : Th} (h : ∀ (i j : Nat) (t u : Th), i < j → T[i]? = some t → T[j]? = some u → t.at' + 8 + t.txt.length ≤ u.at' ∨ u.at' + 8 + u.txt.length ≤ t.at') (hn : ∀ t ∈ T, t.at' + 8 + t.txt.length ≤ n.at' ∨ n.at' + 8 + n.txt.length ≤ t.at') :
    ∀ (i j : Nat) (t u : Th), i < j → (T ++ [n])[i]? = some t → (T ++ [n])[j]? = some u → t.at' + 8 + t.txt.length ≤ u.at' ∨ u.at' + 8 + u.txt.length ≤ t.at' := fun i j t u hij hi hj => by
  have hjl := (List.getElem?_eq_some_iff.1 hj).1
  rw [List.length_append, List.length_singleton] at hjl
  rw [List.getElem?_append_left (by omega)] at hi
  rcases Nat.lt_or_ge j T.length with h1 | h1
  · rw [List.getElem?_append_left h1] at hj
    exact h i j t u hij hi hj
  · have : j = T.length := by omega
    subst this
    rw [List.getElem?_append_right (Nat.le_refl _), Nat.sub_self] at hj
    have : n = u := by simpa using hj
    subst this
    exact hn t (List.mem_of_getElem? hi)

/-- An object in a block that was got. -/
theorem OSt.heapObj (h : OSt bs S hz z x k A L l T) {cs : List UInt8} {l' : List Bk} {a n c : Nat} (ha : Alloced hz z l bs cs a n l') (hc : c < k) (h8 : a % 8 = 0) (hn8 : n % 8 = 0) (hn : 8 ≤ n) :
    OSt (sett (setc cs (a : Int) ((A c : Nat) : Int)) ((a : Int) + 8) (List.replicate (n - 8) 0)) S hz z x k A L l' (T ++ [⟨a, c, List.replicate (n - 8) 0⟩]) := by
  have h1 := h.alloc ha
  obtain ⟨m, hu, hm⟩ := ha.new
  have hin := ha.blks.usedIn hu
  have hlen := h1.len
  have hbig := h1.cst.big
  have hAc : I64 ((A c : Nat) : Int) := by
    have := (h1.cst.pl c hc).2.2
    have := h1.cst.xb
    unfold I64
    omega
  obtain ⟨ds, e, d1, d2, d3, d4⟩ := obj_bytes cs a n ((A c : Nat) : Int) h8 hn (by omega) hbig hAc
  rw [e]
  have hapart : ∀ t ∈ T, t.at' + 8 + t.txt.length ≤ a ∨ a + n ≤ t.at' := fun t ht => by
    have hx := h.xhz
    rcases h.place t ht with ⟨p1, p2, _⟩ | ⟨q, hq, hqm⟩
    · omega
    · have hq' := ha.old _ _ hq
      rcases ha.blks.apart hq' hu with ⟨e1, _⟩ | e1 | e1
      · exact absurd (e1 ▸ hq) (ha.fresh q)
      · omega
      · omega
  have h2 := h1.wrote (T' := T) d1 d2 h1.x8 h1.xhz (Nat.le_refl _) (.inl ⟨m, hu, hm⟩) (fun t ht => ⟨ht, hapart t ht⟩) h1.apart
  refine h2.things (fun t ht => ?_) (apart_snoc h2.apart fun t ht => ?_)
  · rcases List.mem_append.1 ht with ht | ht
    · exact .inl ht
    · have : t = ⟨a, c, List.replicate (n - 8) 0⟩ := by simpa using ht
      subst this
      refine .inr ⟨hc, d3, by dsimp only; rw [List.length_replicate]; exact d4, ⟨h8, by dsimp only; rw [List.length_replicate]; omega⟩, .inr ⟨m, hu, ?_⟩⟩
      dsimp only
      rw [List.length_replicate]
      omega
  · dsimp only
    rw [List.length_replicate]
    have := hapart t ht
    omega

/-- An object in the space. -/
theorem OSt.dictObj (h : OSt bs S hz z x k A L l T) {n c : Nat} (hc : c < k) (hn8 : n % 8 = 0) (hn : 8 ≤ n) (hroom : x + n ≤ hz) :
    OSt (sett (setc bs (x : Int) ((A c : Nat) : Int)) ((x : Int) + 8) (List.replicate (n - 8) 0)) S hz z (x + n) k A L l (T ++ [⟨x, c, List.replicate (n - 8) 0⟩]) := by
  have hlen := h.len
  have hle := h.blks.le
  have hlow := h.cst.low
  have hx8 := h.x8
  have hAc : I64 ((A c : Nat) : Int) := by
    have := (h.cst.pl c hc).2.2
    have := h.cst.xb
    have := h.cst.big
    unfold I64
    omega
  obtain ⟨ds, e, d1, d2, d3, d4⟩ := obj_bytes bs x n ((A c : Nat) : Int) hx8 hn (by omega) h.cst.big hAc
  rw [e]
  have hapart : ∀ t ∈ T, t.at' + 8 + t.txt.length ≤ x ∨ x + n ≤ t.at' := fun t ht => by
    have := h.inside ht
    omega
  have h2 := h.wrote (T' := T) (y := x + n) d1 d2 (by omega) hroom (by omega) (.inr ⟨hlow, Nat.le_refl _, fun i hi => by have := h.cst.pl i hi; omega⟩) (fun t ht => ⟨ht, hapart t ht⟩) h.apart
  refine h2.things (fun t ht => ?_) (apart_snoc h2.apart fun t ht => ?_)
  · rcases List.mem_append.1 ht with ht | ht
    · exact .inl ht
    · have : t = ⟨x, c, List.replicate (n - 8) 0⟩ := by simpa using ht
      subst this
      refine .inr ⟨hc, d3, by dsimp only; rw [List.length_replicate]; exact d4, ⟨hx8, by dsimp only; rw [List.length_replicate]; omega⟩, .inl ⟨hlow, ?_, fun i hi => ?_⟩⟩
      · dsimp only
        rw [List.length_replicate]
        omega
      · dsimp only
        have := h.cst.pl i hi
        omega
  · dsimp only
    rw [List.length_replicate]
    have := hapart t ht
    omega
end Go.Proofs.Ytajeiccfgnpbpaa.Mem

/- Plain mathematics: the state of ObjectSends behind an object's filling; what the statement asks of each object. No program. -/
namespace Go.Proofs.Ytajeiccfgnpbpaa.Mem
open Go.RowKit

variable {bs : List UInt8} {S hz z x k : Nat} {A : Nat → Nat} {L : List RC} {l : List Bk} {T : List Th}

theorem OSt.apart2 (h : OSt bs S hz z x k A L l T) {i j : Nat} {t u : Th} (hij : i ≠ j) (hi : T[i]? = some t) (hj : T[j]? = some u) : t.at' + 8 + t.txt.length ≤ u.at' ∨ u.at' + 8 + u.txt.length ≤ t.at' := by
  rcases Nat.lt_or_ge i j with e | e
  · exact h.apart i j t u e hi hj
  · exact (h.apart j i u t (by omega) hj hi).symm

/-- An object is filled. -/
theorem OSt.fill (h : OSt bs S hz z x k A L l T) {i : Nat} {t : Th} (hi : T[i]? = some t) (b : UInt8) :
    OSt (sett bs ((t.at' : Int) + 8) (List.replicate t.txt.length b)) S hz z x k A L l (T.set i ⟨t.at', t.cls, List.replicate t.txt.length b⟩) := by
  have htm := List.mem_of_getElem? hi
  have hin := h.inside htm
  have hbig := h.cst.big
  have ha8 := h.a8 t htm
  have e : sett bs ((t.at' : Int) + 8) (List.replicate t.txt.length b) = put bs (t.at' + 8) (List.replicate t.txt.length b) := by
    unfold sett
    rw [if_pos (by rw [List.length_replicate]; simp [has]; omega), show ((t.at' : Int) + 8).toNat = t.at' + 8 by omega]
  rw [e]
  have ho := put_out (x := t.at' + 8) (z := t.at' + 8 + t.txt.length) bs (List.replicate t.txt.length b) (t.at' + 8) (Nat.le_refl _) (by rw [List.length_replicate]; omega) (by rw [List.length_replicate]; omega)
  have htx := text_put bs (List.replicate t.txt.length b) (t.at' + 8) (by omega)
  rw [List.length_replicate] at htx
  have hcl := cellv_put_other bs (List.replicate t.txt.length b) (t.at' + 8) t.at' (Nat.le_refl _) (by omega)
  obtain ⟨cs, hcs⟩ : ∃ cs, put bs (t.at' + 8) (List.replicate t.txt.length b) = cs := ⟨_, rfl⟩
  rw [hcs] at ho htx hcl ⊢
  have h2 := h.wrote (T' := []) (a := t.at') (n := 8 + t.txt.length) ho.1 (fun i hi => ho.2 i (by omega)) h.x8 h.xhz (Nat.le_refl _) (by
    rcases h.place t htm with ⟨p1, p2, p3⟩ | ⟨m, hu, hm⟩
    · exact .inr ⟨p1, by omega, fun i hi => by rcases p3 i hi with e | e <;> omega⟩
    · exact .inl ⟨m, hu, by omega⟩) (fun t ht => absurd ht (List.not_mem_nil)) (fun i j t u _ hi _ => by simp at hi)
  have hget : ∀ j u, (T.set i ⟨t.at', t.cls, List.replicate t.txt.length b⟩)[j]? = some u → (j ≠ i ∧ T[j]? = some u) ∨ (j = i ∧ u = ⟨t.at', t.cls, List.replicate t.txt.length b⟩) := fun j u hj => by
    by_cases hji : j = i
    · subst hji
      rw [List.getElem?_set_self (List.getElem?_eq_some_iff.1 hi).1] at hj
      exact .inr ⟨rfl, (Option.some.inj hj).symm⟩
    · rw [List.getElem?_set_ne (fun e => hji e.symm)] at hj
      exact .inl ⟨hji, hj⟩
  refine h2.things (fun u hu => .inr ?_) (fun j1 j2 u v hlt hj1 hj2 => ?_)
  · obtain ⟨j, hj⟩ := List.mem_iff_getElem?.1 hu
    rcases hget j u hj with ⟨hne, hj⟩ | ⟨rfl, rfl⟩
    · have hum := List.mem_of_getElem? hj
      have hk := keep_thing (t := u) ho.1 (h.inside hum).1 fun i' h1 h2 => ho.2 i' (by
        have := h.apart2 hne hj hi
        omega)
      exact ⟨h.cls u hum, by rw [hk.1, h.cell u hum], by rw [hk.2, h.txt u hum], h.a8 u hum, h.place u hum⟩
    · refine ⟨h.cls t htm, by dsimp only; rw [hcl, h.cell t htm], by dsimp only; rw [List.length_replicate]; exact htx, ⟨ha8.1, by dsimp only; rw [List.length_replicate]; exact ha8.2⟩, ?_⟩
      have := h.place t htm
      unfold ThAt at this ⊢
      dsimp only
      rw [List.length_replicate]
      exact this
  · rcases hget j1 u hj1 with ⟨n1, g1⟩ | ⟨rfl, rfl⟩ <;> rcases hget j2 v hj2 with ⟨n2, g2⟩ | ⟨rfl, rfl⟩
    · exact h.apart j1 j2 u v hlt g1 g2
    · have := h.apart j1 j2 u t hlt g1 hi
      dsimp only
      rw [List.length_replicate]
      exact this
    · have := h.apart j1 j2 t v hlt hi g2
      dsimp only
      rw [List.length_replicate]
      exact this
    · omega

/-- What Class tells of an object. -/
theorem OSt.ocls (h : OSt bs S hz z x k A L l T) {t : Th} (ht : t ∈ T) : Mem.ocls bs 8 ((t.at' : Nat) : Int) = (((A t.cls : Nat) : Int), 0) := by
  have hin := h.inside ht
  have hc : Mem.cell bs ((t.at' : Nat) : Int) = (((A t.cls : Nat) : Int), 0) := by
    unfold Mem.cell
    rw [if_pos (code_of (by omega) (by omega) (by have := (h.a8 t ht).1; omega)), Int.toNat_natCast, h.cell t ht]
  unfold Mem.ocls
  rw [hc, if_pos ⟨rfl, by rw [h.cst.isIn]; exact decide_eq_true ⟨_, h.cls t ht, rfl⟩⟩]

/-- What an object's text is. -/
theorem OSt.otxt (h : OSt bs S hz z x k A L l T) {t : Th} (ht : t ∈ T) : Mem.txt bs ((t.at' : Nat) + 8 : Int) ((t.txt.length : Nat) : Int) = (t.txt, 0) := by
  have hin := h.inside ht
  unfold Mem.txt
  rw [if_pos (by simp [has]; omega), Int.toNat_natCast, show ((t.at' : Nat) + 8 : Int).toNat = t.at' + 8 by omega, h.txt t ht]

/-- What Send tells of an object. -/
theorem OSt.osend (h : OSt bs S hz z x k A L l T) {t : Th} (ht : t ∈ T) (sel : Int) :
    ∃ n : Int, n ≤ (S : Nat) ∧ ((∃ xt j, walkN L sel t.cls = some (xt, j) ∧ Mem.osend bs 8 ((t.at' : Nat) : Int) sel = (xt, n, 0)) ∨ (walkN L sel t.cls = none ∧ Mem.osend bs 8 ((t.at' : Nat) : Int) sel = (0, 0, -2049))) := by
  obtain ⟨n, hn, hl⟩ := h.cst.look (h.cls t ht) sel
  refine ⟨n, hn, ?_⟩
  unfold Mem.osend
  rw [h.ocls ht, if_pos rfl]
  dsimp only
  rw [hl]
  cases hw : walkN L sel t.cls with
  | some r =>
    obtain ⟨xt, j⟩ := r
    exact .inl ⟨xt, j, rfl, rfl⟩
  | none => exact .inr ⟨rfl, rfl⟩
end Go.Proofs.Ytajeiccfgnpbpaa.Mem
