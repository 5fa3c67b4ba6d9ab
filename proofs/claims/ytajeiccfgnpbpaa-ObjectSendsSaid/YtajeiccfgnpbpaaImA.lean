/- The statement IfaceMissing: a world with classes that have methods; one more class. -/
import Derived.Test.YtajeiccfgnpbpaaWkG
import Derived.Test.YtajeiccfgnpbpaaClsM
import Derived.Test.YtajeiccfgnpbpaaClsO
import Derived.Test.YtajeiccfgnpbpaaQl
set_option linter.unusedSimpArgs false
set_option linter.unusedVariables false

namespace Go.Proofs.Ytajeiccfgnpbpaa.Mem
open Go.RowKit

theorem CSt.more {bs cs : List UInt8} {S x y k : Nat} {A : Nat → Nat} {L : List RC} (h : CSt bs S x k A L) (hl : cs.length = bs.length) (hxy : x ≤ y) (hy : y ≤ bs.length) (hc : ∀ b, b + 8 ≤ x → cellv cs b = cellv bs b) : CSt cs S y k A L := by
  have hlow := h.low
  refine ⟨h.klen, by rw [hl]; exact hy, by rw [hl]; exact h.big, by omega, ?_, fun i hi => ?_, h.inc, fun i hi => ?_, fun i hi => ?_, fun i hi => ?_, fun i r hr => ?_, fun i r hr => ?_, fun i hi => ?_, h.slots, h.wf⟩
  · rw [hc 8 (by omega), h.root]
  · have := h.pl i hi; omega
  · have := h.pl i hi; rw [hc _ (by omega), h.mag i hi]
  · have := h.pl i hi; rw [hc _ (by omega), h.tb i hi]
  · have := h.pl i hi; rw [hc _ (by omega), h.prv i hi]
  · have hik : i < k := by
      rcases Nat.lt_or_ge i L.length with h1 | h1
      · rw [h.klen] at h1; exact h1
      · rw [List.getElem?_eq_none h1] at hr; cases hr
    have := h.pl i hik
    rw [hc _ (by omega), h.par i r hr]
  · have hik : i < k := by
      rcases Nat.lt_or_ge i L.length with h1 | h1
      · rw [h.klen] at h1; exact h1
      · rw [List.getElem?_eq_none h1] at hr; cases hr
    have := h.pl i hik
    rw [hc _ (by omega), h.siz i r hr]
  · have hp := h.pl i hi
    have hx := h.xb
    exact (h.tab i hi).same (by omega) (by rw [hl]; omega) (hc _ (by omega)) (fun j hj => hc _ (by omega))

theorem r4_snoc (L : List RC) (r : RC) (vs : Nat → Value) (u : Value) : r4 (L ++ [r]) (fun j => if j = L.length then u else vs j) = r4 L vs ++ [(r.par, r.size, r.slots, u)] := by
  apply List.ext_getElem?
  intro j
  rcases Nat.lt_or_ge j L.length with h | h
  · rw [List.getElem?_append_left (by rw [r4_len]; exact h), r4_get L vs j h, r4_get _ _ j (by simp; omega)]
    simp [List.getElem_append_left h, show ¬ j = L.length by omega]
  · rw [List.getElem?_append_right (by rw [r4_len]; exact h), r4_len]
    rcases Nat.lt_or_ge (j - L.length) 1 with h1 | h1
    · obtain rfl : j = L.length := by omega
      rw [r4_get _ _ L.length (by simp)]
      simp
    · rw [List.getElem?_eq_none (by rw [r4_len]; simp; omega), List.getElem?_eq_none (by simpa using h1)]

/-- The classes' places, as numbers. -/
def ats (A : Nat → Nat) (k : Nat) : List Int := (List.range k).map fun i => ((A i : Nat) : Int)
theorem ats_get (A : Nat → Nat) (k i : Nat) (h : i < k) : (ats A k)[i]? = some ((A i : Nat) : Int) := by simp [ats, h]

/-- A world with k classes of S slots, whose methods are the document's. -/
def LWm (wb p g b S z k t : Nat) (A : Nat → Nat) (L : List RC) (wr : World) : Prop :=
  ∃ (bs : List UInt8) (x : Nat) (vs : Nat → Value) (vA vL : Value), wr.heap[wb]? = some (.cells #[.pointer (some ⟨p, 0, none⟩), .pointer (some ⟨b, 0, none⟩), .int .i64 8, vA, vL] 56 (0, 0)) ∧ Sat wr b p g 8 z x bs ∧ bs.length = z ∧
    x = 16 + (56 + 24 * S) * k ∧ CSt bs S x k A L ∧ (∀ j, (vs j).oneCell' = true) ∧ (∀ j (h : j < L.length), OwnR wr (vs j) L[j].own) ∧ (∀ j (h : j < L.length), L[j].own.length ≤ t ∧ L[j].size = 8) ∧
    ((k = 0 ∧ vA = .slice none 0 0 ∧ vL = .slice none 0 0) ∨
     (0 < k ∧ ∃ gA cA gL cL : Nat, vA = .slice (some ⟨gA, 0, none⟩) k cA ∧ vL = .slice (some ⟨gL, 0, none⟩) k cL ∧ gA ≠ gL ∧ wr.ownsRow (wb + 1) 2 1 (.slice (some ⟨gA, 0, none⟩) k cA) k ((ats A k).map (.int .i64)) ∧ wr.ownsRow (wb + 1) 90 4 (.slice (some ⟨gL, 0, none⟩) k cL) k (rows4 (r4 L vs))))

theorem own_obj {w : World} {B g n c size : Nat} {t : TypeId} {xs : List Value} (h : w.ownsRow B t size (.slice (some ⟨g, 0, none⟩) n c) n xs) : ∃ cs, w.heap[g]? = some (.cells cs t (0, 0)) := by
  rcases h.2 with ⟨e, _⟩ | ⟨g', cap, cur, hv, hb, hg, _⟩
  · cases e
  · simp only [Value.slice.injEq, Option.some.injEq, Addr.mk.injEq, and_true, true_and] at hv
    obtain ⟨rfl, rfl⟩ := hv
    exact ⟨cur, hg⟩

theorem lwm_of {wb p g b S z k t gA : Nat} {A' : Nat → Nat} {bs1 : List UInt8} {L L' : List RC} {vs : Nat → Value} {c : Int} {ats0 : List Int} {w w' : World} {e : Ending} {rn : RC} (hrn : L' = L ++ [rn]) (hrno : rn.own = []) (hrns : rn.size = 8) (hLk : L.length = k)
    (h : MadeMore wb p g b 8 z (16 + (56 + 24 * S) * (k + 1)) (wb + 1) gA k bs1 8 c ats0 (r4 L vs ++ [(rn.par, rn.size, rn.slots, .slice none 0 0)]) w e w') (hbl : bs1.length = z) (hcs : CSt bs1 S (16 + (56 + 24 * S) * (k + 1)) (k + 1) A' L') (hats : ats0 ++ [c] = ats A' (k + 1)) (hgA : gA = wb ∨ wb + 1 ≤ gA)
    (hone : ∀ j, (vs j).oneCell' = true) (hown : ∀ j (h : j < L.length), OwnR w (vs j) L[j].own) (hfew : ∀ j (h : j < L.length), L[j].own.length ≤ t ∧ L[j].size = 8)
    (hty : ∀ j cs, w.heap[j]? = some (.cells cs 150 (0, 0)) → ¬ (j = wb ∨ j = gA ∨ (j = b ∨ j = g))) :
    e = .returned (.bool true) ∧ LWm wb p g b S z (k + 1) t A' L' w' ∧ Fr (fun j => wb ≤ j ∨ j = b ∨ j = g) w w' := by
  obtain ⟨he, ⟨gA', cA', gL', cL', hob, hne, hoA, hoL⟩, hs, hf⟩ := h
  subst hrn
  rw [hats] at hoA
  refine ⟨he, ⟨bs1, _, fun j => if j = k then .slice none 0 0 else vs j, _, _, hob, hs, hbl, rfl, hcs, fun j => ?_, fun j hj => ?_, fun j hj => ?_, .inr ⟨by omega, gA', cA', gL', cL', rfl, rfl, hne, hoA, ?_⟩⟩, Fr.some hf fun j e => by omega⟩
  · dsimp only
    split
    · rfl
    · exact hone j
  · dsimp only
    rcases Nat.lt_or_ge j L.length with h1 | h1
    · rw [if_neg (by omega)]
      have := (hown j h1).fr hf (fun k cs hk => hty k cs hk)
      rwa [List.getElem_append_left h1]
    · have hj' : j = k := by rw [List.length_append, List.length_singleton] at hj; omega
      subst hj'
      rw [if_pos rfl]
      have : (L ++ [rn])[j] = rn := by rw [List.getElem_append_right (by omega)]; simp [hLk]
      rw [this, hrno]
      exact ⟨none, 0, rfl, .inl rfl⟩
  · rcases Nat.lt_or_ge j L.length with h1 | h1
    · rw [List.getElem_append_left h1]
      exact hfew j h1
    · have : (L ++ [rn])[j] = rn := by rw [List.getElem_append_right (by omega)]; simp [show j - L.length = 0 by rw [List.length_append, List.length_singleton] at hj; omega]
      rw [this, hrno, hrns]
      exact ⟨Nat.zero_le _, rfl⟩
  · have := r4_snoc L rn vs (.slice none 0 0)
    rw [hLk] at this
    rw [this]
    exact hoL

theorem ats_snoc (A : Nat → Nat) (k a : Nat) : ats A k ++ [((a : Nat) : Int)] = ats (fun i => if i = k then a else A i) (k + 1) := by
  unfold ats
  rw [List.range_succ, List.map_append]
  congr 1
  · apply List.map_congr_left
    intro i hi
    have := List.mem_range.1 hi
    show ((A i : Nat) : Int) = ((if i = k then a else A i : Nat) : Int)
    rw [if_neg (by omega)]
  · simp

/-- What one more class comes to. -/
def LWn (wb p g b S z k t : Nat) (L : List RC) (w : World) (e : Ending) (w' : World) : Prop :=
  e = .returned (.bool true) ∧ (∃ (A' : Nat → Nat) (rn : RC), rn.own = [] ∧ LWm wb p g b S z (k + 1) t A' (L ++ [rn]) w') ∧ Fr (fun j => wb ≤ j ∨ j = b ∨ j = g) w w'

theorem lwm_make {wb p g b S z k t : Nat} {A : Nat → Nat} {L : List RC} (par : Int) (w : World) (h : LWm wb p g b S z k t A L w) (h1 : 1 ≤ S) (h2 : S ≤ 1024) (hk : k ≤ 63) (hroom : 16 + (56 + 24 * S) * (k + 1) ≤ z) (hp : 0 ≤ par) (hd : b < wb ∧ p < wb ∧ g < wb) :
    Calls Try.prog 26 #[.pointer (some ⟨wb, 0, none⟩), .int .i64 par, .int .i64 (S : Nat)] w (LWn wb p g b S z k t L w) := by
  obtain ⟨bs, x, vs, vA, vL, hob, hs, hbl, rfl, hcst, hone, hown, hfew, hv⟩ := h
  have hwl := lt_of_block hob
  have hbig := hcst.big
  have hLk := hcst.klen
  have hx8 : (16 + (56 + 24 * S) * k) % 8 = 0 := by
    have : (56 + 24 * S) * k = 8 * ((7 + 3 * S) * k) := by rw [← Nat.mul_assoc]; congr 1; omega
    omega
  have hstep : 16 + (56 + 24 * S) * (k + 1) = 16 + (56 + 24 * S) * k + 56 + 24 * S := by rw [Nat.mul_add]; omega
  have hgobj : ∃ cs, w.heap[g]? = some (.cells cs 5 (0, 0)) := ⟨_, hs.mat.2.2.1⟩
  have hbobj := hs.2.2.1
  have hgen : ∀ q : Int, -1 ≤ q ∧ q < (k : Int) → sizeOfP L q = 8 := fun q hq => by
    unfold sizeOfP
    split
    · rfl
    · have hql : q.toNat < L.length := by omega
      have := (hfew q.toNat hql).2
      simpa [List.getD_eq_getElem?_getD, List.getElem?_eq_getElem hql] using this
  have hnew : ∀ q : Int, -1 ≤ q ∧ q < (k : Int) → ∃ bs1, cnewv z (16 + (56 + 24 * S) * k) bs 8 (ppl A q) (S : Nat) = ((((16 + (56 + 24 * S) * k + 16 + 24 * S : Nat) : Int), 0), 16 + (56 + 24 * S) * (k + 1), bs1) ∧ bs1.length = z ∧ CSt bs1 S (16 + (56 + 24 * S) * (k + 1)) (k + 1) (fun i => if i = k then 16 + (56 + 24 * S) * k + 16 + 24 * S else A i) (L ++ [⟨q, 8, (S : Nat), []⟩]) := fun q hq => by
    obtain ⟨bs1, e1, e2, e3⟩ := hcst.new (z := z) h1 h2 hx8 (by omega) (by omega) hq (by rw [hgen q hq]; unfold I64; omega)
    rw [hgen q hq, ← hstep] at e3
    rw [← hstep] at e1
    exact ⟨bs1, e1, by rw [e2, hbl], e3⟩
  rcases hv with ⟨rfl, rfl, rfl⟩ | ⟨hk0, gA, cA, gL, cL, rfl, rfl, hne, hoA, hoL⟩
  · obtain ⟨bs1, hc, hb1, hcs1⟩ := hnew (-1) (by omega)
    rw [show ppl A (-1) = 0 from rfl] at hc
    have hL0 : L = [] := List.length_eq_zero_iff.1 hLk
    subst hL0
    refine (wmake_zero (S : Nat) par wb p g b z (16 + (56 + 24 * S) * 0) (16 + (56 + 24 * S) * (0 + 1)) (wb + 1) bs bs1 8 _ w hob (by omega) hs hx8 (by omega) (by omega) hp hc (by rw [hcs1.isIn]; exact decide_eq_true ⟨0, by omega, by simp⟩) (by omega)).mono fun e w' hm => ?_
    obtain ⟨e1, e2, e3⟩ := lwm_of (L := []) (vs := vs) (rn := ⟨-1, 8, (S : Nat), []⟩) (t := t) rfl rfl rfl rfl hm hb1 hcs1 (by simp [ats]) (.inl rfl) hone hown hfew (fun j cs hj e => by
      obtain ⟨gcs, hg⟩ := hgobj
      rcases e with rfl | rfl | rfl | rfl
      · rw [hob] at hj; simp at hj
      · rw [hob] at hj; simp at hj
      · rw [hbobj] at hj; simp at hj
      · rw [hg] at hj; simp at hj)
    exact ⟨e1, ⟨_, _, rfl, e2⟩, e3⟩
  · have h1r : ∀ r ∈ r4 L vs, r.2.2.2.oneCell' = true := fun r hr => by
      simp only [r4, List.mem_mapIdx] at hr
      obtain ⟨j, hj, rfl⟩ := hr
      exact hone j
    have hbA := (hoA.lt gA rfl).1
    obtain ⟨acs, hAo⟩ := own_obj hoA
    have hty : ∀ j cs, w.heap[j]? = some (.cells cs 150 (0, 0)) → ¬ (j = wb ∨ j = gA ∨ (j = b ∨ j = g)) := fun j cs hj e => by
      obtain ⟨gcs, hg⟩ := hgobj
      rcases e with rfl | rfl | rfl | rfl
      · rw [hob] at hj; simp at hj
      · rw [hAo] at hj; simp at hj
      · rw [hbobj] at hj; simp at hj
      · rw [hg] at hj; simp at hj
    by_cases hlt : par < k
    · obtain ⟨q, rfl⟩ : ∃ q : Nat, par = q := ⟨par.toNat, by omega⟩
      have hq : q < k := by omega
      obtain ⟨bs1, hc, hb1, hcs1⟩ := hnew q (by omega)
      rw [show ppl A (q : Int) = ((A q : Nat) : Int) by unfold ppl; rw [if_neg (by omega), Int.toNat_natCast]] at hc
      have hql : q < L.length := by omega
      have hpl := hcst.pl q hq
      have hxb := hcst.xb
      have hsl := hcst.slots q _ (List.getElem?_eq_getElem hql)
      have hsz := (hfew q hql).2
      refine (wmake_of (S : Nat) L[q].par L[q].size L[q].slots _ (vs q) q wb p g b z (16 + (56 + 24 * S) * k) (16 + (56 + 24 * S) * (k + 1)) (wb + 1) gA gL cA cL k bs bs1 8 _ (ats A k) (r4 L vs) w hob hoA hoL hne h1r (by omega) hk0 hs hx8 (by omega) (by omega) (r4_get L vs q hql) (ats_get A k q hq) (by omega) hc (by rw [hcs1.isIn]; exact decide_eq_true ⟨k, by omega, by simp⟩) (by omega)).mono fun e w' hm => ?_
      rw [hsl, hsz] at hm
      obtain ⟨e1, e2, e3⟩ := lwm_of (rn := ⟨q, 8, (S : Nat), []⟩) (t := t) rfl rfl rfl hLk hm hb1 hcs1 (ats_snoc A k _) (.inr hbA) hone hown hfew hty
      exact ⟨e1, ⟨_, _, rfl, e2⟩, e3⟩
    · obtain ⟨bs1, hc, hb1, hcs1⟩ := hnew (-1) (by omega)
      rw [show ppl A (-1) = 0 from rfl] at hc
      refine (wmake_no (S : Nat) par wb p g b z (16 + (56 + 24 * S) * k) (16 + (56 + 24 * S) * (k + 1)) (wb + 1) gA gL cA cL k bs bs1 8 _ (ats A k) (r4 L vs) w hob hoA hoL hne h1r (by omega) hk0 hs hx8 (by omega) (by omega) (by omega) hc (by rw [hcs1.isIn]; exact decide_eq_true ⟨k, by omega, by simp⟩) (by omega)).mono fun e w' hm => ?_
      obtain ⟨e1, e2, e3⟩ := lwm_of (rn := ⟨-1, 8, (S : Nat), []⟩) (t := t) rfl rfl rfl hLk hm hb1 hcs1 (ats_snoc A k _) (.inr hbA) hone hown hfew hty
      exact ⟨e1, ⟨_, _, rfl, e2⟩, e3⟩
end Go.Proofs.Ytajeiccfgnpbpaa.Mem
