/- Several texts in one: ObsA, ObsB, ObsC, ObsD. -/
import Derived.Test.YtajeiccfgnpbpaaWkG
import Derived.Test.YtajeiccfgnpbpaaQi
import Derived.Test.YtajeiccfgnpbpaaQh
set_option linter.unusedSimpArgs false
set_option linter.unusedVariables false
/- Plain mathematics: which bytes a new class writes; where there is no room. No program. -/
namespace Go.Proofs.Ytajeiccfgnpbpaa.Mem
open Go.RowKit

/-- Only bytes from x on, before z, may have changed. -/
def Out (x z : Nat) (bs cs : List UInt8) : Prop := cs.length = bs.length ∧ ∀ i, i < x ∨ z ≤ i → cs.getD i 0 = bs.getD i 0
theorem Out.refl (x z : Nat) (bs : List UInt8) : Out x z bs bs := ⟨rfl, fun _ _ => rfl⟩
theorem Out.trans {x z : Nat} {bs cs ds : List UInt8} (h : Out x z bs cs) (k : Out x z cs ds) : Out x z bs ds := ⟨k.1.trans h.1, fun i hi => (k.2 i hi).trans (h.2 i hi)⟩
theorem Out.mono {x z y u : Nat} {bs cs : List UInt8} (h : Out x z bs cs) (h1 : y ≤ x) (h2 : z ≤ u) : Out y u bs cs := ⟨h.1, fun i hi => h.2 i (by omega)⟩
theorem Out.setv {x z : Nat} (bs : List UInt8) (y : Nat) (n : Int) (h1 : x ≤ y) (h2 : y + 8 ≤ z) : Out x z bs (Mem.setv bs y n) := ⟨setv_length _ _ _, fun i hi => getD_setv _ _ _ _ (by omega)⟩
theorem Out.cellv {x z : Nat} {bs cs : List UInt8} (h : Out x z bs cs) (b : Nat) (hb : b + 8 ≤ x ∨ z ≤ b) : Mem.cellv cs b = Mem.cellv bs b := by
  unfold Mem.cellv
  rw [rd_congr (bs := cs) (cs := bs) (b := b) 8 fun i hi => h.2 _ (by omega)]

theorem layz_out (z : Nat) : ∀ k x bs, x ≤ z → Out x z bs (layz z k x bs).2.1
  | 0, _, _, _ => Out.refl _ _ _
  | k + 1, x, bs, h => by
    rw [layz]
    split
    · exact (Out.setv bs x 0 (Nat.le_refl _) (by omega)).trans ((layz_out z k (x + 8) _ (by omega)).mono (by omega) (Nat.le_refl _))
    · exact Out.refl _ _ _
theorem layz_full (z : Nat) : ∀ k x bs, x ≤ z → ¬ x + 8 * k ≤ z → (layz z k x bs).2.2 = false
  | 0, _, _, h, hn => by omega
  | k + 1, x, bs, h, hn => by
    rw [layz]
    split
    · exact layz_full z k (x + 8) _ (by omega) (by omega)
    · rfl
theorem layt_out (z x n : Nat) (bs : List UInt8) (h : x ≤ z) : Out x z bs (layt z x bs n).2.1 := by
  unfold layt
  split
  · exact (Out.setv bs x n (Nat.le_refl _) (by omega)).trans ((layz_out z _ (x + 8) _ (by omega)).mono (by omega) (Nat.le_refl _))
  · exact Out.refl _ _ _
theorem layt_full (z x n : Nat) (bs : List UInt8) (h : x ≤ z) (hn : ¬ x + 16 + 24 * n ≤ z) : (layt z x bs n).2.2 = false := by
  unfold layt
  split
  · exact layz_full z _ (x + 8) _ (by omega) (by omega)
  · rfl
theorem layl_out (z : Nat) : ∀ (l : List Int) x bs, x ≤ z → Out x z bs (layl z l x bs).2.1
  | [], _, _, _ => Out.refl _ _ _
  | n :: l, x, bs, h => by
    rw [layl]
    split
    · exact (Out.setv bs x n (Nat.le_refl _) (by omega)).trans ((layl_out z l (x + 8) _ (by omega)).mono (by omega) (Nat.le_refl _))
    · exact Out.refl _ _ _
theorem layl_full (z : Nat) : ∀ (l : List Int) x bs, x ≤ z → ¬ x + 8 * l.length ≤ z → (layl z l x bs).2.2 = false
  | [], _, _, h, hn => by simp at hn; omega
  | n :: l, x, bs, h, hn => by
    rw [layl]
    split
    · exact layl_full z l (x + 8) _ (by omega) (by rw [List.length_cons] at hn; omega)
    · rfl

theorem newv_out (z x : Nat) (bs : List UInt8) (n : Int) (h : x ≤ z) : Out x z bs (newv z x bs n).2.2 := by
  unfold newv
  split
  · split
    · exact layt_out z x _ bs h
    · exact layt_out z x _ bs h
  · exact Out.refl _ _ _
theorem newv_full (z x S : Nat) (bs : List UInt8) (h : x ≤ z) (h1 : 1 ≤ S) (h2 : S ≤ 1024) (hn : ¬ x + 16 + 24 * S ≤ z) : (newv z x bs (S : Nat)).1 = (0, -8) ∧ (newv z x bs (S : Nat)).2.1 = x := by
  unfold newv
  rw [if_pos ⟨by omega, by omega⟩, Int.toNat_natCast, if_neg (by rw [layt_full z x S bs h hn]; decide)]
  exact ⟨rfl, rfl⟩

theorem put_out {x z : Nat} (bs T : List UInt8) (y : Nat) (h1 : x ≤ y) (h2 : y + T.length ≤ z) (h3 : y + T.length ≤ bs.length) : Out x z bs (put bs y T) := by
  refine ⟨put_length _ _ _ h3, fun i hi => ?_⟩
  simp only [put, List.getD_eq_getElem?_getD]
  rcases hi with hi | hi
  · rw [List.append_assoc, List.getElem?_append_left (by simp; omega), List.getElem?_take, if_pos (by omega)]
  · rw [List.getElem?_append_right (by simp; omega), List.getElem?_drop]
    congr 2
    simp
    omega

variable {bs : List UInt8} {S x k : Nat} {A : Nat → Nat} {L : List RC}

theorem copyS_out {z t : Nat} (h1 : 1 ≤ S) (h2 : S ≤ 1024) (h : x ≤ z) (hl : z ≤ bs.length) (ht : t + 16 + 24 * S ≤ x) (hs : slots bs t = (S : Nat)) : Out x z bs (copyv z x bs t).2.2 := by
  by_cases hr : x + 16 + 24 * S ≤ z
  · obtain ⟨cs, hn, hcl, hco, hcx, _⟩ := newS_room S z x bs h1 h2 hr hl
    have ho := newv_out z x bs (S : Nat) h
    unfold copyv
    rw [hs, hn, if_pos rfl]
    rw [hn] at ho
    dsimp only at ho ⊢
    have htx : (txt cs t (16 + (S : Nat) * 24)).1 = text cs t (16 + 24 * S) := by
      unfold txt
      rw [if_pos (by simp [has]; omega), show ((16 : Int) + ((S : Nat) : Int) * 24).toNat = 16 + 24 * S by omega, Int.toNat_natCast]
    have hlen : (text cs t (16 + 24 * S)).length = 16 + 24 * S := text_length _ _ _ (by omega)
    have hse : sett cs (x : Int) (text cs t (16 + 24 * S)) = put cs x (text cs t (16 + 24 * S)) := by
      unfold sett
      rw [if_pos (by simp [has, hlen]; omega)]
      rfl
    rw [htx, hse]
    exact ho.trans (put_out _ _ _ (Nat.le_refl _) (by omega) (by omega))
  · have hf := newv_full z x S bs h h1 h2 hr
    unfold copyv
    rw [hs, hf.1, if_neg (by decide)]
    exact newv_out z x bs _ h

/-- One more class where there is no room. -/
theorem CSt.newFull (h : CSt bs S x k A L) {z : Nat} (h1 : 1 ≤ S) (h2 : S ≤ 1024) (hxz : x ≤ z) (hroom : ¬ x + 56 + 24 * S ≤ z) (hz : z ≤ bs.length) {p : Int} (hp : -1 ≤ p ∧ p < (k : Int)) :
    ∃ cs, cnewv z x bs 8 (ppl A p) (S : Nat) = ((0, -8), x, cs) ∧ Out x z bs cs := by
  have hlow := h.low
  have hr : Mem.cell bs 8 = (((lastp A k : Nat) : Int), 0) := by
    rw [show (8 : Int) = ((8 : Nat) : Int) from rfl, h.cell 8 (by omega) (by omega), h.root]
  -- the table
  have htab : ((tabv z x bs 8 (ppl A p) (S : Nat)).1 = (0, -8) ∨ ((tabv z x bs 8 (ppl A p) (S : Nat)).1.2 = 0 ∧ (tabv z x bs 8 (ppl A p) (S : Nat)).2.1 = x + 16 + 24 * S ∧ x + 16 + 24 * S ≤ z)) ∧ Out x z bs (tabv z x bs 8 (ppl A p) (S : Nat)).2.2.1 := by
    unfold tabv
    by_cases hp0 : p < 0
    · rw [show ppl A p = 0 by unfold ppl; rw [if_pos hp0], if_pos rfl]
      refine ⟨?_, newv_out z x bs _ hxz⟩
      by_cases hr2 : x + 16 + 24 * S ≤ z
      · obtain ⟨cs, hn, _⟩ := newS_room S z x bs h1 h2 hr2 hz
        rw [hn]
        exact .inr ⟨rfl, rfl, hr2⟩
      · exact .inl (newv_full z x S bs hxz h1 h2 hr2).1
    · have hpk : p.toNat < k := by omega
      obtain ⟨g1, g2, g3⟩ := h.pl p.toNat hpk
      have hpp : ppl A p = ((A p.toNat : Nat) : Int) := by unfold ppl; rw [if_neg hp0]
      have hne : ¬ (((A p.toNat : Nat) : Int) = 0) := by omega
      have hin : Mem.isIn bs 8 ((A p.toNat : Nat) : Int) = true := by rw [h.isIn]; exact decide_eq_true ⟨_, hpk, rfl⟩
      rw [hpp, if_neg hne, if_pos hin, h.v p.toNat hpk]
      have hsl : Mem.slots bs ((A p.toNat - (16 + 24 * S) : Nat) : Int) = (S : Nat) := (h.tab p.toNat hpk).slots
      show (_ ∨ _) ∧ Out x z bs (copyv z x bs ((A p.toNat - (16 + 24 * S) : Nat) : Int)).2.2
      refine ⟨?_, copyS_out h1 h2 hxz hz (by omega) hsl⟩
      by_cases hr2 : x + 16 + 24 * S ≤ z
      · obtain ⟨cs, hn, _⟩ := copyS_room S z x (A p.toNat - (16 + 24 * S)) bs h1 h2 hr2 hz (by omega) hsl
        show (copyv z x bs ((A p.toNat - (16 + 24 * S) : Nat) : Int)).1 = (0, -8) ∨ ((copyv z x bs ((A p.toNat - (16 + 24 * S) : Nat) : Int)).1.2 = 0 ∧ (copyv z x bs ((A p.toNat - (16 + 24 * S) : Nat) : Int)).2.1 = x + 16 + 24 * S ∧ x + 16 + 24 * S ≤ z)
        rw [hn]
        exact .inr ⟨rfl, rfl, hr2⟩
      · left
        have hf := newv_full z x S bs hxz h1 h2 hr2
        show (copyv z x bs ((A p.toNat - (16 + 24 * S) : Nat) : Int)).1 = (0, -8)
        unfold copyv
        rw [hsl, hf.1, if_neg (by decide)]
  obtain ⟨ht, ho⟩ := htab
  obtain ⟨⟨⟨t1, t2⟩, ty, tcs, tsz⟩, hv⟩ : ∃ v, tabv z x bs 8 (ppl A p) (S : Nat) = v := ⟨_, rfl⟩
  rw [hv] at ht ho
  dsimp only at ht ho
  have hclay : ∃ cs, (clayv z x bs 8 (ppl A p) (S : Nat) (lastp A k : Nat)).1 = (0, -8) ∧ (clayv z x bs 8 (ppl A p) (S : Nat) (lastp A k : Nat)).2.2 = cs ∧ Out x z bs cs := by
    unfold clayv
    rw [hv]
    dsimp only
    rcases ht with ht | ⟨ht, hy, hyz⟩
    · rw [Prod.mk.injEq] at ht
      rw [ht.2, if_neg (by decide)]
      exact ⟨_, rfl, rfl, ho⟩
    · subst hy
      rw [ht, if_pos rfl, if_neg (by rw [layl_full z _ _ _ hyz (by simp only [List.length_cons, List.length_nil]; omega)]; decide)]
      exact ⟨_, rfl, rfl, ho.trans ((layl_out z _ _ _ hyz).mono (by omega) (Nat.le_refl _))⟩
  obtain ⟨cs, e1, e2, e3⟩ := hclay
  refine ⟨cs, ?_, e3⟩
  unfold cnewv
  rw [hr, if_pos rfl]
  dsimp only
  rw [e1, if_neg (by decide), e2]
end Go.Proofs.Ytajeiccfgnpbpaa.Mem

/- Plain mathematics: which bytes New, Set and Grow of a class write. No program. -/
namespace Go.Proofs.Ytajeiccfgnpbpaa.Mem
open Go.RowKit

variable {bs : List UInt8} {S x k : Nat} {A : Nat → Nat} {L : List RC}

theorem CSt.tabOut (h : CSt bs S x k A L) {z : Nat} (h1 : 1 ≤ S) (h2 : S ≤ 1024) (hxz : x ≤ z) (hz : z ≤ bs.length) {p : Int} (hp : -1 ≤ p ∧ p < (k : Int)) :
    Out x z bs (tabv z x bs 8 (ppl A p) (S : Nat)).2.2.1 ∧ x ≤ (tabv z x bs 8 (ppl A p) (S : Nat)).2.1 ∧ (tabv z x bs 8 (ppl A p) (S : Nat)).2.1 ≤ z := by
  unfold tabv
  by_cases hp0 : p < 0
  · rw [show ppl A p = 0 by unfold ppl; rw [if_pos hp0], if_pos rfl]
    have hi := newv_inv z x bs (S : Nat) hxz
    exact ⟨newv_out z x bs _ hxz, hi.1, hi.2.1⟩
  · have hpk : p.toNat < k := by omega
    obtain ⟨g1, g2, g3⟩ := h.pl p.toNat hpk
    have hpp : ppl A p = ((A p.toNat : Nat) : Int) := by unfold ppl; rw [if_neg hp0]
    have hne : ¬ (((A p.toNat : Nat) : Int) = 0) := by omega
    have hin : Mem.isIn bs 8 ((A p.toNat : Nat) : Int) = true := by rw [h.isIn]; exact decide_eq_true ⟨_, hpk, rfl⟩
    rw [hpp, if_neg hne, if_pos hin, h.v p.toNat hpk]
    have hsl : Mem.slots bs ((A p.toNat - (16 + 24 * S) : Nat) : Int) = (S : Nat) := (h.tab p.toNat hpk).slots
    have hi := copyv_inv z x bs ((A p.toNat - (16 + 24 * S) : Nat) : Int) hxz
    exact ⟨copyS_out h1 h2 hxz hz (by omega) hsl, hi.1, hi.2.1⟩

/-- What of the bytes New may write: the root's cell, and what isn't allocated. -/
theorem CSt.newOut (h : CSt bs S x k A L) {z : Nat} (h1 : 1 ≤ S) (h2 : S ≤ 1024) (hxz : x ≤ z) (hz : z ≤ bs.length) {p : Int} (hp : -1 ≤ p ∧ p < (k : Int)) {r : Int × Int} {y : Nat} {cs : List UInt8} (hc : cnewv z x bs 8 (ppl A p) (S : Nat) = (r, y, cs)) :
    cs.length = bs.length ∧ ∀ i, (16 ≤ i ∧ i < x) ∨ z ≤ i → cs.getD i 0 = bs.getD i 0 := by
  have hlow := h.low
  obtain ⟨ho, hy1, hy2⟩ := h.tabOut h1 h2 hxz hz hp
  have hr : Mem.cell bs 8 = (((lastp A k : Nat) : Int), 0) := by
    rw [show (8 : Int) = ((8 : Nat) : Int) from rfl, h.cell 8 (by omega) (by omega), h.root]
  obtain ⟨⟨⟨t1, t2⟩, ty, tcs, tsz⟩, hv⟩ : ∃ v, tabv z x bs 8 (ppl A p) (S : Nat) = v := ⟨_, rfl⟩
  rw [hv] at ho hy1 hy2
  dsimp only at ho hy1 hy2
  have hclay : Out x z bs (clayv z x bs 8 (ppl A p) (S : Nat) (lastp A k : Nat)).2.2 := by
    unfold clayv
    rw [hv]
    dsimp only
    split
    · split
      · exact ho.trans ((layl_out z _ _ _ hy2).mono hy1 (Nat.le_refl _))
      · exact ho.trans ((layl_out z _ _ _ hy2).mono hy1 (Nat.le_refl _))
    · exact ho
  unfold cnewv at hc
  rw [hr, if_pos rfl] at hc
  dsimp only at hc
  split at hc
  · simp only [Prod.mk.injEq] at hc
    obtain ⟨_, _, rfl⟩ := hc
    refine ⟨by rw [setc_length]; exact hclay.1, fun i hi => ?_⟩
    have e := hclay.2 i (by omega)
    rw [← e]
    unfold setc
    split
    · exact getD_setv _ _ _ _ (by show i < 8 ∨ 8 + 8 ≤ i; omega)
    · rfl
  · simp only [Prod.mk.injEq] at hc
    obtain ⟨_, _, rfl⟩ := hc
    exact ⟨hclay.1, fun i hi => hclay.2 i (by omega)⟩

theorem CSt.big2 (h : CSt bs S x k A L) : x ≤ bs.length := h.xb
end Go.Proofs.Ytajeiccfgnpbpaa.Mem

/- Plain mathematics: which bytes Set of a class writes; equal cells have equal bytes. No program. -/
namespace Go.Proofs.Ytajeiccfgnpbpaa.Mem
open Go.RowKit

theorem rd_bytes {bs cs : List UInt8} {a : Nat} : ∀ k, rd cs a k = rd bs a k → ∀ i, i < k → cs.getD (a + i) 0 = bs.getD (a + i) 0
  | 0, _, _, h => absurd h (Nat.not_lt_zero _)
  | k + 1, h, i, hi => by
    have l1 := rd_lt cs a k
    have l2 := rd_lt bs a k
    simp only [rd] at h
    have hp : 0 < 256 ^ k := Nat.pow_pos (by omega)
    have b1 := (cs.getD (a + k) 0).toNat_lt
    have b2 := (bs.getD (a + k) 0).toNat_lt
    have hd : (cs.getD (a + k) 0).toNat = (bs.getD (a + k) 0).toNat := by
      have e1 := congrArg (· / 256 ^ k) h
      simp only [Nat.add_mul_div_right _ _ hp, Nat.div_eq_of_lt l1, Nat.div_eq_of_lt l2, Nat.zero_add] at e1
      exact e1
    have hr : rd cs a k = rd bs a k := by rw [hd] at h; omega
    rcases Nat.lt_or_ge i k with h1 | h1
    · exact rd_bytes k hr i h1
    · have : i = k := by omega
      subst this
      exact UInt8.toNat_inj.1 hd

theorem cell_bytes {bs cs : List UInt8} {a : Nat} (h : cellv cs a = cellv bs a) : ∀ i, i < 8 → cs.getD (a + i) 0 = bs.getD (a + i) 0 := by
  have l1 := rd_lt cs a 8
  have l2 := rd_lt bs a 8
  have e : (256 : Nat) ^ 8 = 18446744073709551616 := by decide
  rw [e] at l1 l2
  refine rd_bytes 8 ?_
  unfold cellv wrap64 at h
  omega

variable {bs : List UInt8} {S x k : Nat} {A : Nat → Nat} {L : List RC}

/-- Set writes into tables only. -/
theorem CSt.setOut (h : CSt bs S x k A L) {c : Nat} (hc : c < k) {sel xt : Int} (hsel : I64 sel) (hxt : I64 xt) :
    (csetv bs 8 ((A c : Nat) : Int) sel xt).2.length = bs.length ∧ ∀ b, (∀ i, i < k → b + 8 ≤ A i - (16 + 24 * S) + 8 ∨ A i ≤ b) → cellv (csetv bs 8 ((A c : Nat) : Int) sel xt).2 b = cellv bs b := by
  refine ⟨csetv_length _ _ _ _ _, ?_⟩
  have hne : (((List.range k).filter (heirN L c sel)).map (clAt bs S A)).length ≠ 0 := fun e => by
    have hm : c ∈ (List.range k).filter (heirN L c sel) := List.mem_filter.2 ⟨List.mem_range.2 hc, heir_self L c sel⟩
    rw [List.length_map] at e
    have := List.length_pos_of_mem hm
    omega
  unfold csetv
  rw [h.heirs hc sel, if_neg hne]
  by_cases h1 : sel < 1
  · rw [if_pos h1]
    exact fun _ _ => rfl
  · rw [if_neg h1]
    by_cases hall : (((List.range k).filter (heirN L c sel)).map (clAt bs S A)).all (fun q => may bs q.tab sel) = true
    · rw [if_pos hall]
      dsimp only
      have hap : ∀ i j, i < k → j < k → i ≠ j → (A i - (16 + 24 * S)) + 16 + 24 * S ≤ A j - (16 + 24 * S) ∨ (A j - (16 + 24 * S)) + 16 + 24 * S ≤ A i - (16 + 24 * S) := fun i j hi hj hij => by
        have p1 := (h.pl i hi).1
        have p2 := (h.pl j hj).1
        rcases Nat.lt_or_ge i j with e | e
        · have := h.inc i j e hj; omega
        · have := h.inc j i (by omega) hi; omega
      have hbig := h.big
      have hAc : I64 ((A c : Nat) : Int) := by
        have := (h.pl c hc).2.2
        have := h.xb
        unfold I64
        omega
      have hmem : ∀ i, i ∈ (List.range k).filter (heirN L c sel) ↔ i < k ∧ heirN L c sel i = true := fun i => by rw [List.mem_filter, List.mem_range]
      obtain ⟨_, q2⟩ := puts_ht (T := fun i => A i - (16 + 24 * S)) hap (sel := sel) (xt := xt) (cls := ((A c : Nat) : Int)) (by omega) hsel hxt hAc ((List.range k).filter (heirN L c sel)) bs (fun i => domL L i) (fun i d => wpl A (walkN L d i)) (clAt bs S A)
        (List.Pairwise.filter _ List.nodup_range) (fun i hi => ⟨((hmem i).1 hi).1, rfl⟩) (fun i hi => h.tab i hi) (fun i hi => by
          obtain ⟨hik, hh⟩ := (hmem i).1 hi
          have := List.all_eq_true.1 hall _ (List.mem_map.2 ⟨i, hi, rfl⟩)
          have hm : may bs ((A i - (16 + 24 * S) : Nat) : Int) sel = true := this
          rw [(h.tab i hik).may_eq] at hm
          exact (of_decide_eq_true hm).2)
      exact fun b hb => q2 b fun i hi => by
        have p1 := (h.pl i hi).1
        have := hb i hi
        omega
    · rw [if_neg hall]
      exact fun _ _ => rfl
end Go.Proofs.Ytajeiccfgnpbpaa.Mem

/- Plain mathematics: a class that grows. No program. -/
namespace Go.Proofs.Ytajeiccfgnpbpaa.Mem
open Go.RowKit

def setSz (L : List RC) (c : Nat) (v : Int) : List RC := L.modify c fun r => { r with size := v }
theorem setSz_length (L : List RC) (c : Nat) (v : Int) : (setSz L c v).length = L.length := by simp [setSz]
theorem setSz_get (L : List RC) (c : Nat) (v : Int) (i : Nat) : (setSz L c v)[i]? = (L[i]?).map fun r => if i = c then { r with size := v } else r := by
  unfold setSz
  rw [List.getElem?_modify]
  by_cases h : c = i
  · subst h; simp
  · have h2 : ¬ i = c := fun e => h e.symm
    simp [h, h2]
theorem setSz_back {L : List RC} {c : Nat} {v : Int} {i : Nat} {r : RC} (h : (setSz L c v)[i]? = some r) : ∃ q, L[i]? = some q ∧ r.par = q.par ∧ r.own = q.own ∧ r.slots = q.slots ∧ (i ≠ c → r.size = q.size) ∧ (i = c → r.size = v) := by
  rw [setSz_get] at h
  obtain ⟨q, hq, e⟩ := Option.map_eq_some_iff.1 h
  subst e
  refine ⟨q, hq, ?_⟩
  split
  · rename_i e
    exact ⟨rfl, rfl, rfl, fun h => absurd e h, fun _ => rfl⟩
  · rename_i e
    exact ⟨rfl, rfl, rfl, fun _ => rfl, fun h => absurd h e⟩
theorem walk_setSz (L : List RC) (c : Nat) (v d : Int) : ∀ i, walkN (setSz L c v) d i = walkN L d i := by
  intro i
  induction i using Nat.strongRecOn with
  | _ i ih =>
    rw [walkN, walkN, setSz_get]
    cases h : L[i]? with
    | none => rfl
    | some r =>
      have hp : (if i = c then { r with size := v } else r).par = r.par := by split <;> rfl
      have ho : (if i = c then { r with size := v } else r).own = r.own := by split <;> rfl
      simp only [Option.map_some, hp, ho]
      cases rown r.own d with
      | some xt => rfl
      | none =>
        dsimp only
        split
        · rename_i hlt
          exact ih _ hlt.2
        · rfl
theorem seen_setSz (L : List RC) (c : Nat) (v : Int) : ∀ i acc, seenN (setSz L c v) i acc = seenN L i acc := by
  intro i
  induction i using Nat.strongRecOn with
  | _ i ih =>
    intro acc
    rw [seenN, seenN, setSz_get]
    cases h : L[i]? with
    | none => rfl
    | some r =>
      have hp : (if i = c then { r with size := v } else r).par = r.par := by split <;> rfl
      have ho : (if i = c then { r with size := v } else r).own = r.own := by split <;> rfl
      simp only [Option.map_some, hp, ho]
      split
      · rename_i hlt
        exact ih _ hlt.2 _
      · rfl

variable {bs : List UInt8} {S x k : Nat} {A : Nat → Nat} {L : List RC}

theorem CSt.grow (h : CSt bs S x k A L) {c : Nat} (hc : c < k) {v : Int} (hv : I64 v) : CSt (setv bs (A c + 16) v) S x k A (setSz L c v) := by
  have hlow := h.low
  have hxb := h.xb
  obtain ⟨c1, c2, c3⟩ := h.pl c hc
  have hik : ∀ {i : Nat} {r : RC}, L[i]? = some r → i < k := fun {i r} hr => by
    rcases Nat.lt_or_ge i L.length with h1 | h1
    · rw [h.klen] at h1; exact h1
    · rw [List.getElem?_eq_none h1] at hr; cases hr
  have hfar : ∀ i o, i < k → (o + 8 ≤ 40) → (i = c → o + 8 ≤ 16 ∨ 24 ≤ o) → cellv (setv bs (A c + 16) v) (A i + o) = cellv bs (A i + o) := fun i o hi ho hne => by
    refine cellv_other _ _ _ _ ?_
    rcases Nat.lt_trichotomy i c with e | e | e
    · have := h.inc i c e hc; omega
    · subst e; have := hne rfl; omega
    · have := h.inc c i e hi; omega
  refine ⟨by rw [setSz_length, h.klen], by rw [setv_length]; exact hxb, by rw [setv_length]; exact h.big, hlow, ?_, h.pl, h.inc, fun i hi => ?_, fun i hi => ?_, fun i hi => ?_, fun i r hr => ?_, fun i r hr => ?_, fun i hi => ?_, fun i r hr => ?_, fun i r hr => ?_⟩
  · rw [cellv_other _ _ _ _ (by omega), h.root]
  · have : cellv (setv bs (A c + 16) v) (A i) = cellv bs (A i) := hfar i 0 hi (by omega) (fun _ => by omega)
    rw [this, h.mag i hi]
  · rw [hfar i 24 hi (by omega) (fun _ => by omega), h.tb i hi]
  · rw [hfar i 32 hi (by omega) (fun _ => by omega), h.prv i hi]
  · obtain ⟨q, hq, e, _⟩ := setSz_back hr
    rw [hfar i 8 (hik hq) (by omega) (fun _ => by omega), h.par i q hq, e]
  · obtain ⟨q, hq, _, _, _, e1, e2⟩ := setSz_back hr
    by_cases hic : i = c
    · subst hic
      rw [cellv_same _ _ _ (by omega) hv, e2 rfl]
    · rw [hfar i 16 (hik hq) (by omega) (fun e => absurd e hic), h.siz i q hq, e1 hic]
  · have hp := h.pl i hi
    have ht := (h.tab i hi).same (cs := setv bs (A c + 16) v) (by omega) (by rw [setv_length]; omega) (cellv_other _ _ _ _ (by
      rcases Nat.lt_trichotomy i c with e | e | e
      · have := h.inc i c e hc; omega
      · subst e; omega
      · have := h.inc c i e hi; omega)) (fun j hj => cellv_other _ _ _ _ (by
      rcases Nat.lt_trichotomy i c with e | e | e
      · have := h.inc i c e hc; omega
      · subst e; omega
      · have := h.inc c i e hi; omega))
    have e1 : domL (setSz L c v) i = domL L i := seen_setSz L c v i []
    have e2 : (fun d => wpl A (walkN (setSz L c v) d i)) = fun d => wpl A (walkN L d i) := funext fun d => by rw [walk_setSz]
    rw [e1, e2]
    exact ht
  · obtain ⟨q, hq, _, _, e, _⟩ := setSz_back hr
    rw [e]
    exact h.slots i q hq
  · obtain ⟨q, hq, e1, e2, _⟩ := setSz_back hr
    rw [e1, e2]
    exact h.wf i q hq
end Go.Proofs.Ytajeiccfgnpbpaa.Mem
