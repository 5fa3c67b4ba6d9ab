/- Several texts in one: HpG, HpF, HpN. -/
import Derived.Test.YtajeiccfgnpbpaaQi
import Derived.BigRegion
import Derived.RegionTactic
set_option linter.unusedSimpArgs false
set_option linter.unusedVariables false
/- Plain mathematics: what Alloc and Free do to the used blocks. No program. -/
namespace Go.Proofs.Ytajeiccfgnpbpaa.Mem
open Go.RowKit

theorem boff_tot (a : Nat) (l : List Bk) (k : Nat) : boff a l k = a + btot (l.take k) := by
  have : ∀ l : List Bk, (l.map (·.1)).sum = btot l := fun l => by
    induction l with
    | nil => rfl
    | cons b l ih => rw [List.map_cons, List.sum_cons, ih]; rfl
  unfold boff
  rw [this]

theorem cut1 {l : List Bk} {k : Nat} {b : Bk} (h : l[k]? = some b) : l.drop k = b :: l.drop (k + 1) := by
  obtain ⟨h1, h2⟩ := List.getElem?_eq_some_iff.1 h
  rw [List.drop_eq_getElem_cons h1, h2]

/-- What Alloc does to the blocks. -/
structure Alloced (a z : Nat) (l : List Bk) (bs cs : List UInt8) (x n : Nat) (l' : List Bk) : Prop where
  blks : Blks cs z a l'
  keeps : Keeps a z l bs cs
  lt : 0 < l'.length
  new : ∃ m, UsedAt a l' x m ∧ n + 8 ≤ m
  fresh : ∀ m, ¬ UsedAt a l x m
  old : ∀ y m, UsedAt a l y m → UsedAt a l' y m
  back : ∀ y m, UsedAt a l' y m → y = x ∨ UsedAt a l y m

theorem alloced {a z : Nat} {l : List Bk} {bs : List UInt8} {k m n : Nat} (h : Blks bs z a l) (hz : z ≤ bs.length) (hz2 : bs.length ≤ 1048576) (hk : l[k]? = some (m, false)) (hn : needv n ≤ m) :
    ∃ l', Alloced a z l bs (splitb bs (boff a l k) m (needv n)) (boff a l k + 8) n l' := by
  have hl : l = l.take k ++ ((m, false) :: l.drop (k + 1)) := by rw [← cut1 hk, List.take_append_drop]
  have hb := boff_tot a l k
  obtain ⟨pre, hp⟩ : ∃ p, l.take k = p := ⟨_, rfl⟩
  obtain ⟨suf, hs⟩ : ∃ p, l.drop (k + 1) = p := ⟨_, rfl⟩
  rw [hp, hs] at hl
  rw [hp] at hb
  rw [hb]
  clear hp hs hk hb
  subst hl
  have hnv : needv n % 8 = 0 ∧ 16 ≤ needv n ∧ n + 8 ≤ needv n := by unfold needv; omega
  have hU : ∀ y q, UsedAt a (pre ++ ((m, false) :: suf)) y q ↔ UsedAt a pre y q ∨ UsedAt (a + btot pre + m) suf y q := fun y q => by
    rw [used_append]
    simp [UsedAt]
  obtain ⟨y0, h1, h2, h3⟩ := Blks.append.1 h
  have t1 := h1.btot
  subst t1
  have hin1 : ∀ y q, UsedAt a pre y q → y + q ≤ a + btot pre + 8 := fun y q hu => (h1.usedIn hu).2.2.2
  have hin2 : ∀ y q, UsedAt (a + btot pre + m) suf y q → a + btot pre + m + 8 ≤ y := fun y q hu => (h2.2.2.2.2.usedIn hu).1
  have hin3 : ∀ y q, UsedAt a pre y q → 16 ≤ q := fun y q hu => (h1.usedIn hu).2.1
  have hfr : ∀ q, ¬ UsedAt a (pre ++ ((m, false) :: suf)) (a + btot pre + 8) q := fun q hu => by
    rcases (hU _ _).1 hu with hu | hu
    · have := hin1 _ _ hu
      have := hin3 _ _ hu
      omega
    · have := hin2 _ _ hu
      omega
  by_cases hlt : m < needv n + 16
  · obtain ⟨g1, g2, g3⟩ := h.take_all hz hz2
    have e : splitb bs (a + btot pre) m (needv n) = setv bs (a + btot pre) ((m : Int) + 1) := by unfold splitb; rw [if_pos hlt]
    rw [e]
    have hU' : ∀ y q, UsedAt a (pre ++ ((m, true) :: suf)) y q ↔ UsedAt a pre y q ∨ (m = q ∧ a + btot pre + 8 = y) ∨ UsedAt (a + btot pre + m) suf y q := fun y q => by
      rw [used_append]
      simp [UsedAt]
    refine ⟨_, g1, keeps_setv _ _ (by omega) (by omega) fun y q hu => ?_, by simp; omega, ⟨m, (hU' _ _).2 (.inr (.inl ⟨rfl, rfl⟩)), by omega⟩, hfr, fun y q hu => ?_, fun y q hu => ?_⟩
    · rcases (hU _ _).1 hu with hu | hu
      · exact .inr (hin1 _ _ hu)
      · have := hin2 _ _ hu
        omega
    · rcases (hU _ _).1 hu with hu | hu
      · exact (hU' _ _).2 (.inl hu)
      · exact (hU' _ _).2 (.inr (.inr hu))
    · rcases (hU' _ _).1 hu with hu | ⟨_, hu⟩ | hu
      · exact .inr ((hU _ _).2 (.inl hu))
      · exact .inl hu.symm
      · exact .inr ((hU _ _).2 (.inr hu))
  · obtain ⟨g1, g2⟩ := h.take_part hz hz2 hnv.1 hnv.2.1 (by omega)
    have e : splitb bs (a + btot pre) m (needv n) = setv (setv bs (a + btot pre) ((needv n : Int) + 1)) (a + btot pre + needv n) ((m - needv n : Nat) : Int) := by unfold splitb; rw [if_neg hlt]
    rw [e]
    obtain ⟨v, hv⟩ : ∃ v, needv n = v := ⟨_, rfl⟩
    rw [hv] at g1 hnv hlt hn ⊢
    have hU' : ∀ y q, UsedAt a (pre ++ ((v, true) :: (m - v, false) :: suf)) y q ↔ UsedAt a pre y q ∨ (v = q ∧ a + btot pre + 8 = y) ∨ UsedAt (a + btot pre + m) suf y q := fun y q => by
      rw [used_append]
      simp [UsedAt]
      rw [show a + btot pre + v + (m - v) = a + btot pre + m by omega]
    refine ⟨_, g1, (keeps_setv _ _ (by omega) (by omega) fun y q hu => ?_).trans (keeps_setv _ _ (by omega) (by omega) fun y q hu => ?_), by simp; omega, ⟨v, (hU' _ _).2 (.inr (.inl ⟨rfl, rfl⟩)), by omega⟩, hfr, fun y q hu => ?_, fun y q hu => ?_⟩
    · rcases (hU _ _).1 hu with hu | hu
      · exact .inr (hin1 _ _ hu)
      · have := hin2 _ _ hu
        omega
    · rcases (hU _ _).1 hu with hu | hu
      · have := hin1 _ _ hu
        omega
      · have := hin2 _ _ hu
        omega
    · rcases (hU _ _).1 hu with hu | hu
      · exact (hU' _ _).2 (.inl hu)
      · exact (hU' _ _).2 (.inr (.inr hu))
    · rcases (hU' _ _).1 hu with hu | ⟨_, hu⟩ | hu
      · exact .inr ((hU _ _).2 (.inl hu))
      · exact .inl hu.symm
      · exact .inr ((hU _ _).2 (.inr hu))

/-- What Free does to the blocks. -/
structure Freed (a z : Nat) (l : List Bk) (bs cs : List UInt8) (x : Nat) (l' : List Bk) : Prop where
  blks : Blks cs z a l'
  keeps : Keeps a z l bs cs
  lt : 0 < l'.length
  was : ∃ m, UsedAt a l x m
  used : ∀ y m, UsedAt a l' y m ↔ UsedAt a l y m ∧ y ≠ x

theorem freed1 {a z : Nat} {bs : List UInt8} {pre P Q suf : List Bk} {m x : Nat} (h : Blks bs z a (pre ++ ((P ++ ((m, true) :: Q)) ++ suf))) (hz : z ≤ bs.length) (hz2 : bs.length ≤ 1048576) (hP : ∀ y q a, ¬ UsedAt a P y q) (hQ : ∀ y q a, ¬ UsedAt a Q y q) (hx : a + btot pre + btot P + 8 = x) :
    ∃ l', Freed a z (pre ++ ((P ++ ((m, true) :: Q)) ++ suf)) bs (setv bs (a + btot pre) (btot (P ++ ((m, true) :: Q)) : Nat)) x l' := by
  obtain ⟨g1, g2, g3⟩ := h.join (by simp) hz hz2
  have hU : ∀ y q, UsedAt a (pre ++ ((P ++ ((m, true) :: Q)) ++ suf)) y q ↔ UsedAt a pre y q ∨ (m = q ∧ a + btot pre + btot P + 8 = y) ∨ UsedAt (a + btot pre + btot (P ++ ((m, true) :: Q))) suf y q := fun y q => by
    rw [used_append, used_append, used_append]
    simp [UsedAt, hP, hQ, or_assoc]
  obtain ⟨y0, h1, h2, h3⟩ := Blks.append.1 h
  have t1 := h1.btot
  subst t1
  obtain ⟨y1, h4, h5, h6⟩ := Blks.append.1 h2
  have t2 := h4.btot
  rw [btot_append] at t2
  simp only [btot] at t2
  have hm16 : 16 ≤ m := by
    obtain ⟨_, _, k2, _⟩ := Blks.append.1 h4
    exact k2.2.1
  have hin1 : ∀ y q, UsedAt a pre y q → y + q ≤ a + btot pre + 8 ∧ 16 ≤ q := fun y q hu => ⟨(h1.usedIn hu).2.2.2, (h1.usedIn hu).2.1⟩
  have hin2 : ∀ y q, UsedAt (a + btot pre + btot (P ++ ((m, true) :: Q))) suf y q → y1 + 8 ≤ y := fun y q hu => by
    rw [h4.btot] at hu
    exact (h5.usedIn hu).1
  have hU' : ∀ y q, UsedAt a (pre ++ ([(btot (P ++ ((m, true) :: Q)), false)] ++ suf)) y q ↔ UsedAt a pre y q ∨ UsedAt (a + btot pre + btot (P ++ ((m, true) :: Q))) suf y q := fun y q => by
    rw [used_append]
    simp [UsedAt]
  refine ⟨_, g1, keeps_setv _ _ (by omega) (by omega) fun y q hu => ?_, by simp; omega, ⟨m, (hU _ _).2 (.inr (.inl ⟨rfl, hx⟩))⟩, fun y q => ⟨fun hu => ?_, fun ⟨hu, hne⟩ => ?_⟩⟩
  · rcases (hU _ _).1 hu with hu | ⟨_, hu⟩ | hu
    · exact .inr (hin1 _ _ hu).1
    · omega
    · have := hin2 _ _ hu
      omega
  · rcases (hU' _ _).1 hu with hu | hu
    · exact ⟨(hU _ _).2 (.inl hu), by have := hin1 _ _ hu; omega⟩
    · exact ⟨(hU _ _).2 (.inr (.inr hu)), by have := hin2 _ _ hu; omega⟩
  · rcases (hU _ _).1 hu with hu | ⟨_, hu⟩ | hu
    · exact (hU' _ _).2 (.inl hu)
    · exact absurd (hu.symm.trans hx) hne
    · exact (hU' _ _).2 (.inr hu)

theorem freed {a z : Nat} {l : List Bk} {bs : List UInt8} {i m s t x : Nat} (h : Blks bs z a l) (hz : z ≤ bs.length) (hz2 : bs.length ≤ 1048576) (hi : l[i]? = some (m, true)) (hx : boff a l i + 8 = x)
    (hs : s = i ∨ (s + 1 = i ∧ ∃ q, l[s]? = some (q, false))) (ht : t = i + 1 ∨ (t = i + 2 ∧ ∃ q, l[i + 1]? = some (q, false))) (htl : t ≤ l.length) :
    ∃ l', Freed a z l bs (setv bs (boff a l s) ((boff a l t : Nat) - (boff a l s : Nat) : Int)) x l' := by
  obtain ⟨Q, hQ1, hQ2⟩ : ∃ Q : List Bk, l.drop (i + 1) = Q ++ l.drop t ∧ ∀ y q a, ¬ UsedAt a Q y q := by
    rcases ht with rfl | ⟨rfl, q, hq⟩
    · exact ⟨[], rfl, fun _ _ _ => id⟩
    · refine ⟨[(q, false)], by rw [cut1 hq]; rfl, fun y n a hu => ?_⟩
      simp [UsedAt] at hu
  obtain ⟨P, hP1, hP2⟩ : ∃ P : List Bk, l.drop s = P ++ l.drop i ∧ ∀ y q a, ¬ UsedAt a P y q := by
    rcases hs with rfl | ⟨rfl, q, hq⟩
    · exact ⟨[], rfl, fun _ _ _ => id⟩
    · refine ⟨[(q, false)], by rw [cut1 hq]; rfl, fun y n a hu => ?_⟩
      simp [UsedAt] at hu
  have hd : l.drop s = (P ++ ((m, true) :: Q)) ++ l.drop t := by rw [hP1, cut1 hi, hQ1]; simp
  have hl : l = l.take s ++ ((P ++ ((m, true) :: Q)) ++ l.drop t) := by rw [← hd, List.take_append_drop]
  have hbs := boff_tot a l s
  have hbi := boff_tot a l i
  have hbt := boff_tot a l t
  have e1 : ∀ k, btot (l.take k) + btot (l.drop k) = btot l := fun k => by rw [← btot_append, List.take_append_drop]
  have k1 := e1 s
  have k2 := e1 i
  have k3 := e1 t
  have k4 : btot (l.drop s) = btot P + btot (l.drop i) := by rw [hP1, btot_append]
  have k5 : btot (l.drop s) = btot (P ++ ((m, true) :: Q)) + btot (l.drop t) := by rw [hd, btot_append]
  have hxx : a + btot (l.take s) + btot P + 8 = x := by omega
  have he : ((boff a l t : Nat) - (boff a l s : Nat) : Int) = (btot (P ++ ((m, true) :: Q)) : Nat) := by omega
  rw [he, hbs]
  rw [hl] at h
  obtain ⟨l', hf⟩ := freed1 h hz hz2 hP2 hQ2 hxx
  rw [← hl] at hf
  exact ⟨l', hf⟩
end Go.Proofs.Ytajeiccfgnpbpaa.Mem

/- Contracts of package heap, at any blocks: Free. -/
namespace Go.Proofs.Ytajeiccfgnpbpaa.Mem
open Go.RowKit

/-- What Free returns, and leaves. -/
def FreePost (p g : Nat) (bs : List UInt8) (a : Nat) (l : List Bk) (x : Int) (e : Ending) (w' : World) : Prop :=
  (e = .returned (.int .i64 (-60)) ∧ Mat 108 w' p g bs ∧ ∀ i m, l[i]? = some (m, true) → ((boff a l i : Nat) : Int) + 8 ≠ x) ∨
    ∃ i m s t, l[i]? = some (m, true) ∧ ((boff a l i : Nat) : Int) + 8 = x ∧ (s = i ∨ (s + 1 = i ∧ ∃ q, l[s]? = some (q, false))) ∧ (t = i + 1 ∨ (t = i + 2 ∧ ∃ q, l[i + 1]? = some (q, false))) ∧ t ≤ l.length ∧
      e = .returned (.int .i64 0) ∧ Mat 108 w' p g (setv bs (boff a l s) ((boff a l t : Nat) - (boff a l s : Nat) : Int))

set_option maxRecDepth 100000 in
set_option maxHeartbeats 8000000 in
theorem hfree_any (hb p g : Nat) (bs : List UInt8) (a z : Nat) (l : List Bk) (x : Int) (w : World) (h : Mat 108 w p g bs) (hh : Heap w hb p a z) (hB : Blks bs z a l) (ha : a % 8 = 0) (hz : z ≤ bs.length) (hl : 0 < l.length) (hg : hb ≠ g) :
    Calls Try.prog 41 #[.pointer (some ⟨hb, 0, none⟩), .int .i64 x] w
      fun e w' => FreePost p g bs a l x e w' ∧ Only g w w' := by
  have HF := Lib.hid (hfind_any hb p g bs a z l x w h hh hB ha hz hl)
  have hzl := h.2.2.2
  have HX := Lib.hid (fun k (hk : k < l.length) => And.intro (hB.get k hk) (And.intro (hB.bd k (by omega)) (hB.aligned k (by omega) ha)))
  have HB2 := Lib.hid (fun k (hk : k < l.length) => boff_succ a l k hk)
  have HL := Lib.hid hl
  have hln : l.length ≤ 1048576 := by have := hB.bd l.length (Nat.le_refl _); omega
  have HP := Lib.hid (fun y n w h hh hn => hput_any hb p g bs a z y n false w h hh hn)
  have H := Lib.hid h
  have HH := Lib.hid hh
  have HG := Lib.hid (And.intro h.lt hg)
  clear h hh hB hl
  go_enter Try.func41, Try.ntmps41
  go_wp2_with fail
  refine HF.out.mono ?_
  rintro e w1 ⟨hp, hf⟩
  rcases hp with ⟨v, i, m, him, hix, rfl, ho⟩ | ⟨rfl, hno⟩
  · obtain ⟨hi, him2⟩ := List.getElem?_eq_some_iff.1 him
    obtain ⟨gA, cc, rfl, hc1, hc2, hg1, hg2, hcells⟩ := bk_slice ho HL.out
    have F1 := Lib.hid hf
    have HC := Lib.hid hcells
    have HO := Lib.hid ho
    have HIM := Lib.hid him
    have HIX := Lib.hid hix
    obtain ⟨c0, c1, c2⟩ := hcells i hi w1 _ (Fr.refl (fun _ => False) w1) id
    obtain ⟨gz, gz2, gz3⟩ : boff a l i + l[i].1 ≤ z ∧ boff a l i ≤ z ∧ boff a l i % 8 = 0 := ⟨(HX.out i hi).1.2.2.1, (HX.out i hi).2.1.2, (HX.out i hi).2.2⟩
    have hbi := HB2.out i hi
    have g16 := (HX.out i hi).1.2.1
    rw [him2] at c1 c2 gz hbi g16
    dsimp only at c1 c2 gz hbi g16
    obtain ⟨N, hN⟩ : ∃ n, l.length = n := ⟨_, rfl⟩
    have HN := Lib.hid hN
    rw [hN] at hc1 hln hi ⊢
    -- the next block
    have hnext : i + 1 = N ∨ ∃ m1 u1, i + 1 < N ∧ l[i + 1]? = some (m1, u1) ∧ w1.cell? ⟨gA, (i + 1) * 3 + 1, none⟩ = some (.int .i64 (m1 : Nat)) ∧ w1.cell? ⟨gA, (i + 1) * 3 + 2, none⟩ = some (.bool u1) ∧ boff a l (i + 1) + m1 ≤ z ∧ boff a l (i + 2) = boff a l (i + 1) + m1 := by
      rcases Nat.lt_or_ge (i + 1) N with h1 | h1
      · have h2 : i + 1 < l.length := by omega
        obtain ⟨_, d1, d2⟩ := hcells (i + 1) h2 w1 _ (Fr.refl (fun _ => False) w1) id
        have := (HX.out (i + 1) h2).1.2.2.1
        have hb2 := HB2.out (i + 1) h2
        refine .inr ⟨l[i + 1].1, l[i + 1].2, h1, List.getElem?_eq_getElem h2, d1, d2, this, hb2⟩
      · exact .inl (by omega)
    have hprev : i = 0 ∨ ∃ s m0 u0, i = s + 1 ∧ l[s]? = some (m0, u0) ∧ w1.cell? ⟨gA, s * 3, none⟩ = some (.int .i64 (boff a l s : Nat)) ∧ w1.cell? ⟨gA, s * 3 + 1, none⟩ = some (.int .i64 (m0 : Nat)) ∧ w1.cell? ⟨gA, s * 3 + 2, none⟩ = some (.bool u0) ∧ boff a l i = boff a l s + m0 := by
      cases i with
      | zero => exact .inl rfl
      | succ s =>
        have h2 : s < l.length := by omega
        obtain ⟨d0, d1, d2⟩ := hcells s h2 w1 _ (Fr.refl (fun _ => False) w1) id
        exact .inr ⟨s, l[s].1, l[s].2, rfl, List.getElem?_eq_getElem h2, d0, d1, d2, HB2.out s h2⟩
    have hiz : ((i : Int) == 0) = false ∨ i = 0 := by
      cases i with
      | zero => exact .inr rfl
      | succ s => exact .inl (by simp; omega)
    have HNX := Lib.hid hnext
    have HPV := Lib.hid hprev
    have HIZ := Lib.hid hiz
    have HBI := Lib.hid hbi
    have HC12 := Lib.hid (And.intro hc1 hc2)
    obtain ⟨A, hA⟩ : ∃ A, boff a l i = A := ⟨_, rfl⟩
    have HA := Lib.hid hA
    rw [hA] at c0 gz gz2 gz3
    clear ho hf hcells him hix him2 hN hnext hprev hiz hbi hA hc1
    go_wp2_with fail
    go_region
    have HLC := Lib.hid hln
    rcases HNX.out with hn1 | ⟨m1, u1, hn1, hn2, d1, d2, hn3, hn4⟩
    · have e1 : decide ((i : Int) + 1 < (N : Int)) = false := decide_eq_false (by omega)
      have e1' : decide (i + 1 < N) = false := decide_eq_false (by omega)
      have HN1 := Lib.hid (show i + 1 ≤ N by omega)
      clear hn1
      rcases HPV.out with h0 | ⟨s, m0, u0, h0, hp1, k0, k1, k2, hp2⟩
      · have e2 : decide ((0 : Int) < (i : Int)) = false := decide_eq_false (by omega)
        have e2' : decide (0 < i) = false := decide_eq_false (by omega)
        have HSI := Lib.hid h0
        clear h0
        go_wp2_with fail
        have hb1 : boff a l (i + 1) = A + m := by rw [HBI.out, HA.out]
        refine (HP.out _ _ _ (H.out.fr (F1.out.trans (show Fr (fun _ => False) w1 _ by repeat' first | exact Fr.refl _ _ | apply Fr.drew | apply Fr.drewN | apply Fr.alloc)) id id) ((F1.out.trans (show Fr (fun _ => False) w1 _ by repeat' first | exact Fr.refl _ _ | apply Fr.drew | apply Fr.drewN | apply Fr.alloc)).obj HH.out id) ?hn).mono ?_
        case hn => (clear hb1; have := HA.out; first | omega | (have hb1 : boff a l (i + 1) = A + m := by rw [HBI.out, HA.out]); omega)
        rintro e w2 ⟨rfl, hm, hf⟩
        have M2 := Lib.hid hm
        have F2 := Lib.hid ((Fr.some (F1.out.trans (show Fr (fun _ => False) w1 _ by repeat' first | exact Fr.refl _ _ | apply Fr.drew | apply Fr.drewN | apply Fr.alloc)) fun _ e => e.elim).trans hf)
        clear hm hf hb1
        go_wp2_with fail
        go_ret
        refine ⟨.inr ⟨i, m, i, i + 1, HIM.out, HIX.out, .inl rfl, .inl rfl, ?_, rfl, ?_⟩, F2.out⟩
        · have := HN.out; have := HN1.out; omega
        · have h := M2.out
          rw [if_neg (by decide)] at h
          have hA := HA.out; have hb1 : boff a l (i + 1) = A + m := by rw [HBI.out, HA.out]
          rw [setc_nat bs (A) _ (by omega) (by omega)] at h
          rw [hA]
          have he : (((boff a l (i + 1) : Nat) : Int) - (A : Nat)) = (m : Int) := by omega
          rw [he]
          exact h
      · have e2 : (0 : Int) < (i : Int) := by omega
        have e2' : 0 < i := by omega
        have e3 : (i : Int) - 1 = (s : Int) := by omega
        have HSI := Lib.hid h0.symm
        have HP8 := Lib.hid (show boff a l s % 8 = 0 from (HX.out s (by have := HN.out; have := HN1.out; omega)).2.2)
        have HP1 := Lib.hid hp1
        have HP2 := Lib.hid hp2
        have hwp : m0 + m ≤ 1048576 := by have := HA.out; omega
        clear h0 hp1 hp2
        cases u0
        · go_wp2_with fail
          go_region
          go_wp2_with fail
          have hb1 : boff a l (i + 1) = A + m := by rw [HBI.out, HA.out]
          refine (HP.out _ _ _ (H.out.fr (F1.out.trans (show Fr (fun _ => False) w1 _ by repeat' first | exact Fr.refl _ _ | apply Fr.drew | apply Fr.drewN | apply Fr.alloc)) id id) ((F1.out.trans (show Fr (fun _ => False) w1 _ by repeat' first | exact Fr.refl _ _ | apply Fr.drew | apply Fr.drewN | apply Fr.alloc)).obj HH.out id) ?hn).mono ?_
          case hn => (clear hb1; have := HA.out; have := HP2.out; have := HSI.out; first | omega | (have hb1 : boff a l (i + 1) = A + m := by rw [HBI.out, HA.out]); omega)
          rintro e w2 ⟨rfl, hm, hf⟩
          have M2 := Lib.hid hm
          have F2 := Lib.hid ((Fr.some (F1.out.trans (show Fr (fun _ => False) w1 _ by repeat' first | exact Fr.refl _ _ | apply Fr.drew | apply Fr.drewN | apply Fr.alloc)) fun _ e => e.elim).trans hf)
          clear hm hf hb1
          go_wp2_with fail
          go_ret
          refine ⟨.inr ⟨i, m, s, i + 1, HIM.out, HIX.out, .inr ⟨HSI.out, m0, HP1.out⟩, .inl rfl, ?_, rfl, ?_⟩, F2.out⟩
          · have := HN.out; have := HN1.out; omega
          · have h := M2.out
            rw [if_neg (by decide)] at h
            have hA := HA.out; have hb1 : boff a l (i + 1) = A + m := by rw [HBI.out, HA.out]
            have hp2 := HP2.out; have hp8 := HP8.out
            rw [setc_nat bs (boff a l s) _ (by omega) (by omega)] at h
            have he : (((boff a l (i + 1) : Nat) : Int) - (boff a l s : Nat)) = (m : Int) + m0 := by omega
            rw [he]
            exact h
        · go_wp2_with fail
          have hb1 : boff a l (i + 1) = A + m := by rw [HBI.out, HA.out]
          refine (HP.out _ _ _ (H.out.fr (F1.out.trans (show Fr (fun _ => False) w1 _ by repeat' first | exact Fr.refl _ _ | apply Fr.drew | apply Fr.drewN | apply Fr.alloc)) id id) ((F1.out.trans (show Fr (fun _ => False) w1 _ by repeat' first | exact Fr.refl _ _ | apply Fr.drew | apply Fr.drewN | apply Fr.alloc)).obj HH.out id) ?hn).mono ?_
          case hn => (clear hb1; have := HA.out; first | omega | (have hb1 : boff a l (i + 1) = A + m := by rw [HBI.out, HA.out]); omega)
          rintro e w2 ⟨rfl, hm, hf⟩
          have M2 := Lib.hid hm
          have F2 := Lib.hid ((Fr.some (F1.out.trans (show Fr (fun _ => False) w1 _ by repeat' first | exact Fr.refl _ _ | apply Fr.drew | apply Fr.drewN | apply Fr.alloc)) fun _ e => e.elim).trans hf)
          clear hm hf hb1
          go_wp2_with fail
          go_ret
          refine ⟨.inr ⟨i, m, i, i + 1, HIM.out, HIX.out, .inl rfl, .inl rfl, ?_, rfl, ?_⟩, F2.out⟩
          · have := HN.out; have := HN1.out; omega
          · have h := M2.out
            rw [if_neg (by decide)] at h
            have hA := HA.out; have hb1 : boff a l (i + 1) = A + m := by rw [HBI.out, HA.out]
            rw [setc_nat bs (A) _ (by omega) (by omega)] at h
            rw [hA]
            have he : (((boff a l (i + 1) : Nat) : Int) - (A : Nat)) = (m : Int) := by omega
            rw [he]
            exact h
    · have e1 : (i : Int) + 1 < (N : Int) := by omega
      have HN1 := Lib.hid (show i + 2 ≤ N by omega)
      have HN2 := Lib.hid hn2
      have HN3 := Lib.hid hn3
      have HN4 := Lib.hid hn4
      have hwn : m + m1 ≤ 1048576 := by have := HA.out; have := HBI.out; omega
      clear hn2 hn3 hn4
      cases u1
      · have HNX2 := True.intro
        rcases HPV.out with h0 | ⟨s, m0, u0, h0, hp1, k0, k1, k2, hp2⟩
        · have e2 : decide ((0 : Int) < (i : Int)) = false := decide_eq_false (by omega)
          have e2' : decide (0 < i) = false := decide_eq_false (by omega)
          have HSI := Lib.hid h0
          clear h0
          go_wp2_with fail
          go_region
          go_wp2_with fail
          have hb1 : boff a l (i + 1) = A + m := by rw [HBI.out, HA.out]
          refine (HP.out _ _ _ (H.out.fr (F1.out.trans (show Fr (fun _ => False) w1 _ by repeat' first | exact Fr.refl _ _ | apply Fr.drew | apply Fr.drewN | apply Fr.alloc)) id id) ((F1.out.trans (show Fr (fun _ => False) w1 _ by repeat' first | exact Fr.refl _ _ | apply Fr.drew | apply Fr.drewN | apply Fr.alloc)).obj HH.out id) ?hn).mono ?_
          case hn => (clear hb1; have := HA.out; have := HN3.out; first | omega | (have hb1 : boff a l (i + 1) = A + m := by rw [HBI.out, HA.out]); omega)
          rintro e w2 ⟨rfl, hm, hf⟩
          have M2 := Lib.hid hm
          have F2 := Lib.hid ((Fr.some (F1.out.trans (show Fr (fun _ => False) w1 _ by repeat' first | exact Fr.refl _ _ | apply Fr.drew | apply Fr.drewN | apply Fr.alloc)) fun _ e => e.elim).trans hf)
          clear hm hf hb1
          go_wp2_with fail
          go_ret
          refine ⟨.inr ⟨i, m, i, i + 2, HIM.out, HIX.out, .inl rfl, .inr ⟨rfl, m1, HN2.out⟩, ?_, rfl, ?_⟩, F2.out⟩
          · have := HN.out; have := HN1.out; omega
          · have h := M2.out
            rw [if_neg (by decide)] at h
            have hA := HA.out; have hb1 : boff a l (i + 1) = A + m := by rw [HBI.out, HA.out]
            have hb2 := HN4.out; have hn3 := HN3.out
            rw [setc_nat bs (A) _ (by omega) (by omega)] at h
            rw [hA]
            have he : (((boff a l (i + 2) : Nat) : Int) - (A : Nat)) = (m : Int) + m1 := by omega
            rw [he]
            exact h
        · have e2 : (0 : Int) < (i : Int) := by omega
          have e2' : 0 < i := by omega
          have e3 : (i : Int) - 1 = (s : Int) := by omega
          have HSI := Lib.hid h0.symm
          have HP8 := Lib.hid (show boff a l s % 8 = 0 from (HX.out s (by have := HN.out; have := HN1.out; omega)).2.2)
          have HP1 := Lib.hid hp1
          have HP2 := Lib.hid hp2
          have hwp : m + m1 + m0 ≤ 1048576 := by have := HA.out; have := HBI.out; have := HN3.out; omega
          clear h0 hp1 hp2
          cases u0
          · go_wp2_with fail
            go_region
            go_wp2_with fail
            go_region
            go_wp2_with fail
            have hb1 : boff a l (i + 1) = A + m := by rw [HBI.out, HA.out]
            refine (HP.out _ _ _ (H.out.fr (F1.out.trans (show Fr (fun _ => False) w1 _ by repeat' first | exact Fr.refl _ _ | apply Fr.drew | apply Fr.drewN | apply Fr.alloc)) id id) ((F1.out.trans (show Fr (fun _ => False) w1 _ by repeat' first | exact Fr.refl _ _ | apply Fr.drew | apply Fr.drewN | apply Fr.alloc)).obj HH.out id) ?hn).mono ?_
            case hn => (clear hb1; have := HA.out; have := HN3.out; have := HP2.out; have := HSI.out; first | omega | (have hb1 : boff a l (i + 1) = A + m := by rw [HBI.out, HA.out]); omega)
            rintro e w2 ⟨rfl, hm, hf⟩
            have M2 := Lib.hid hm
            have F2 := Lib.hid ((Fr.some (F1.out.trans (show Fr (fun _ => False) w1 _ by repeat' first | exact Fr.refl _ _ | apply Fr.drew | apply Fr.drewN | apply Fr.alloc)) fun _ e => e.elim).trans hf)
            clear hm hf hb1
            go_wp2_with fail
            go_ret
            refine ⟨.inr ⟨i, m, s, i + 2, HIM.out, HIX.out, .inr ⟨HSI.out, m0, HP1.out⟩, .inr ⟨rfl, m1, HN2.out⟩, ?_, rfl, ?_⟩, F2.out⟩
            · have := HN.out; have := HN1.out; omega
            · have h := M2.out
              rw [if_neg (by decide)] at h
              have hA := HA.out; have hb1 : boff a l (i + 1) = A + m := by rw [HBI.out, HA.out]
              have hb2 := HN4.out; have hn3 := HN3.out
              have hp2 := HP2.out; have hp8 := HP8.out
              rw [setc_nat bs (boff a l s) _ (by omega) (by omega)] at h
              have he : (((boff a l (i + 2) : Nat) : Int) - (boff a l s : Nat)) = (m : Int) + m1 + m0 := by omega
              rw [he]
              exact h
          · go_wp2_with fail
            go_region
            go_wp2_with fail
            have hb1 : boff a l (i + 1) = A + m := by rw [HBI.out, HA.out]
            refine (HP.out _ _ _ (H.out.fr (F1.out.trans (show Fr (fun _ => False) w1 _ by repeat' first | exact Fr.refl _ _ | apply Fr.drew | apply Fr.drewN | apply Fr.alloc)) id id) ((F1.out.trans (show Fr (fun _ => False) w1 _ by repeat' first | exact Fr.refl _ _ | apply Fr.drew | apply Fr.drewN | apply Fr.alloc)).obj HH.out id) ?hn).mono ?_
            case hn => (clear hb1; have := HA.out; have := HN3.out; first | omega | (have hb1 : boff a l (i + 1) = A + m := by rw [HBI.out, HA.out]); omega)
            rintro e w2 ⟨rfl, hm, hf⟩
            have M2 := Lib.hid hm
            have F2 := Lib.hid ((Fr.some (F1.out.trans (show Fr (fun _ => False) w1 _ by repeat' first | exact Fr.refl _ _ | apply Fr.drew | apply Fr.drewN | apply Fr.alloc)) fun _ e => e.elim).trans hf)
            clear hm hf hb1
            go_wp2_with fail
            go_ret
            refine ⟨.inr ⟨i, m, i, i + 2, HIM.out, HIX.out, .inl rfl, .inr ⟨rfl, m1, HN2.out⟩, ?_, rfl, ?_⟩, F2.out⟩
            · have := HN.out; have := HN1.out; omega
            · have h := M2.out
              rw [if_neg (by decide)] at h
              have hA := HA.out; have hb1 : boff a l (i + 1) = A + m := by rw [HBI.out, HA.out]
              have hb2 := HN4.out; have hn3 := HN3.out
              rw [setc_nat bs (A) _ (by omega) (by omega)] at h
              rw [hA]
              have he : (((boff a l (i + 2) : Nat) : Int) - (A : Nat)) = (m : Int) + m1 := by omega
              rw [he]
              exact h
      · have HNX2 := True.intro
        rcases HPV.out with h0 | ⟨s, m0, u0, h0, hp1, k0, k1, k2, hp2⟩
        · have e2 : decide ((0 : Int) < (i : Int)) = false := decide_eq_false (by omega)
          have e2' : decide (0 < i) = false := decide_eq_false (by omega)
          have HSI := Lib.hid h0
          clear h0
          go_wp2_with fail
          have hb1 : boff a l (i + 1) = A + m := by rw [HBI.out, HA.out]
          refine (HP.out _ _ _ (H.out.fr (F1.out.trans (show Fr (fun _ => False) w1 _ by repeat' first | exact Fr.refl _ _ | apply Fr.drew | apply Fr.drewN | apply Fr.alloc)) id id) ((F1.out.trans (show Fr (fun _ => False) w1 _ by repeat' first | exact Fr.refl _ _ | apply Fr.drew | apply Fr.drewN | apply Fr.alloc)).obj HH.out id) ?hn).mono ?_
          case hn => (clear hb1; have := HA.out; first | omega | (have hb1 : boff a l (i + 1) = A + m := by rw [HBI.out, HA.out]); omega)
          rintro e w2 ⟨rfl, hm, hf⟩
          have M2 := Lib.hid hm
          have F2 := Lib.hid ((Fr.some (F1.out.trans (show Fr (fun _ => False) w1 _ by repeat' first | exact Fr.refl _ _ | apply Fr.drew | apply Fr.drewN | apply Fr.alloc)) fun _ e => e.elim).trans hf)
          clear hm hf hb1
          go_wp2_with fail
          go_ret
          refine ⟨.inr ⟨i, m, i, i + 1, HIM.out, HIX.out, .inl rfl, .inl rfl, ?_, rfl, ?_⟩, F2.out⟩
          · have := HN.out; have := HN1.out; omega
          · have h := M2.out
            rw [if_neg (by decide)] at h
            have hA := HA.out; have hb1 : boff a l (i + 1) = A + m := by rw [HBI.out, HA.out]
            rw [setc_nat bs (A) _ (by omega) (by omega)] at h
            rw [hA]
            have he : (((boff a l (i + 1) : Nat) : Int) - (A : Nat)) = (m : Int) := by omega
            rw [he]
            exact h
        · have e2 : (0 : Int) < (i : Int) := by omega
          have e2' : 0 < i := by omega
          have e3 : (i : Int) - 1 = (s : Int) := by omega
          have HSI := Lib.hid h0.symm
          have HP8 := Lib.hid (show boff a l s % 8 = 0 from (HX.out s (by have := HN.out; have := HN1.out; omega)).2.2)
          have HP1 := Lib.hid hp1
          have HP2 := Lib.hid hp2
          have hwp : m0 + m ≤ 1048576 := by have := HA.out; omega
          clear h0 hp1 hp2
          cases u0
          · go_wp2_with fail
            go_region
            go_wp2_with fail
            have hb1 : boff a l (i + 1) = A + m := by rw [HBI.out, HA.out]
            refine (HP.out _ _ _ (H.out.fr (F1.out.trans (show Fr (fun _ => False) w1 _ by repeat' first | exact Fr.refl _ _ | apply Fr.drew | apply Fr.drewN | apply Fr.alloc)) id id) ((F1.out.trans (show Fr (fun _ => False) w1 _ by repeat' first | exact Fr.refl _ _ | apply Fr.drew | apply Fr.drewN | apply Fr.alloc)).obj HH.out id) ?hn).mono ?_
            case hn => (clear hb1; have := HA.out; have := HP2.out; have := HSI.out; first | omega | (have hb1 : boff a l (i + 1) = A + m := by rw [HBI.out, HA.out]); omega)
            rintro e w2 ⟨rfl, hm, hf⟩
            have M2 := Lib.hid hm
            have F2 := Lib.hid ((Fr.some (F1.out.trans (show Fr (fun _ => False) w1 _ by repeat' first | exact Fr.refl _ _ | apply Fr.drew | apply Fr.drewN | apply Fr.alloc)) fun _ e => e.elim).trans hf)
            clear hm hf hb1
            go_wp2_with fail
            go_ret
            refine ⟨.inr ⟨i, m, s, i + 1, HIM.out, HIX.out, .inr ⟨HSI.out, m0, HP1.out⟩, .inl rfl, ?_, rfl, ?_⟩, F2.out⟩
            · have := HN.out; have := HN1.out; omega
            · have h := M2.out
              rw [if_neg (by decide)] at h
              have hA := HA.out; have hb1 : boff a l (i + 1) = A + m := by rw [HBI.out, HA.out]
              have hp2 := HP2.out; have hp8 := HP8.out
              rw [setc_nat bs (boff a l s) _ (by omega) (by omega)] at h
              have he : (((boff a l (i + 1) : Nat) : Int) - (boff a l s : Nat)) = (m : Int) + m0 := by omega
              rw [he]
              exact h
          · go_wp2_with fail
            have hb1 : boff a l (i + 1) = A + m := by rw [HBI.out, HA.out]
            refine (HP.out _ _ _ (H.out.fr (F1.out.trans (show Fr (fun _ => False) w1 _ by repeat' first | exact Fr.refl _ _ | apply Fr.drew | apply Fr.drewN | apply Fr.alloc)) id id) ((F1.out.trans (show Fr (fun _ => False) w1 _ by repeat' first | exact Fr.refl _ _ | apply Fr.drew | apply Fr.drewN | apply Fr.alloc)).obj HH.out id) ?hn).mono ?_
            case hn => (clear hb1; have := HA.out; first | omega | (have hb1 : boff a l (i + 1) = A + m := by rw [HBI.out, HA.out]); omega)
            rintro e w2 ⟨rfl, hm, hf⟩
            have M2 := Lib.hid hm
            have F2 := Lib.hid ((Fr.some (F1.out.trans (show Fr (fun _ => False) w1 _ by repeat' first | exact Fr.refl _ _ | apply Fr.drew | apply Fr.drewN | apply Fr.alloc)) fun _ e => e.elim).trans hf)
            clear hm hf hb1
            go_wp2_with fail
            go_ret
            refine ⟨.inr ⟨i, m, i, i + 1, HIM.out, HIX.out, .inl rfl, .inl rfl, ?_, rfl, ?_⟩, F2.out⟩
            · have := HN.out; have := HN1.out; omega
            · have h := M2.out
              rw [if_neg (by decide)] at h
              have hA := HA.out; have hb1 : boff a l (i + 1) = A + m := by rw [HBI.out, HA.out]
              rw [setc_nat bs (A) _ (by omega) (by omega)] at h
              rw [hA]
              have he : (((boff a l (i + 1) : Nat) : Int) - (A : Nat)) = (m : Int) := by omega
              rw [he]
              exact h
  · have F1 := Lib.hid hf
    clear hf
    have HNO := Lib.hid hno
    clear hno
    go_wp2_with fail
    go_ret
    exact ⟨.inl ⟨rfl, H.out.fr F1.out id id, HNO.out⟩, Fr.some F1.out fun _ e => e.elim⟩
end Go.Proofs.Ytajeiccfgnpbpaa.Mem

/- Contracts of package heap: New, of any place in a memory. -/
namespace Go.Proofs.Ytajeiccfgnpbpaa.Mem
open Go.RowKit

set_option maxRecDepth 100000 in
set_option maxHeartbeats 1000000 in
theorem hnew_any (p g a z : Nat) (bs : List UInt8) (w : World) (h : Mat 108 w p g bs) (ha : a % 8 = 0) (hz : z % 8 = 0) (haz : a + 16 ≤ z) (hl : z ≤ bs.length) :
    Calls Try.prog 38 #[.pointer (some ⟨p, 0, none⟩), .int .i64 (a : Nat), .int .i64 (z : Nat)] w
      fun e w' => e = .returned (.tuple #[.pointer (some ⟨w.heap.size, 0, none⟩), .int .i64 0]) ∧ Heap w' w.heap.size p a z ∧ Mat 108 w' p g (setv bs a ((z : Int) - a)) ∧ Only g w w' := by
  have hbl := h.2.2.2
  have HSS := Lib.hid (size_any p g bs w h)
  have FA := Lib.hid ((Fr.refl (fun _ => False) w).alloc (.cells #[.pointer (some ⟨p, 0, none⟩), .int .i64 (a : Nat), .int .i64 (z : Nat)] 156))
  have OA := Lib.hid (heap_alloc_last w (.cells #[.pointer (some ⟨p, 0, none⟩), .int .i64 (a : Nat), .int .i64 (z : Nat)] 156))
  have hp := hput_any w.heap.size p g bs a z (a : Int) ((z : Int) - a) false _ (h.fr FA.out id id) OA.out (by omega)
  rw [if_neg (by decide), setc_nat _ _ _ (by omega) ha] at hp
  have HP := Lib.hid hp
  have HG := Lib.hid h.lt
  have e1 : ((a : Int) % 8 != 0) = false := by have : (a : Int) % 8 = 0 := by omega
                                               simp [this]
  have e2 : ((z : Int) % 8 != 0) = false := by have : (z : Int) % 8 = 0 := by omega
                                               simp [this]
  have e3 : (a : Int).tmod 8 = 0 := by rw [Int.tmod_eq_emod_of_nonneg (by omega)]; omega
  have e4 : (z : Int).tmod 8 = 0 := by rw [Int.tmod_eq_emod_of_nonneg (by omega)]; omega
  have c1 : decide ((a : Int) < 0) = false := decide_eq_false (by omega)
  have c2 : decide (((bs.length : Nat) : Int) < (z : Int)) = false := decide_eq_false (by omega)
  have c3 : decide ((z : Int) < (a : Int)) = false := decide_eq_false (by omega)
  have c4 : decide ((z : Int) - a < 16) = false := decide_eq_false (by omega)
  clear h hp
  go_enter Try.func38, Try.ntmps38
  go_wp2_with (go_at_call 51; refine HSS.out.mono ?_; rintro e w' ⟨rfl, h0⟩; obtain rfl := h0.symm)
  refine HP.out.mono ?_
  rintro e w1 ⟨rfl, hm, hf⟩
  have M1 := Lib.hid hm
  have O1 := Lib.hid (hf.obj OA.out (by have := HG.out; omega))
  have F1 := Lib.hid ((Fr.some FA.out fun _ e => e.elim).trans hf)
  clear hm hf
  go_wp2_with fail
  go_ret2
  exact ⟨rfl, O1.out, M1.out, F1.out⟩

/-- A new heap's blocks. -/
theorem blks_new (bs : List UInt8) (a z : Nat) (ha : a % 8 = 0) (hz : z % 8 = 0) (haz : a + 16 ≤ z) (hl : z ≤ bs.length) (hl2 : bs.length ≤ 1048576) : Blks (setv bs a ((z : Int) - a)) z a [(z - a, false)] :=
  ⟨by dsimp only; omega, by dsimp only; omega, by dsimp only; omega, by rw [cellv_same _ _ _ (by omega) (by omega)]; show (z : Int) - a = ((z - a : Nat) : Int); omega, by dsimp only; show a + (z - a) = z; omega⟩
end Go.Proofs.Ytajeiccfgnpbpaa.Mem
