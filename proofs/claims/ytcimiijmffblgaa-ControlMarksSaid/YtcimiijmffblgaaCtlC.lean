/- The statement ControlMarks: its example, and its loop. -/
import Derived.Test.YtcimiijmffblgaaCtlB
import Derived.Deep.RegionHeld3
import Derived.Deep.AppendLies
namespace Go.Proofs.Ytcimiijmffblgaa.Ctl
open Go.RowKit

theorem stk_new (w : World) : Stk (w.alloc (.cells #[.slice none 0 0] 111)) w.heap.size (w.heap.size + 1) [] :=
  ⟨_, heap_alloc_new w _, World.ownsRow_nil _ _ _ _⟩

theorem stk_cell {w : World} {p B : Nat} {l : List (Int × Int)} (h : Stk w p B l) : ∃ o c, w.cell? ⟨p, 0, none⟩ = some (.slice o l.length c) := by
  obtain ⟨o, c, h⟩ := stk_any h
  exact ⟨o, c, cell_of_one h⟩

theorem Stk.fr {w w' : World} {p B : Nat} {l : List (Int × Int)} {S : Nat → Prop} (h : Stk w p B l) (hf : Fr S w w') (hp : ¬ S p) (hB : ∀ k, B ≤ k → ¬ S k) : Stk w' p B l := by
  obtain ⟨v, hv, ho⟩ := h
  exact ⟨v, hf.obj hv hp, hf.owns ho (fun k hk => hB k (ho.lt k hk).1)⟩

theorem closed_stk (p B : Nat) (l : List (Int × Int)) (w : World) (h : Stk w p B l) :
    Calls Try.prog 59 #[.pointer (some ⟨p, 0, none⟩)] w fun e w' => e = .returned (.bool (decide (l.length = 0))) ∧ w' = w := by
  obtain ⟨o, c, hc⟩ := stk_cell h
  exact closed_any _ o l.length c w hc

set_option maxRecDepth 100000 in
set_option maxHeartbeats 400000 in
theorem lives_any (w : World) : Calls Try.prog 55 #[] w fun e w' => e = .returned (.bool true) ∧ Below w.heap.size w w' := by
  have hS := stk_new w
  go_enter Try.func55, Try.ntmps55
  go_wp2_with fail
  refine (open_good w.heap.size 0 8 (w.heap.size + 1) [] _ hS (by simp) (by omega) (by omega) (by simp)).mono ?_
  rintro e w1 ⟨rfl, hS1, f1⟩
  go_wp2_with fail
  refine (close_bad w.heap.size (w.heap.size + 1) 1 0 8 [] _ hS1 rfl (by simp)).mono ?_
  rintro e w2 ⟨rfl, b2⟩
  have F2 := Fr.of_below b2 (fun _ => False)
  have hS2 := hS1.fr F2 id (fun _ _ => id)
  go_wp2_with fail
  refine (close_good w.heap.size (w.heap.size + 1) 0 8 [] _ hS2 (by simp) (by omega)).mono ?_
  rintro e w3 ⟨rfl, hS3, f3⟩
  go_wp2_with (go_at_call 59; refine (closed_stk _ _ _ _ hS3).mono ?_; rintro e w4 ⟨rfl, rfl⟩)
  go_ret
  refine ⟨rfl, ?_⟩
  have F := (((Fr.refl (fun j => j = w.heap.size) w).alloc (.cells #[.slice none 0 0] 111)).trans f1).trans ((F2.mono (fun _ _ h => h.elim)).trans f3)
  exact F.below (fun k hk => by omega)

/-- What the statement is told of its marks: nil, or a row of pairs of cells. -/
def IsMarks (w : World) (a : Option Addr) (n : Nat) (L : List (Int × Int)) : Prop :=
  n = 0 ∨ ∃ b off, a = some ⟨b, off, none⟩ ∧ L.length = n ∧ b < w.heap.size ∧
    ∀ j, j < n → w.cell? ⟨b, off + j * 2, none⟩ = some (.int .i64 (L.getD j (0, 0)).1) ∧ w.cell? ⟨b, off + j * 2 + 1, none⟩ = some (.int .i64 (L.getD j (0, 0)).2)

/-- And of its bools. -/
def IsBools (w : World) (a : Option Addr) (n : Nat) (L : List Bool) : Prop :=
  n = 0 ∨ ∃ b off, a = some ⟨b, off, none⟩ ∧ b < w.heap.size ∧ ∀ j, j < n → w.cell? ⟨b, off + j, none⟩ = some (.bool (L.getD j false))

/-- What holds at the head of a round. -/
def Rel (w : World) (B : Nat) (v : Value) (wr : World) : Prop :=
  ∃ L : List (Int × Int), Stk wr B (B + 1) L ∧ wr.ownsRow (B + 1) 114 2 v L.length (marks L) ∧ L.length ≤ 100 ∧ Below B w wr

theorem rel_same {w1 wr wx : World} {v : Value} {K : List (Int × Int)} (hS : Stk wr w1.heap.size (w1.heap.size + 1) K) (hO : wr.ownsRow (w1.heap.size + 1) 114 2 v K.length (marks K))
    (hl : K.length ≤ 100) (hbel : Below w1.heap.size w1 wr) (F : Fr (fun _ => False) wr wx) : Rel w1 w1.heap.size v wx :=
  ⟨K, hS.fr F id (fun _ _ => id), F.owns hO (fun _ _ => id), hl, hbel.trans ((F.below (fun _ _ => id)).mono hbel.size)⟩

theorem rel_pop {w1 wr wx : World} {g m c : Nat} {K' : List (Int × Int)} {p : Int × Int} (hS : Stk wx w1.heap.size (w1.heap.size + 1) K')
    (hO : wr.ownsRow (w1.heap.size + 1) 114 2 (.slice (some ⟨g, 0, none⟩) (m + 1) c) (m + 1) (marks (K' ++ [p]))) (hm : K'.length = m)
    (hl : m ≤ 100) (hbel : Below w1.heap.size w1 wr) (F : Fr (fun j => j = w1.heap.size) wr wx) : Rel w1 w1.heap.size (.slice (some ⟨g, 0, none⟩) m c) wx := by
  have hg := (hO.lt g rfl).1
  have h1 := owns_take hO (k := m) (by omega)
  rw [marks_take, List.take_left' hm] at h1
  refine ⟨K', hS, ?_, by omega, ?_⟩
  · rw [hm]
    exact F.owns h1 (fun k hk => by simp [Value.ownBlock] at hk; omega)
  · have := (Fr.of_below hbel (fun _ => False)).after F (S := fun _ => False) (fun k hk h => by omega)
    exact this.below (fun _ _ => id)

theorem rel_push {w1 wr wx wy : World} {v' : Value} {K : List (Int × Int)} {kk aa : Int} (hS : Stk wx w1.heap.size (w1.heap.size + 1) (K ++ [(kk, aa)]))
    (hO : wy.ownsRow (w1.heap.size + 1) 114 2 v' (K.length + 1) (marks K ++ [.int .i64 kk, .int .i64 aa]))
    (hl : K.length < 100) (hbel : Below w1.heap.size w1 wr) (F : Fr (fun j => j = w1.heap.size) wr wx) (G : Fr (fun _ => False) wx wy) : Rel w1 w1.heap.size v' wy := by
  refine ⟨K ++ [(kk, aa)], hS.fr G id (fun _ _ => id), ?_, by simp; omega, ?_⟩
  · rw [marks_snoc]
    simpa using hO
  · have := ((Fr.of_below hbel (fun _ => False)).after F (S := fun _ => False) (fun k hk h => by omega)).trans G
    exact this.below (fun _ _ => id)

set_option maxRecDepth 100000 in
set_option maxHeartbeats 1000000 in
theorem loop_any (b off n c : Nat) (L : List (Int × Int)) (a2 : Option Addr) (n2 c2 : Nat) (bs : List Bool) (w : World) (hn : n ≤ 300) (hb : b < w.heap.size)
    (hM : ∀ j, j < n → w.cell? ⟨b, off + j * 2, none⟩ = some (.int .i64 (L.getD j (0, 0)).1) ∧ w.cell? ⟨b, off + j * 2 + 1, none⟩ = some (.int .i64 (L.getD j (0, 0)).2))
    (hB : IsBools w a2 n2 bs) :
    Calls Try.prog 10 #[.slice (some ⟨b, off, none⟩) n c, .slice a2 n2 c2] w fun e w' => e = .returned (.bool true) ∧ Below w.heap.size w w' := by
  have HM := Lib.hid hM
  have HB := Lib.hid hB
  clear hM hB
  go_enter Try.func10, Try.ntmps10
  go_wp2_with fail
  refine (lives_any _).mono ?_
  rintro e w1 ⟨rfl, bel⟩
  have hb1 : b < w1.heap.size := Nat.lt_of_lt_of_le hb bel.size
  have HM1 := Lib.hid (fun j hj => And.intro ((bel.cell (p := ⟨b, off + j * 2, none⟩) hb).trans (HM.out j hj).1) ((bel.cell (p := ⟨b, off + j * 2 + 1, none⟩) hb).trans (HM.out j hj).2))
  have HB1 : Hid (IsBools w1 a2 n2 bs) := by
    rcases HB.out with h | ⟨b2, off2, h1, h2, h3⟩
    · exact .inl h
    · exact .inr ⟨b2, off2, h1, Nat.lt_of_lt_of_le h2 bel.size, fun j hj => (bel.cell (p := ⟨b2, off2 + j, none⟩) h2).trans (h3 j hj)⟩
  have BEL := Lib.hid bel
  clear HM HB bel hb
  have d300 : decide ((300 : Int) < n) = false := by simp; omega
  go_wp2_with fail
  go_loopg [6, 27] n (fun g v i wr => ∃ k : Nat, k ≤ n ∧ g = n - k ∧ i = .int .i64 k ∧ Rel w1 w1.heap.size v wr)
  case atStart => exact ⟨0, Nat.zero_le _, rfl, rfl, [], stk_new w1, World.ownsRow_nil _ _ _ _, by simp, (Below.refl _ _).alloc (Nat.le_refl _) _⟩
  case round =>
    obtain ⟨k, hk, rfl, rfl, K, hS, hO, hl, hbel⟩ := hrel
    by_cases hlt : k < n
    · have hc1 := (hbel.cell (p := ⟨b, off + k * 2, none⟩) hb1).trans (HM1.out k hlt).1
      have hc2 := (hbel.cell (p := ⟨b, off + k * 2 + 1, none⟩) hb1).trans (HM1.out k hlt).2
      generalize (L.getD k (0, 0)).1 = kk at hc1
      generalize (L.getD k (0, 0)).2 = aa at hc2
      have hbr : b < wr.heap.size := Nat.lt_of_lt_of_le hb1 hbel.size
      obtain ⟨o, cc, hv, hw1, hw2, hw3, hw4⟩ := owns_form hO
      have HW := Lib.hid (And.intro hw1 (And.intro hw2 (And.intro hw3 hw4)))
      have HO := Lib.hid hO
      have HS := Lib.hid hS
      subst hv
      clear hw1 hw2 hw3 hw4 hO hS
      have hlB : w1.heap.size < wr.heap.size := by obtain ⟨v, h, _⟩ := HS.out; exact lt_of_block h
      by_cases hk2 : k < n2 ∧ bs.getD k false = true
      · obtain ⟨hk2, hbk⟩ := hk2
        rcases HB1.out with rfl | ⟨b2, off2, rfl, hb2, h3⟩
        · omega
        · have hc3 := (hbel.cell (p := ⟨b2, off2 + k, none⟩) hb2).trans (h3 k hk2)
          have hbr2 : b2 < wr.heap.size := Nat.lt_of_lt_of_le hb2 hbel.size
          rw [hbk] at hc3
          clear h3 hbk
          have HSa := Lib.hid (HS.out.fr ((Fr.refl (fun _ => False) wr).alloc (.cells #[.int .i64 kk, .int .i64 aa] 114)) id (fun _ _ => id))
          have HOa := Lib.hid (HO.out.alloc (.cells #[.int .i64 kk, .int .i64 aa] 114))
          have HBa := Lib.hid (hbel.alloc hbel.size (.cells #[.int .i64 kk, .int .i64 aa] 114))
          go_upto_if 43 with fail
          go_cut [6, 9] (fun v _ wc => Rel w1 w1.heap.size v wc)
          case first =>
            rcases List.eq_nil_or_concat K with rfl | ⟨K', ⟨k', a'⟩, hK⟩
            · obtain ⟨o0, c0, hcs⟩ := stk_cell HSa.out
              go_wp2_with (go_at_call 56; refine (close_empty _ _ _ _ _ hcs).mono ?_; rintro e w' ⟨rfl, rfl⟩)
              go_quiet (fail)
              go_wp2
              go_meet
              case rel => exact rel_same HSa.out HOa.out hl HBa.out ((Fr.refl _ _).drewN _)
            · rw [List.concat_eq_append] at hK
              obtain ⟨m, hm⟩ : ∃ m, K'.length = m := ⟨_, rfl⟩
              have hKl : K.length = m + 1 := by rw [hK]; simp [hm]
              have HOk := HOa
              rw [hKl] at HO HOa hl HW
              rw [hKl, hK] at HOk
              rw [hKl]
              obtain ⟨g, rfl⟩ : ∃ g, o = some ⟨g, 0, none⟩ := by
                rcases HO.out.2 with ⟨_, h⟩ | ⟨g, cap, cur, h, _⟩
                · omega
                · simp at h; exact ⟨g, h.1⟩
              have HSb : Hid (Stk _ _ _ (K' ++ [(k', a')])) := Lib.hid (hK ▸ HSa.out)
              have ecast : ((m + 1 : Nat) : Int) = (m : Int) + 1 := by omega
              rw [ecast]
              have hcl := cells_last (w := wr.alloc (.cells #[.int .i64 kk, .int .i64 aa] 114)) (l := K) (by rw [hKl]; exact HOa.out) k' a' K' hK
              rw [hm] at hcl
              have hn0 : ((m : Int) + 1 == 0) = false := by rw [beq_eq_false_iff_ne]; omega
              have hcc : m + 1 ≤ cc := HW.out.1
              have hcm : cc ≤ 9223372036854775807 := HW.out.2.1
              have hmk1 : (wr.alloc (.cells #[.int .i64 kk, .int .i64 aa] 114)).cell? ⟨wr.heap.size, 0, none⟩ = some (.int .i64 kk) := by simp
              have hmk2 : (wr.alloc (.cells #[.int .i64 kk, .int .i64 aa] 114)).cell? ⟨wr.heap.size, 1, none⟩ = some (.int .i64 aa) := by simp
              have HX := Lib.hid (And.intro hcl (And.intro hmk1 hmk2))
              have hgB : w1.heap.size < g := by have := (HOa.out.lt g rfl).1; omega
              have HK := Lib.hid hK
              have HKL := Lib.hid hKl
              have HMM := Lib.hid hm
              clear hcl hmk1 hmk2 hK hKl hm ecast
              cases hkk : (k' == kk) with
              | false =>
                go_wp2_with (go_at_call 56; refine (close_bad _ _ _ _ _ _ _ HSb.out hkk (by have := HMM.out; omega)).mono ?_; rintro e w2 ⟨rfl, hb2x⟩; have F2 := Fr.of_below hb2x (fun _ => False); have hx1 := F2.cell HX.out.1.1 id; have hx2 := F2.cell HX.out.1.2 id; have hx3 := F2.cell HX.out.2.1 id; have hx4 := F2.cell HX.out.2.2 id; clear hb2x)
                go_quiet (fail)
                go_wp2
                go_meet
                case rel => exact rel_same (K := K) HSa.out (by rw [HKL.out]; exact HOa.out) (by rw [HKL.out]; exact hl) HBa.out (F2.drewN _)
              | true =>
                obtain rfl : k' = kk := by simpa using hkk
                go_wp2_with (go_at_call 56; refine (close_good _ _ _ _ _ _ HSb.out (by have := HMM.out; omega) (by omega)).mono ?_; rintro e w2 ⟨rfl, hS2, F2⟩; have HS2 := Lib.hid hS2; have hx1 := F2.cell HX.out.1.1 (by simp; omega); have hx2 := F2.cell HX.out.1.2 (by simp; omega); have hx3 := F2.cell HX.out.2.1 (by simp; omega); have hx4 := F2.cell HX.out.2.2 (by simp; omega); clear hS2)
                go_quiet (fail)
                go_wp2
                go_meet
                case rel => exact rel_pop HS2.out HOk.out HMM.out (by omega) HBa.out (F2.drewN _)
          case rest =>
            obtain ⟨K2, hS2, hO2, hl2, hb2x⟩ := hcut
            obtain ⟨o2, c2x, hv2, _⟩ := owns_form hO2
            subst hv2
            have HS2 := Lib.hid hS2
            have HO2 := Lib.hid hO2
            obtain ⟨vs, hps, hos⟩ := hS2
            have hcs := cell_of_one hps
            have HPS := Lib.hid (And.intro hps hos)
            have HEQ := Lib.hid (equal_same vs _ _ _ K2 wc hos hO2 (by omega))
            clear hO2 hps hos
            by_cases hz : K2.length = 0
            · have hz' : ((K2.length : Int) == 0) = true := by simp [hz]
              have HCD := Lib.hid (closed_stk _ _ K2 wc HS2.out)
              rw [hz] at HCD
              have HZ := Lib.hid hz
              clear hz
              go_wp2_with (first | (go_at_call 59; refine HCD.out.mono ?_; rintro e w' ⟨rfl, rfl⟩) | (go_at_call 60; refine HEQ.out.mono ?_; rintro e w' ⟨rfl, d, rfl⟩))
              go_roundg (n - (k + 1))
              case measure => omega
              case rel => exact ⟨k + 1, by omega, rfl, by go_num, rel_same HS2.out HO2.out hl2 hb2x ((Fr.refl _ _).drewN _)⟩
            · have hz' : ((K2.length : Int) == 0) = false := by rw [beq_eq_false_iff_ne]; omega
              have HCD := Lib.hid (closed_stk _ _ K2 wc HS2.out)
              rw [decide_eq_false hz] at HCD
              clear hz
              go_wp2_with (first | (go_at_call 59; refine HCD.out.mono ?_; rintro e w' ⟨rfl, rfl⟩) | (go_at_call 60; refine HEQ.out.mono ?_; rintro e w' ⟨rfl, d, rfl⟩))
              go_roundg (n - (k + 1))
              case measure => omega
              case rel => exact ⟨k + 1, by omega, rfl, by go_num, rel_same HS2.out HO2.out hl2 hb2x ((Fr.refl _ _).drewN _)⟩
      · have hcl : ¬ k < n2 ∨ (k < n2 ∧ bs.getD k false = false) := by
          by_cases h : k < n2
          · exact .inr ⟨h, by simpa using fun h' => hk2 ⟨h, h'⟩⟩
          · exact .inl h
        have hcl2 : decide (k < n2) = false ∨ (k < n2 ∧ ∃ b2 off2, a2 = some ⟨b2, off2, none⟩ ∧ b2 < wr.heap.size ∧ wr.cell? ⟨b2, off2 + k, none⟩ = some (.bool false)) := by
          rcases hcl with h | ⟨h, h'⟩
          · exact .inl (by simpa using h)
          · rcases HB1.out with h0 | ⟨b2, off2, e2, hb2, h3⟩
            · omega
            · have h4 := (hbel.cell (p := ⟨b2, off2 + k, none⟩) hb2).trans (h3 k h)
              rw [h'] at h4
              exact .inr ⟨h, b2, off2, e2, Nat.lt_of_lt_of_le hb2 hbel.size, h4⟩
        clear hk2 hcl
        have HSa := Lib.hid (HS.out.fr ((Fr.refl (fun _ => False) wr).alloc (.cells #[.int .i64 kk, .int .i64 aa] 114)) id (fun _ _ => id))
        have HOa := Lib.hid (HO.out.alloc (.cells #[.int .i64 kk, .int .i64 aa] 114))
        have HBa := Lib.hid (hbel.alloc hbel.size (.cells #[.int .i64 kk, .int .i64 aa] 114))
        have hmk1 : (wr.alloc (.cells #[.int .i64 kk, .int .i64 aa] 114)).cell? ⟨wr.heap.size, 0, none⟩ = some (.int .i64 kk) := by simp
        have hmk2 : (wr.alloc (.cells #[.int .i64 kk, .int .i64 aa] 114)).cell? ⟨wr.heap.size, 1, none⟩ = some (.int .i64 aa) := by simp
        have HX := Lib.hid (And.intro hmk1 hmk2)
        clear hmk1 hmk2
        rcases hcl2 with hk2 | ⟨hk2, b2, off2, rfl, hb2, hc3⟩
        all_goals
          go_upto_if 43 with fail
          go_cut [6, 9] (fun v _ wc => Rel w1 w1.heap.size v wc)
          case first =>
            by_cases hgood : 0 ≤ kk ∧ kk ≤ 3 ∧ K.length < 100
            · obtain ⟨hg1, hg2, hg3⟩ := hgood
              obtain ⟨m, hm⟩ : ∃ m, K.length = m := ⟨_, rfl⟩
              rw [hm] at hg3 hl
              rw [hm]
              have HM2 := Lib.hid hm
              clear hm
              go_wp2_with (go_at_call 57; refine (open_good _ _ _ _ _ _ HSa.out (by simp; omega) hg1 hg2 (by rw [HM2.out]; omega)).mono ?_; rintro e w2 ⟨rfl, hS2, F2⟩; have HS2 := Lib.hid hS2; have hx3 := F2.cell HX.out.1 (by simp; omega); have hx4 := F2.cell HX.out.2 (by simp; omega); clear hS2)
              have HOw := Lib.hid (fun W (hF : Fr (fun _ => False) w2 W) => hF.owns (F2.owns HOa.out (fun k hk => by have := (HOa.out.lt k hk).1; omega)) (fun _ _ => id))
              rw [HM2.out] at HOw
              obtain ⟨i0, hi, hz0, hz1, hz2⟩ := info_parts info114
              have HI := Lib.hid hi
              have HZ := Lib.hid (And.intro hz0 (And.intro hz1 hz2))
              have hsz2 : w1.heap.size + 1 ≤ w2.heap.size := by have := F2.size; simp at this; omega
              have F0 : Fr (fun _ => False) w2 w2 := Fr.refl _ _
              have hMB := F2.size
              clear hi hz0 hz1 hz2
              have HCl : Hid (∀ W, Fr (fun _ => False) w2 W → Calls Try.prog 58 #[.slice o m cc] W fun e w' => ∃ v', e = .returned v' ∧ Fr (fun _ => False) w2 w' ∧ Fr (fun _ => False) W w' ∧ Hid (w'.ownsRow w2.heap.size 114 2 v' m (marks K))) :=
                fun W hF => (clone_any _ m (w1.heap.size + 1) K W (HOw.out W hF) (by omega)).mono fun e w' ⟨v', he, ho, hf⟩ => ⟨v', he, hF.trans hf, hf, owns_mono ho hF.size⟩
              go_region_held3 (fun W => W.cell? ⟨wr.heap.size, 0, none⟩ = some (.int .i64 kk) ∧ W.cell? ⟨wr.heap.size, 1, none⟩ = some (.int .i64 aa) ∧ Fr (fun _ => False) w2 W)
                ((go_split_ands; refine (fun hF => ⟨Fr.cell hF hx3 id, Fr.cell hF hx4 id, hF⟩ : Fr (fun _ => False) w2 _ → _) ?_; first | assumption | exact Fr.drew (by assumption) | exact Fr.alloc (by assumption) _))
                (first | (go_at_call 58; go_split_ands; refine (HCl.out _ (by assumption)).mono ?_; rintro e wq ⟨v1, rfl, hq1, hq2, HV⟩) | (refine step_append_own rfl (.tmp 116) (.tmp 118) 109 rfl w2.heap.size 114 i0 _ 2 16 Try.underlying109 HI.out HZ.out.1 HZ.out.2.1 HZ.out.2.2 rfl (by decide) v1 m (marks K) (by rfl) (HV.out.alloc _) ⟨wq.heap.size, 0, none⟩ 1 1 [.int .i64 kk, .int .i64 aa] (by rfl) rfl (cell_two_new wq _ _ _) (by simp [Value.oneCell']) (by unfold maxLen; omega) (by omega) (by have := hq1.size; simp; omega) ?_; intro v2 w3 hown2 hgrow2; have hq3 : Fr (fun _ => False) w2 w3 := Fr.grown (Fr.alloc hq1 _) hgrow2 (fun k hk => .inl (HV.out.lt k hk).1); have HV2 := Lib.hid hown2; clear hown2 hgrow2) | (refine step_append_own rfl (.tmp 116) (.tmp 118) 109 rfl w2.heap.size 114 i0 _ 2 16 Try.underlying109 HI.out HZ.out.1 HZ.out.2.1 HZ.out.2.2 rfl (by decide) v1 m (marks K) (by rfl) HV.out ⟨w2.heap.size, 0, none⟩ 1 1 [.int .i64 kk, .int .i64 aa] (by rfl) rfl (fun j u hu => Fr.cell hq2 (cell_two_new w2 _ _ _ j u hu) id) (by simp [Value.oneCell']) (by unfold maxLen; omega) (by omega) hq1.size ?_; intro v2 w3 hown2 hgrow2; have hq3 : Fr (fun _ => False) w2 w3 := Fr.grown hq1 hgrow2 (fun k hk => .inl (HV.out.lt k hk).1); have HV2 := Lib.hid hown2; clear hown2 hgrow2) | fail)
              all_goals
                go_wp2_with fail
                go_meet
                case rel => exact rel_push (by simpa using HS2.out) (by rw [HM2.out]; exact owns_mono HV2.out hsz2) (by rw [HM2.out]; omega) HBa.out F2 hq3
            · obtain ⟨o0, c0, hcs⟩ := stk_cell HSa.out
              have hx3 := HX.out.1
              have hx4 := HX.out.2
              have hlN : ¬ (0 ≤ kk ∧ kk ≤ 3 ∧ K.length < 100) := hgood
              obtain ⟨m, hm⟩ : ∃ m, K.length = m := ⟨_, rfl⟩
              rw [hm] at hgood hcs hl
              rw [hm]
              have HM2 := Lib.hid hm
              clear hm hlN
              have hway : kk < 0 ∨ (0 ≤ kk ∧ 3 < kk) ∨ (0 ≤ kk ∧ kk ≤ 3 ∧ ¬ m < 100) := by omega
              have HGB := Lib.hid hgood
              clear hgood
              rcases hway with h1 | ⟨h1, h2⟩ | ⟨h1, h2, h3⟩
              all_goals
                go_wp2_with (go_at_call 57; refine (open_bad _ _ _ _ _ _ _ hcs HGB.out).mono ?_; rintro e w' ⟨rfl, rfl⟩)
                go_meet
                case rel => exact rel_same HSa.out (by rw [HM2.out]; have := HOa.out; rw [HM2.out] at this; exact this) (by rw [HM2.out]; exact hl) HBa.out (Fr.refl _ _)
          case rest =>
            obtain ⟨K2, hS2, hO2, hl2, hb2x⟩ := hcut
            obtain ⟨o2, c2x, hv2, _⟩ := owns_form hO2
            subst hv2
            have HS2 := Lib.hid hS2
            have HO2 := Lib.hid hO2
            obtain ⟨vs, hps, hos⟩ := hS2
            have hcs := cell_of_one hps
            have HPS := Lib.hid (And.intro hps hos)
            have HEQ := Lib.hid (equal_same vs _ _ _ K2 wc hos hO2 (by omega))
            clear hO2 hps hos
            by_cases hz : K2.length = 0
            · have hz' : ((K2.length : Int) == 0) = true := by simp [hz]
              have HCD := Lib.hid (closed_stk _ _ K2 wc HS2.out)
              rw [hz] at HCD
              have HZ := Lib.hid hz
              clear hz
              go_wp2_with (first | (go_at_call 59; refine HCD.out.mono ?_; rintro e w' ⟨rfl, rfl⟩) | (go_at_call 60; refine HEQ.out.mono ?_; rintro e w' ⟨rfl, d, rfl⟩))
              go_roundg (n - (k + 1))
              case measure => omega
              case rel => exact ⟨k + 1, by omega, rfl, by go_num, rel_same HS2.out HO2.out hl2 hb2x ((Fr.refl _ _).drewN _)⟩
            · have hz' : ((K2.length : Int) == 0) = false := by rw [beq_eq_false_iff_ne]; omega
              have HCD := Lib.hid (closed_stk _ _ K2 wc HS2.out)
              rw [decide_eq_false hz] at HCD
              clear hz
              go_wp2_with (first | (go_at_call 59; refine HCD.out.mono ?_; rintro e w' ⟨rfl, rfl⟩) | (go_at_call 60; refine HEQ.out.mono ?_; rintro e w' ⟨rfl, d, rfl⟩))
              go_roundg (n - (k + 1))
              case measure => omega
              case rel => exact ⟨k + 1, by omega, rfl, by go_num, rel_same HS2.out HO2.out hl2 hb2x ((Fr.refl _ _).drewN _)⟩
    · go_wp2_with (first | (go_at_call 56; refine (close_none _ _).mono ?_; rintro e w' ⟨rfl, rfl⟩) | (go_at_call 57; refine (open_none _ _ _).mono ?_; rintro e w' ⟨rfl, rfl⟩) | (go_at_call 59; refine (closed_none _).mono ?_; rintro e w' ⟨rfl, rfl⟩))
      go_ret
      exact ⟨rfl, BEL.out.trans (hbel.mono BEL.out.size)⟩
end Go.Proofs.Ytcimiijmffblgaa.Ctl
