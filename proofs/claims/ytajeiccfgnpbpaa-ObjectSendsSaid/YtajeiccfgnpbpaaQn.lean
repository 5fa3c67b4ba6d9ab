/- Several texts in one: WmF, Obw, MapB. -/
import Derived.Test.YtajeiccfgnpbpaaClsO
import Derived.Deep.QuietTactic
import Derived.BigQuiet
import Derived.Test.YtajeiccfgnpbpaaQm
import Derived.Test.YtajeiccfgnpbpaaQb
import Derived.Test.YtajeiccfgnpbpaaQh
import Derived.Maps.OwnSet
set_option linter.unusedSimpArgs false
set_option linter.unusedVariables false
/- Contracts: World.Make where there is no room. -/
namespace Go.Proofs.Ytajeiccfgnpbpaa.Mem
open Go.RowKit

/-- What Make leaves if there is no room. -/
def MadeNone (wb p g b a0 z x : Nat) (bs1 : List UInt8) (root : Int) (vA vL : Value) (w : World) (e : Ending) (w' : World) : Prop :=
  e = .returned (.bool true) ∧ w'.heap[wb]? = some (.cells #[.pointer (some ⟨p, 0, none⟩), .pointer (some ⟨b, 0, none⟩), .int .i64 root, vA, vL] 56 (0, 0)) ∧
  Sat w' b p g a0 z x bs1 ∧ Fr (fun j => j = b ∨ j = g) w w'

set_option maxRecDepth 100000 in
set_option maxHeartbeats 4000000 in
theorem wmake_full_no {a0 : Nat} (slots par : Int) (wb p g b z x n cA : Nat) (oA : Option Addr) (vL : Value) (bs bs1 : List UInt8) (root : Int) (w : World)
    (hw : w.heap[wb]? = some (.cells #[.pointer (some ⟨p, 0, none⟩), .pointer (some ⟨b, 0, none⟩), .int .i64 root, .slice oA n cA, vL] 56 (0, 0)))
    (h : Sat w b p g a0 z x bs) (h8 : x % 8 = 0) (hd : wb ≠ b ∧ wb ≠ p ∧ wb ≠ g) (hpar : (n : Int) ≤ par)
    (hc : cnewv z x bs root 0 slots = ((0, -8), x, bs1)) :
    Calls Try.prog 26 #[.pointer (some ⟨wb, 0, none⟩), .int .i64 par, .int .i64 slots] w (MadeNone wb p g b a0 z x bs1 root (.slice oA n cA) vL w) := by
  have hnlt : ¬ (par < (n : Int)) := by omega
  obtain ⟨q0, q1, q2, q3, q4, y0, y1, y2, y3, y4, yl⟩ := five_cells hw
  have HH := Lib.hid (here_any b p g a0 z x bs w h)
  have hcn := fun W h => cnew_any b p g a0 z x bs root 0 slots W h h8 (by omega)
  rw [hc] at hcn
  have HS := Lib.hid h
  have HCN := Lib.hid hcn
  have HW := Lib.hid hw
  clear hcn h hw hc
  go_enter Try.func26, Try.ntmps26
  go_wp2_with (go_at_call 21; refine HH.out.mono ?_; rintro e w' ⟨rfl, h0⟩; obtain rfl := h0.symm)
  go_region_held3 (fun W => W.cell? ⟨wb, 1, none⟩ = some (.pointer (some ⟨b, 0, none⟩)) ∧ W.cell? ⟨wb, 2, none⟩ = some (.int .i64 root) ∧ Fr (fun j => j = b ∨ j = g) w W)
    ((go_split_ands; refine (fun hF => ⟨Fr.cell hF q1 (by dsimp only; omega), Fr.cell hF q2 (by dsimp only; omega), hF⟩ : Fr (fun j => j = b ∨ j = g) w _ → _) ?_; repeat' first | exact Fr.refl _ _ | assumption | apply Fr.drew | apply Fr.alloc))
    (first | (go_at_call 76; go_split_ands; refine (HCN.out _ (Sat.drew HS.out)).mono ?_; rintro e w1 ⟨rfl, hs, hf⟩; have hf1 := Fr.undrew hf) | fail)
  have S1 := Lib.hid hs
  have F1 := Lib.hid hf1
  have hw1 := hf1.obj HW.out (by omega)
  obtain ⟨p0, p1, p2, p3, p4, z0, z1, z2, z3, z4, zl⟩ := five_cells hw1
  have HW1 := Lib.hid hw1
  clear hs hf hf1 hw1 q0 q1 q2 q3 q4 y0 y1 y2 y3 y4
  go_wp2_with (go_at_call 21; refine (here_any b p g a0 z x bs1 w1 S1.out).mono ?_; rintro e w' ⟨rfl, h0⟩; obtain rfl := h0.symm)
  go_ret
  exact ⟨rfl, HW1.out, S1.out, F1.out⟩

set_option maxRecDepth 100000 in
set_option maxHeartbeats 4000000 in
theorem wmake_full_of {a0 : Nat} (slots pp : Int) (par : Nat) (wb p g b z x n cA gA : Nat) (vL : Value) (bs bs1 : List UInt8) (root : Int) (w : World)
    (hw : w.heap[wb]? = some (.cells #[.pointer (some ⟨p, 0, none⟩), .pointer (some ⟨b, 0, none⟩), .int .i64 root, .slice (some ⟨gA, 0, none⟩) n cA, vL] 56 (0, 0)))
    (h : Sat w b p g a0 z x bs) (h8 : x % 8 = 0) (hd : wb ≠ b ∧ wb ≠ p ∧ wb ≠ g) (hpl : par < n) (hn : n ≤ 64) (c0 : w.cell? ⟨gA, par, none⟩ = some (.int .i64 pp)) (hppr : -9223372036854775808 ≤ pp ∧ pp ≤ 9223372036854775807)
    (hc : cnewv z x bs root pp slots = ((0, -8), x, bs1)) :
    Calls Try.prog 26 #[.pointer (some ⟨wb, 0, none⟩), .int .i64 (par : Nat), .int .i64 slots] w (MadeNone wb p g b a0 z x bs1 root (.slice (some ⟨gA, 0, none⟩) n cA) vL w) := by
  have hp0 : (0 : Int) ≤ par := by omega
  have hp1 : (par : Int) < n := by omega
  have hpt : ((par : Int).toNat) = par := by omega
  obtain ⟨q0, q1, q2, q3, q4, y0, y1, y2, y3, y4, yl⟩ := five_cells hw
  have HH := Lib.hid (here_any b p g a0 z x bs w h)
  have hcn := fun W h => cnew_any b p g a0 z x bs root pp slots W h h8 (by omega)
  rw [hc] at hcn
  have HS := Lib.hid h
  have HCN := Lib.hid hcn
  have HW := Lib.hid hw
  clear hcn h hw hc
  go_enter Try.func26, Try.ntmps26
  go_wp2_with (go_at_call 21; refine HH.out.mono ?_; rintro e w' ⟨rfl, h0⟩; obtain rfl := h0.symm)
  go_region_held3 (fun W => W.cell? ⟨wb, 1, none⟩ = some (.pointer (some ⟨b, 0, none⟩)) ∧ W.cell? ⟨wb, 2, none⟩ = some (.int .i64 root) ∧ Fr (fun j => j = b ∨ j = g) w W)
    ((go_split_ands; refine (fun hF => ⟨Fr.cell hF q1 (by dsimp only; omega), Fr.cell hF q2 (by dsimp only; omega), hF⟩ : Fr (fun j => j = b ∨ j = g) w _ → _) ?_; repeat' first | exact Fr.refl _ _ | assumption | apply Fr.drew | apply Fr.alloc))
    (first | (go_at_call 76; go_split_ands; refine (HCN.out _ (Sat.drew HS.out)).mono ?_; rintro e w1 ⟨rfl, hs, hf⟩; have hf1 := Fr.undrew hf) | fail)
  have S1 := Lib.hid hs
  have F1 := Lib.hid hf1
  have hw1 := hf1.obj HW.out (by omega)
  obtain ⟨p0, p1, p2, p3, p4, z0, z1, z2, z3, z4, zl⟩ := five_cells hw1
  have HW1 := Lib.hid hw1
  clear hs hf hf1 hw1 q0 q1 q2 q3 q4 y0 y1 y2 y3 y4
  go_wp2_with (go_at_call 21; refine (here_any b p g a0 z x bs1 w1 S1.out).mono ?_; rintro e w' ⟨rfl, h0⟩; obtain rfl := h0.symm)
  go_ret
  exact ⟨rfl, HW1.out, S1.out, F1.out⟩
end Go.Proofs.Ytajeiccfgnpbpaa.Mem

/- The statement ObjectSends: its world; one more class, or none where there is no room. -/
namespace Go.Proofs.Ytajeiccfgnpbpaa.Mem
open Go.RowKit

/-- A world with classes and objects, and blocks behind its space. -/
def OW (wb B p g b k : Nat) (A : Nat → Nat) (L : List RC) (l : List Bk) (T : List Th) (bs : List UInt8) (x : Nat) (wr : World) : Prop :=
  ∃ (vs : Nat → Value) (vA vL : Value), wr.heap[wb]? = some (.cells #[.pointer (some ⟨p, 0, none⟩), .pointer (some ⟨b, 0, none⟩), .int .i64 8, vA, vL] 56 (0, 0)) ∧ Sat wr b p g 16 16384 x bs ∧
    OSt bs 5 16384 32768 x k A L l T ∧ (∀ j, (vs j).oneCell' = true) ∧ (∀ j (h : j < L.length), OwnR wr (vs j) L[j].own) ∧
    ((k = 0 ∧ vA = .slice none 0 0 ∧ vL = .slice none 0 0) ∨
     (0 < k ∧ ∃ gA cA gL cL : Nat, vA = .slice (some ⟨gA, 0, none⟩) k cA ∧ vL = .slice (some ⟨gL, 0, none⟩) k cL ∧ gA ≠ gL ∧ wr.ownsRow B 2 1 (.slice (some ⟨gA, 0, none⟩) k cA) k ((ats A k).map (.int .i64)) ∧ wr.ownsRow B 90 4 (.slice (some ⟨gL, 0, none⟩) k cL) k (rows4 (r4 L vs))))

/-- What one more class comes to. -/
def OSet (w : World) (wb B b g j : Nat) : Prop := j = wb ∨ j = b ∨ j = g ∨ (B ≤ j ∧ ∃ cs, w.heap[j]? = some (.cells cs 2 (0, 0)))
def OWn (wb B p g b k : Nat) (L : List RC) (l : List Bk) (T : List Th) (q : Int) (w : World) (e : Ending) (w' : World) : Prop :=
  e = .returned (.bool true) ∧ ((∃ A' bs' x', OW wb B p g b (k + 1) A' (L ++ [⟨q, sizeOfP L q, 5, []⟩]) l T bs' x' w') ∨ (∃ A' bs' x', 0 < k ∧ OW wb B p g b k A' L l T bs' x' w')) ∧ Fr (OSet w wb B b g) w w'

theorem ow_of {wb B p g b k gA : Nat} {A' : Nat → Nat} {bs1 : List UInt8} {L : List RC} {l : List Bk} {T : List Th} {vs : Nat → Value} {c : Int} {ats0 : List Int} {x1 : Nat} {w w' : World} {e : Ending} {q : Int} (hLk : L.length = k)
    (h : MadeMore wb p g b 16 16384 x1 B gA k bs1 8 c ats0 (r4 L vs ++ [(q, sizeOfP L q, 5, .slice none 0 0)]) w e w') (hcs : OSt bs1 5 16384 32768 x1 (k + 1) A' (L ++ [⟨q, sizeOfP L q, 5, []⟩]) l T) (hats : ats0 ++ [c] = ats A' (k + 1)) (hgA : gA = wb ∨ (B ≤ gA ∧ ∃ cs, w.heap[gA]? = some (.cells cs 2 (0, 0))))
    (hone : ∀ j, (vs j).oneCell' = true) (hown : ∀ j (h : j < L.length), OwnR w (vs j) L[j].own)
    (hty : ∀ j cs, w.heap[j]? = some (.cells cs 150 (0, 0)) → ¬ (j = wb ∨ j = gA ∨ (j = b ∨ j = g))) :
    OWn wb B p g b k L l T q w e w' := by
  obtain ⟨he, ⟨gA', cA', gL', cL', hob, hne, hoA, hoL⟩, hs, hf⟩ := h
  rw [hats] at hoA
  refine ⟨he, .inl ⟨A', bs1, x1, fun j => if j = k then .slice none 0 0 else vs j, _, _, hob, hs, hcs, fun j => ?_, fun j hj => ?_, .inr ⟨by omega, gA', cA', gL', cL', rfl, rfl, hne, hoA, ?_⟩⟩, hf.mono fun j _ e => by
    rcases e with e | rfl | e | e
    · exact .inl e
    · rcases hgA with e | e
      · exact .inl e
      · exact .inr (.inr (.inr e))
    · exact .inr (.inl e)
    · exact .inr (.inr (.inl e))⟩
  · dsimp only
    split
    · rfl
    · exact hone j
  · dsimp only
    rcases Nat.lt_or_ge j L.length with h1 | h1
    · rw [if_neg (by omega)]
      have := (hown j h1).fr hf (fun k cs hk => hty k cs hk)
      rwa [List.getElem_append_left h1]
    · have hj' : j = k := by rw [List.length_append, List.length_singleton] at hj; omega
      subst hj'
      rw [if_pos rfl]
      have : (L ++ [(⟨q, sizeOfP L q, 5, []⟩ : RC)])[j] = ⟨q, sizeOfP L q, 5, []⟩ := by rw [List.getElem_append_right (by omega)]; simp [hLk]
      rw [this]
      exact ⟨none, 0, rfl, .inl rfl⟩
  · have := r4_snoc L ⟨q, sizeOfP L q, 5, []⟩ vs (.slice none 0 0)
    rw [hLk] at this
    rw [this]
    exact hoL

theorem ow_make {wb B p g b k x : Nat} {A : Nat → Nat} {L : List RC} {l : List Bk} {T : List Th} {bs : List UInt8} (par : Int) (w : World) (h : OW wb B p g b k A L l T bs x w) (hk : k ≤ 63) (hx : k = 0 → x + 176 ≤ 16384) (hp : 0 ≤ par) (hd : (wb ≠ b ∧ wb ≠ p ∧ wb ≠ g) ∧ (wb < B ∧ b < B ∧ p < B ∧ g < B) ∧ B ≤ w.heap.size) (hsz : ∀ r ∈ L, I64 r.size) :
    Calls Try.prog 26 #[.pointer (some ⟨wb, 0, none⟩), .int .i64 par, .int .i64 5] w (OWn wb B p g b k L l T (if par < k then par else -1) w) := by
  obtain ⟨vs, vA, vL, hob, hs, hst, hone, hown, hv⟩ := h
  have hwl := lt_of_block hob
  have hcst := hst.cst
  have hbig := hcst.big
  have hLk := hcst.klen
  have hx8 := hst.x8
  have hgobj : ∃ cs, w.heap[g]? = some (.cells cs 5 (0, 0)) := ⟨_, hs.mat.2.2.1⟩
  have hbobj := hs.2.2.1
  have hI : ∀ q : Int, -1 ≤ q ∧ q < (k : Int) → I64 (sizeOfP L q) := fun q hq => by
    unfold sizeOfP
    split
    · unfold I64; omega
    · have hql : q.toNat < L.length := by omega
      have := hsz L[q.toNat] (List.getElem_mem _)
      simpa [List.getD_eq_getElem?_getD, List.getElem?_eq_getElem hql] using this
  rcases hv with ⟨rfl, rfl, rfl⟩ | ⟨hk0, gA, cA, gL, cL, rfl, rfl, hne, hoA, hoL⟩
  · obtain ⟨bs1, hc, hst1⟩ := hst.new (by omega) (by omega) (by have := hx rfl; omega) (p := -1) (by omega) (hI _ (by omega))
    rw [show ppl A (-1) = 0 from rfl] at hc
    have hL0 : L = [] := List.length_eq_zero_iff.1 hLk
    subst hL0
    rw [if_neg (by omega)]
    refine (wmake_zero (5 : Nat) par wb p g b 16384 x (x + 56 + 24 * 5) B bs bs1 8 _ w hob hd.2.2 hs hx8 hd.1 hd.2.1 hp hc (by rw [hst1.cst.isIn]; exact decide_eq_true ⟨0, by omega, by simp⟩) (by omega)).mono fun e w' hm => ?_
    exact ow_of (L := []) (vs := vs) rfl hm hst1 (by simp [ats]) (.inl rfl) hone hown (fun j cs hj e => by
      obtain ⟨gcs, hg⟩ := hgobj
      rcases e with rfl | rfl | rfl | rfl
      · rw [hob] at hj; simp at hj
      · rw [hob] at hj; simp at hj
      · rw [hbobj] at hj; simp at hj
      · rw [hg] at hj; simp at hj)
  · have h1r : ∀ r ∈ r4 L vs, r.2.2.2.oneCell' = true := fun r hr => by
      simp only [r4, List.mem_mapIdx] at hr
      obtain ⟨j, hj, rfl⟩ := hr
      exact hone j
    have hbA := (hoA.lt gA rfl).1
    have hbL := (hoL.lt gL rfl).1
    obtain ⟨acs, hAo⟩ := own_obj hoA
    have hty : ∀ j cs, w.heap[j]? = some (.cells cs 150 (0, 0)) → ¬ (j = wb ∨ j = gA ∨ (j = b ∨ j = g)) := fun j cs hj e => by
      obtain ⟨gcs, hg⟩ := hgobj
      rcases e with rfl | rfl | rfl | rfl
      · rw [hob] at hj; simp at hj
      · rw [hAo] at hj; simp at hj
      · rw [hbobj] at hj; simp at hj
      · rw [hg] at hj; simp at hj
    have hnone : ∀ (q : Int) (cs : List UInt8) (e : Ending) (w' : World), OSt cs 5 16384 32768 x k A L l T → MadeNone wb p g b 16 16384 x cs 8 (.slice (some ⟨gA, 0, none⟩) k cA) (.slice (some ⟨gL, 0, none⟩) k cL) w e w' → OWn wb B p g b k L l T q w e w' := fun q cs e w' ho ⟨m1, m2, m3, m4⟩ =>
      ⟨m1, .inr ⟨A, cs, x, hk0, vs, _, _, m2, m3, ho, hone, fun j hj => (hown j hj).fr m4 (fun i c hi e => hty i c hi (.inr (.inr e))), .inr ⟨hk0, gA, cA, gL, cL, rfl, rfl, hne, m4.owns hoA (fun i hi e => by have := own_blk hi; omega), m4.owns hoL (fun i hi e => by have := own_blk hi; omega)⟩⟩, m4.mono fun j _ e => .inr (e.imp id fun e => .inl e)⟩
    by_cases hlt : par < k
    · obtain ⟨q, rfl⟩ : ∃ q : Nat, par = q := ⟨par.toNat, by omega⟩
      have hq : q < k := by omega
      rw [if_pos hlt]
      have hpp : ppl A (q : Int) = ((A q : Nat) : Int) := by unfold ppl; rw [if_neg (by omega), Int.toNat_natCast]
      have hql : q < L.length := by omega
      have hpl := hcst.pl q hq
      have hxb := hcst.xb
      by_cases hroom : x + 56 + 24 * 5 ≤ 16384
      · obtain ⟨bs1, hc, hst1⟩ := hst.new (by omega) (by omega) hroom (p := q) (by omega) (hI _ (by omega))
        rw [hpp] at hc
        have hsl := hcst.slots q _ (List.getElem?_eq_getElem hql)
        have hss : sizeOfP L (q : Int) = L[q].size := by
          unfold sizeOfP
          rw [if_neg (by omega), Int.toNat_natCast]
          simp [List.getD_eq_getElem?_getD, List.getElem?_eq_getElem hql]
        refine (wmake_of (5 : Nat) L[q].par L[q].size L[q].slots _ (vs q) q wb p g b 16384 x (x + 56 + 24 * 5) B gA gL cA cL k bs bs1 8 _ (ats A k) (r4 L vs) w hob hoA hoL hne h1r (by omega) hk0 hs hx8 hd.1 hd.2.1 (r4_get L vs q hql) (ats_get A k q hq) (by omega) hc (by rw [hst1.cst.isIn]; exact decide_eq_true ⟨k, by omega, by simp⟩) (by omega)).mono fun e w' hm => ?_
        rw [hsl, ← hss] at hm
        exact ow_of hLk hm hst1 (ats_snoc A k _) (.inr ⟨hbA, acs, hAo⟩) hone hown hty
      · obtain ⟨bs1, hc, hst1⟩ := hst.newFull (by omega) (by omega) hroom (p := q) (by omega)
        rw [hpp] at hc
        have c0 : w.cell? ⟨gA, q, none⟩ = some (.int .i64 ((A q : Nat) : Int)) := by
          have := owns_holds hoA ⟨gA, 0, none⟩ rfl q (.int .i64 ((A q : Nat) : Int)) (by simp [ats_get A k q hq])
          rwa [addr_add'] at this
        exact (wmake_full_of (5 : Nat) ((A q : Nat) : Int) q wb p g b 16384 x k cA gA _ bs bs1 8 w hob hs hx8 hd.1 hq (by omega) c0 (by omega) hc).mono fun e w' hm => hnone _ bs1 e w' hst1 hm
    · rw [if_neg hlt]
      by_cases hroom : x + 56 + 24 * 5 ≤ 16384
      · obtain ⟨bs1, hc, hst1⟩ := hst.new (by omega) (by omega) hroom (p := -1) (by omega) (hI _ (by omega))
        rw [show ppl A (-1) = 0 from rfl] at hc
        refine (wmake_no (5 : Nat) par wb p g b 16384 x (x + 56 + 24 * 5) B gA gL cA cL k bs bs1 8 _ (ats A k) (r4 L vs) w hob hoA hoL hne h1r (by omega) hk0 hs hx8 hd.1 hd.2.1 (by omega) hc (by rw [hst1.cst.isIn]; exact decide_eq_true ⟨k, by omega, by simp⟩) (by omega)).mono fun e w' hm => ?_
        exact ow_of hLk hm hst1 (ats_snoc A k _) (.inr ⟨hbA, acs, hAo⟩) hone hown hty
      · obtain ⟨bs1, hc, hst1⟩ := hst.newFull (by omega) (by omega) hroom (p := -1) (by omega)
        rw [show ppl A (-1) = 0 from rfl] at hc
        exact (wmake_full_no (5 : Nat) par wb p g b 16384 x k cA (some ⟨gA, 0, none⟩) _ bs bs1 8 w hob hs hx8 hd.1 (by omega) hc).mono fun e w' hm => hnone _ bs1 e w' hst1 hm
end Go.Proofs.Ytajeiccfgnpbpaa.Mem

/- Maps from int64 to bool that the call has made, as functions: made, looked up, stored into, deleted from. -/
namespace Go.Proofs.Ytajeiccfgnpbpaa.Mem
open Go.RowKit Go.Maps

/-- A map of bools reads as a function. -/
def BMap (w : World) (mb nn : Nat) (U : Int → Bool) : Prop :=
  ∃ D : DataW Unit, w.ownsMap Try.prog 2 (plainElem Try.prog 4) mb nn D ∧ Maps.IsMap D ∧ ∀ y : Int, D.atKey (.int .i64 y) (.lit (.bool false)) = .lit (.bool (U y))

theorem BMap.made (w : World) : BMap (w.alloc (.map #[] 0)) w.heap.size 0 (fun _ => false) :=
  ⟨.map [], World.ownsMap_made w _ _ _, Maps.isMap_empty, fun _ => rfl⟩
theorem BMap.lt {w : World} {mb nn : Nat} {U : Int → Bool} (h : BMap w mb nn U) : mb < w.heap.size := by
  obtain ⟨D, h, _⟩ := h
  exact h.lt
theorem BMap.obj {w : World} {mb nn : Nat} {U : Int → Bool} (h : BMap w mb nn U) : ∃ es ck, w.heap[mb]? = some (.map es ck) := by
  obtain ⟨D, ⟨es, ck, h, _⟩, _⟩ := h
  exact ⟨es, ck, h⟩
theorem BMap.fr {S : Nat → Prop} {w w' : World} {mb nn : Nat} {U : Int → Bool} (h : BMap w mb nn U) (f : Fr S w w') (hs : ¬ S mb) : BMap w' mb nn U := by
  obtain ⟨D, ⟨es, ck, hb, h2, h3, h4⟩, h5, h6⟩ := h
  exact ⟨D, ⟨es, ck, f.obj hb hs, h2, h3, h4⟩, h5, h6⟩
theorem BMap.congr {w : World} {mb nn : Nat} {U V : Int → Bool} (h : BMap w mb nn U) (e : ∀ y, U y = V y) : BMap w mb nn V := by
  rwa [show V = U from funext fun y => (e y).symm]
theorem fr_turned {w w' : World} {mb : Nat} (h : w.mapTurned w' mb) : Fr (fun j => j = mb) w w' := by
  have g := h.grown
  exact Fr.grown (Fr.refl _ _) g (fun k hk => .inr (Option.some.inj hk).symm)

theorem plainBool_inv' {P : Program} {t : TypeId} (ht : P.underlying t = some .bool) {v : Value} {b : Bool} {ps : List MemPlace} (h : plainElem (H := Unit) P t v = some (.lit (.bool b), ps)) : v = .bool b := by
  unfold plainElem at h
  rw [ht] at h
  cases v <;> simp at h
  rw [h.1]
theorem plainBool_inv {v : Value} {b : Bool} {ps : List MemPlace} (h : plainElem (H := Unit) Try.prog 4 v = some (.lit (.bool b), ps)) : v = .bool b := plainBool_inv' Try.underlying4 h

section
variable (w : World) {ops : Array Oper} {rest : List Oper} {o : Oper} {a : Act} {Q : Exit → Act → World → Prop}

set_option maxRecDepth 100000 in
theorem wpList_lookup_bmap (hg : o.guard = none) (m x : Operand) (hop : o.op = Op.lookup 85 m x false) (mb nn : Nat) (U : Int → Bool) (hm : a.eval m = .map (some mb)) (hown : BMap w mb nn U) (y : Int) (hx : a.eval x = .int .i64 y) (hy : (Lit.int .i64 y).wf = true)
    (hK : wpList Try.prog ops Q rest (a.put o.dst (.bool (U y))) w) :
    wpList Try.prog ops Q (o :: rest) a w := by
  refine wpList_plain hg fun K' hK' => ?_
  obtain ⟨D, hD, _, hU⟩ := hown
  obtain ⟨v, ps, hrun, hv⟩ := hD.lookup lawKey Try.underlying85 (z := .bool false) (by kernel_rfl) (plainElem_bool Try.underlying4 false) (keyOf_int_mk Try.underlying2 hy)
  rw [hU] at hv
  obtain rfl := plainBool_inv hv
  unfold Oper.wp
  simp [execOp, hop, hm, hx, hrun, Result.andThen]
  exact hK' _ _ hK

theorem wpList_update_bmap (hg : o.guard = none) (m x v : Operand) (hop : o.op = Op.mapUpdate 85 m x v) (mb nn : Nat) (U : Int → Bool) (hm : a.eval m = .map (some mb)) (hown : BMap w mb nn U) (hn : nn < maxLen) (y : Int) (hx : a.eval x = .int .i64 y) (hy : (Lit.int .i64 y).wf = true) (u : Bool) (hv : a.eval v = .bool u)
    (hK : ∀ w', BMap w' mb (nn + 1) (fun z => if z = y then u else U z) → Fr (fun j => j = mb) w w' → wpList Try.prog ops Q rest (a.put o.dst undef) w') :
    wpList Try.prog ops Q (o :: rest) a w := by
  obtain ⟨D, hD, hi, hU⟩ := hown
  refine wpList_mapUpdate_in (H := Unit) w hg m x v _ hop _ _ lawKey Try.underlying85 (plainElem Try.prog 4) mb nn D hm hD hn _ _ _ hx hv (keyOf_int_mk Try.underlying2 hy) (.lit (.bool u)) [] (plainElem_bool Try.underlying4 u) fun w' h1 h2 => hK w' ⟨_, h1, hi.put _ _, fun z => ?_⟩ (fr_turned h2)
  dsimp only
  by_cases hz : z = y
  · subst hz
    rw [if_pos rfl, Maps.atKey_put_same hi (by simp [WideAt.IsKeyLit])]
  · rw [if_neg hz, Maps.atKey_put_other (by simp [hz]), hU]

theorem wpList_delete_bmap (hg : o.guard = none) (m x : Operand) (hop : o.op = Op.call { callee := Callee.builtin Builtin.delete, args := #[m, x], argTypes := #[85, 2] }) (mb nn : Nat) (U : Int → Bool) (hm : a.eval m = .map (some mb)) (hown : BMap w mb nn U) (y : Int) (hx : a.eval x = .int .i64 y) (hy : (Lit.int .i64 y).wf = true)
    (hK : ∀ w', BMap w' mb nn (fun z => if z = y then false else U z) → Fr (fun j => j = mb) w w' → wpList Try.prog ops Q rest (a.put o.dst (.tuple #[])) w') :
    wpList Try.prog ops Q (o :: rest) a w := by
  obtain ⟨D, hD, hi, hU⟩ := hown
  refine wpList_delete_own (H := Unit) w hg m x _ _ hop _ lawKey Try.underlying85 (plainElem Try.prog 4) mb nn D hm hD _ _ hx (keyOf_int_mk Try.underlying2 hy) fun w' h1 h2 => hK w' ⟨_, h1, hi.del _, fun z => ?_⟩ (fr_turned h2)
  dsimp only
  by_cases hz : z = y
  · subst hz
    rw [if_pos rfl, Maps.atKey_del_same]
  · rw [if_neg hz, Maps.atKey_del_other (by simp [hz]), hU]
end
end Go.Proofs.Ytajeiccfgnpbpaa.Mem
