/- The statement ClassIs: a world with k classes, and one more. -/
import Derived.Test.YtajeiccfgnpbpaaClsN
import Derived.Test.YtajeiccfgnpbpaaClsO
import Derived.Test.YtajeiccfgnpbpaaCisA
import Derived.Test.YtajeiccfgnpbpaaCisP
namespace Go.Proofs.Ytajeiccfgnpbpaa.Mem
open Go.RowKit

/-- A world with k classes of three slots. -/
def LWi (wb p g b k : Nat) (wr : World) : Prop :=
  ∃ (bs : List UInt8) (L : List Row4) (vA vL : Value), wr.heap[wb]? = some (.cells #[.pointer (some ⟨p, 0, none⟩), .pointer (some ⟨b, 0, none⟩), .int .i64 8, vA, vL] 56 (0, 0)) ∧ Sat wr b p g 8 65536 (16 + 128 * k) bs ∧ CW k bs ∧ L.length = k ∧ (∀ r ∈ L, r.2.2.2 = .slice none 0 0) ∧
    ((k = 0 ∧ vA = .slice none 0 0 ∧ vL = .slice none 0 0) ∨
     (0 < k ∧ ∃ gA cA gL cL : Nat, vA = .slice (some ⟨gA, 0, none⟩) k cA ∧ vL = .slice (some ⟨gL, 0, none⟩) k cL ∧ gA ≠ gL ∧ wr.ownsRow (wb + 1) 2 1 (.slice (some ⟨gA, 0, none⟩) k cA) k ((atc k).map (.int .i64)) ∧ wr.ownsRow (wb + 1) 90 4 (.slice (some ⟨gL, 0, none⟩) k cL) k (rows4 L)))

theorem lwi_of {wb p g b k gA : Nat} {bs1 : List UInt8} {c : Int} {ats : List Int} {L' : List Row4} {w w' : World} {e : Ending} (h : MadeMore wb p g b 65536 (16 + 128 * (k + 1)) (wb + 1) gA k bs1 8 c ats L' w e w')
    (hcw : CW (k + 1) bs1) (hats : ats ++ [c] = atc (k + 1)) (hL : L'.length = k + 1) (hn : ∀ r ∈ L', r.2.2.2 = .slice none 0 0) (hgA : gA = wb ∨ wb + 1 ≤ gA) :
    e = .returned (.bool true) ∧ LWi wb p g b (k + 1) w' ∧ Fr (fun j => wb ≤ j ∨ j = b ∨ j = g) w w' := by
  obtain ⟨he, ⟨gA', cA', gL', cL', hob, hne, hoA, hoL⟩, hs, hf⟩ := h
  rw [hats] at hoA
  refine ⟨he, ⟨bs1, L', _, _, hob, hs, hcw, hL, hn, .inr ⟨by omega, gA', cA', gL', cL', rfl, rfl, hne, hoA, hoL⟩⟩, Fr.some hf fun j e => ?_⟩
  omega

theorem make_step {wb p g b k : Nat} (par : Int) (w : World) (h : LWi wb p g b k w) (hk : k ≤ 40) (hp : 0 ≤ par) (hd : b < wb ∧ p < wb ∧ g < wb) :
    Calls Try.prog 26 #[.pointer (some ⟨wb, 0, none⟩), .int .i64 par, .int .i64 3] w fun e w' => e = .returned (.bool true) ∧ LWi wb p g b (k + 1) w' ∧ Fr (fun j => wb ≤ j ∨ j = b ∨ j = g) w w' := by
  obtain ⟨bs, L, vA, vL, hob, hs, hcw, hL, hn, hv⟩ := h
  have hwl := lt_of_block hob
  rcases hv with ⟨rfl, rfl, rfl⟩ | ⟨hk0, gA, cA, gL, cL, rfl, rfl, hne, hoA, hoL⟩
  · obtain ⟨bs1, hc, hcw1⟩ := hcw.step (by omega) 0 (.inl rfl)
    refine (wmake_zero 3 par wb p g b 65536 (16 + 128 * 0) (16 + 128 * (0 + 1)) (wb + 1) bs bs1 8 _ w hob (by omega) hs (by omega) (by omega) (by omega) hp hc (by rw [hcw1.isIn (by omega)]; decide) (by omega)).mono fun e w' hm => ?_
    exact lwi_of hm hcw1 rfl rfl (by simp) (.inl rfl)
  · have h1 : ∀ r ∈ L, r.2.2.2.oneCell' = true := fun r hr => by rw [hn r hr]; rfl
    have hbA := (hoA.lt gA rfl).1
    by_cases hlt : par < k
    · obtain ⟨q, rfl⟩ : ∃ q : Nat, par = q := ⟨par.toNat, by omega⟩
      have hq : q < k := by omega
      obtain ⟨bs1, hc, hcw1⟩ := hcw.step (by omega) ((104 + 128 * q : Nat) : Int) (.inr ⟨q, hq, rfl⟩)
      obtain ⟨⟨kp, sz, sl, ov⟩, hr⟩ : ∃ r, L[q]? = some r := ⟨L[q]'(by omega), by simp⟩
      refine (wmake_of 3 kp sz sl _ ov q wb p g b 65536 (16 + 128 * k) (16 + 128 * (k + 1)) (wb + 1) gA gL cA cL k bs bs1 8 _ (atc k) L w hob hoA hoL hne h1 (by omega) hk0 hs (by omega) (by omega) (by omega) hr (atc_get k q hq) (by omega) hc (by rw [hcw1.isIn (by omega), atc_succ]; simp) (by omega)).mono fun e w' hm => ?_
      exact lwi_of hm hcw1 (atc_succ k).symm (by simp [hL]) (fun r hr => by rcases List.mem_append.1 hr with hr | hr; exact hn r hr; simp at hr; rw [hr]) (.inr hbA)
    · obtain ⟨bs1, hc, hcw1⟩ := hcw.step (by omega) 0 (.inl rfl)
      refine (wmake_no 3 par wb p g b 65536 (16 + 128 * k) (16 + 128 * (k + 1)) (wb + 1) gA gL cA cL k bs bs1 8 _ (atc k) L w hob hoA hoL hne h1 (by omega) hk0 hs (by omega) (by omega) (by omega) (by omega) hc (by rw [hcw1.isIn (by omega), atc_succ]; simp) (by omega)).mono fun e w' hm => ?_
      exact lwi_of hm hcw1 (atc_succ k).symm (by simp [hL]) (fun r hr => by rcases List.mem_append.1 hr with hr | hr; exact hn r hr; simp at hr; rw [hr]) (.inr hbA)
end Go.Proofs.Ytajeiccfgnpbpaa.Mem
