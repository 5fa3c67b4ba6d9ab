/- The statement IfaceKeeps: plain facts on cells that are laid one behind the other. No program's walk. -/
import Derived.Test.YtajeiccfgnpbpaaIfcC
namespace Go.Proofs.Ytajeiccfgnpbpaa.Mem
open Go.RowKit

def InI64 (n : Int) : Prop := -9223372036854775808 ≤ n ∧ n ≤ 9223372036854775807

theorem layl_spec (z : Nat) : ∀ (l : List Int) (x : Nat) (bs : List UInt8), z ≤ bs.length → x ≤ z → (∀ n ∈ l, InI64 n) →
    (layl z l x bs).2.1.length = bs.length ∧ (∀ b, b + 8 ≤ x → cellv (layl z l x bs).2.1 b = cellv bs b) ∧ ((layl z l x bs).2.2 = true ↔ x + 8 * l.length ≤ z) ∧
      (x + 8 * l.length ≤ z → (layl z l x bs).1 = x + 8 * l.length ∧ ∀ i (h : i < l.length), cellv (layl z l x bs).2.1 (x + 8 * i) = l[i])
  | [], x, bs, hz, hx, hb => by simp [layl, hx]
  | n :: l, x, bs, hz, hx, hb => by
    rw [layl]
    by_cases h8 : x + 8 ≤ z
    · rw [if_pos h8]
      obtain ⟨h1, h2, h3, h4⟩ := layl_spec z l (x + 8) (setv bs x n) (by rw [setv_length]; exact hz) h8 (fun m hm => hb m (List.mem_cons_of_mem _ hm))
      refine ⟨by rw [h1, setv_length], fun b hbx => ?_, ?_, fun hfit => ?_⟩
      · rw [h2 b (by omega), cellv_other _ _ _ _ (.inl hbx)]
      · rw [h3, List.length_cons]
        omega
      · rw [List.length_cons] at hfit
        obtain ⟨k1, k2⟩ := h4 (by omega)
        refine ⟨by rw [k1, List.length_cons]; omega, fun i hi => ?_⟩
        cases i with
        | zero =>
          have hn := hb n (List.mem_cons_self ..)
          have h0 := h2 x (by omega)
          rw [cellv_same _ _ _ (by omega) hn] at h0
          simpa using h0
        | succ i =>
          rw [show x + 8 * (i + 1) = x + 8 + 8 * i by omega, k2 i (by simpa using hi)]
          rfl
    · rw [if_neg h8]
      refine ⟨rfl, fun _ _ => rfl, ?_, fun hfit => ?_⟩
      · simp only [List.length_cons]
        constructor
        · intro h; cases h
        · intro h; omega
      · rw [List.length_cons] at hfit
        omega

theorem inewv_fit (z x : Nat) (bs : List UInt8) (l : List Int) (hz : z ≤ bs.length) (hb : ∀ n ∈ l, InI64 n) (hl : l.length ≤ 1048576) (hfit : x + 8 * (l.length + 1) ≤ z) :
    ∃ bs', inewv z x bs l = (((x : Int), 0), x + 8 * (l.length + 1), bs') ∧ bs'.length = bs.length ∧ (∀ b, b + 8 ≤ x → cellv bs' b = cellv bs b) ∧ cellv bs' x = (l.length : Nat) ∧ ∀ i (h : i < l.length), cellv bs' (x + 8 * (i + 1)) = l[i] := by
  have hb' : ∀ n ∈ ((l.length : Int) :: l), InI64 n := fun n hn => by
    rcases List.mem_cons.1 hn with rfl | hn
    · unfold InI64; omega
    · exact hb n hn
  obtain ⟨h1, h2, h3, h4⟩ := layl_spec z ((l.length : Int) :: l) x bs hz (by omega) hb'
  rw [List.length_cons] at h3
  obtain ⟨k1, k2⟩ := h4 (by rw [List.length_cons]; omega)
  rw [List.length_cons] at k1
  have hok := h3.2 (by omega)
  unfold inewv ilayv
  rw [if_pos hok]
  dsimp only
  rw [if_pos rfl]
  obtain ⟨⟨y, cs, ok⟩, hr⟩ : ∃ r, layl z ((l.length : Int) :: l) x bs = r := ⟨_, rfl⟩
  rw [hr] at h1 h2 k1 k2 ⊢
  dsimp only at h1 h2 k1 k2 ⊢
  refine ⟨cs, by rw [k1], h1, h2, ?_, fun i hi => ?_⟩
  · have := k2 0 (by simp)
    simpa using this
  · have := k2 (i + 1) (by simp; exact hi)
    simpa using this

theorem inewv_full (z x : Nat) (bs : List UInt8) (l : List Int) (hz : z ≤ bs.length) (hx : x ≤ z) (hb : ∀ n ∈ l, InI64 n) (hl : l.length ≤ 1048576) (hfit : ¬ x + 8 * (l.length + 1) ≤ z) :
    ∃ bs', inewv z x bs l = ((0, -8), x, bs') ∧ bs'.length = bs.length ∧ (∀ b, b + 8 ≤ x → cellv bs' b = cellv bs b) := by
  have hb' : ∀ n ∈ ((l.length : Int) :: l), InI64 n := fun n hn => by
    rcases List.mem_cons.1 hn with rfl | hn
    · unfold InI64; omega
    · exact hb n hn
  obtain ⟨h1, h2, h3, h4⟩ := layl_spec z ((l.length : Int) :: l) x bs hz hx hb'
  rw [List.length_cons] at h3
  have hok : ¬ (layl z ((l.length : Int) :: l) x bs).2.2 = true := fun h => hfit (by have := h3.1 h; omega)
  unfold inewv ilayv
  rw [if_neg hok]
  dsimp only
  rw [if_neg (by omega)]
  exact ⟨_, rfl, h1, h2⟩

/-- What has been laid: places, slices, selectors. -/
def Laid (bs : List UInt8) (x : Nat) (K : List (Nat × Value × List Int)) : Prop :=
  ∀ r ∈ K, r.1 % 8 = 0 ∧ r.1 + 8 * (r.2.2.length + 1) ≤ x ∧ cellv bs r.1 = (r.2.2.length : Nat) ∧ ∀ i (h : i < r.2.2.length), cellv bs (r.1 + 8 * (i + 1)) = r.2.2[i]

theorem Laid.keep {bs cs : List UInt8} {x y : Nat} {K : List (Nat × Value × List Int)} (h : Laid bs x K) (hxy : x ≤ y) (hc : ∀ b, b + 8 ≤ x → cellv cs b = cellv bs b) : Laid cs y K := fun r hr => by
  obtain ⟨h1, h2, h3, h4⟩ := h r hr
  exact ⟨h1, by omega, by rw [hc _ (by omega), h3], fun i hi => by rw [hc _ (by omega), h4 i hi]⟩
theorem Laid.snoc {bs : List UInt8} {x q : Nat} {v : Value} {l : List Int} {K : List (Nat × Value × List Int)} (h : Laid bs x K) (h8 : q % 8 = 0) (hq : q + 8 * (l.length + 1) ≤ x) (hn : cellv bs q = (l.length : Nat)) (hl : ∀ i (h : i < l.length), cellv bs (q + 8 * (i + 1)) = l[i]) :
    Laid bs x (K ++ [(q, v, l)]) := fun r hr => by
  rcases List.mem_append.1 hr with hr | hr
  · exact h r hr
  · obtain rfl : r = (q, v, l) := by simpa using hr
    exact ⟨h8, hq, hn, hl⟩

theorem Laid.get {bs : List UInt8} {x z : Nat} {K : List (Nat × Value × List Int)} (h : Laid bs x K) (hx : x ≤ z) (hz : bs.length = z) (hz4 : z ≤ 4096) {q : Nat} {v : Value} {l : List Int} (hm : (q, v, l) ∈ K) :
    q % 8 = 0 ∧ q + 8 * (l.length + 1) ≤ bs.length ∧ cellv bs q = (l.length : Nat) ∧ l.length ≤ 1024 ∧ (∀ i (h : i < l.length), cellv bs (q + 8 * (i + 1)) = l[i]) := by
  obtain ⟨h1, h2, h3, h4⟩ := h _ hm
  dsimp only at h1 h2 h3 h4
  exact ⟨h1, by omega, h3, by omega, h4⟩

theorem row_ints {W : World} {S : Nat → Prop} {b q : Nat} {t : TypeId} {bs : List UInt8} {l : List Int} (h : W.rowIs b t l.length (fun j => .int .i64 (cellv bs (q + 8 * (j + 1))))) (hb : ∀ n ∈ l, InI64 n) (hs : ¬ S b) (hl : ∀ i (h : i < l.length), cellv bs (q + 8 * (i + 1)) = l[i]) :
    Ints W S (.slice (some ⟨b, 0, none⟩) l.length l.length) l :=
  Ints.of_row (h.congr fun i hi => by rw [hl i hi]; simp [List.getD_eq_getElem?_getD, List.getElem?_eq_getElem hi]) hb hs

theorem owns_some {W : World} {B : Nat} {e : TypeId} {o : Option Addr} {m c : Nat} {xs : List Value} (h : W.ownsRow B e 1 (.slice o m c) m xs) (h0 : 0 < m) : ∃ g, o = some ⟨g, 0, none⟩ := by
  obtain ⟨o', c', hv, _, _, hn, hb⟩ := owns_form h
  cases hv
  cases o with
  | none => have := hn rfl; omega
  | some bb =>
    obtain ⟨e1, e2, _, _⟩ := hb bb rfl
    obtain ⟨b0, f0, p0⟩ := bb
    dsimp only at e1 e2
    subst e1; subst e2
    exact ⟨b0, rfl⟩

theorem cell_three (bs : List UInt8) : (cell bs 3).2 ≠ 0 := fun h => by
  have := cell_code h
  omega
theorem cell_end {bs : List UInt8} {z : Nat} (hz : bs.length = z) : (cell bs (z : Int)).2 ≠ 0 := fun h => by
  have := cell_code h
  omega

/-- How many cells so many slices want. -/
def tot (L : Nat → List Int) : Nat → Nat
  | 0 => 0
  | k + 1 => tot L k + (1 + (L k).length)
theorem tot_le (L : Nat → List Int) {j n : Nat} (h : j ≤ n) : tot L j ≤ tot L n := by
  induction n with
  | zero => obtain rfl : j = 0 := by omega
            exact Nat.le_refl _
  | succ n ih =>
    rcases Nat.lt_or_eq_of_le h with h | rfl
    · have := ih (by omega)
      rw [tot]
      omega
    · exact Nat.le_refl _
theorem tot_len (L : Nat → List Int) {j n : Nat} (h : j < n) : (L j).length < tot L n := by
  have := tot_le L (j := j + 1) (n := n) h
  rw [tot] at this
  omega
theorem tot_ge (L : Nat → List Int) (n : Nat) : n ≤ tot L n := by
  induction n with
  | zero => exact Nat.zero_le _
  | succ n ih => rw [tot]; omega

/-- A slice of slices of numbers. -/
def IsRows (W : World) (a : Option Addr) (n : Nat) (V : Nat → Value) (L : Nat → List Int) : Prop :=
  n = 0 ∨ ∃ bb off, a = some ⟨bb, off, none⟩ ∧ bb < W.heap.size ∧ ∀ j, j < n → W.cell? ⟨bb, off + j, none⟩ = some (V j) ∧ Ints W (fun k => W.heap.size ≤ k) (V j) (L j)

theorem Ints.mono {W : World} {S T : Nat → Prop} {v : Value} {l : List Int} (h : Ints W S v l) (hs : ∀ k, T k → S k) : Ints W T v l := by
  obtain ⟨o, c, hv, hb, hc⟩ := h
  exact ⟨o, c, hv, hb, hc.imp id fun ⟨bb, off, ho, hlt, hn, hcell⟩ => ⟨bb, off, ho, hlt, fun t => hn (hs bb t), hcell⟩⟩

/-- The two lists that the statement keeps. -/
structure Two (W : World) (B : Nat) (vA vK : Value) (K : List (Nat × Value × List Int)) : Prop where
  at_ : W.ownsRow B 2 1 vA K.length (K.map fun r => .int .i64 (r.1 : Int))
  kept : W.ownsRow B 36 1 vK K.length (K.map fun r => r.2.1)
  ne : ∀ k, vA.ownBlock = some k → vK.ownBlock ≠ some k
theorem Two.fr {S : Nat → Prop} {W W' : World} {B : Nat} {vA vK : Value} {K : List (Nat × Value × List Int)} (h : Two W B vA vK K) (f : Fr S W W') (hs : ∀ k, B ≤ k → ¬ S k) : Two W' B vA vK K :=
  ⟨f.owns h.at_ (fun k hk => hs k (h.at_.lt k hk).1), f.owns h.kept (fun k hk => hs k (h.kept.lt k hk).1), h.ne⟩
end Go.Proofs.Ytajeiccfgnpbpaa.Mem
