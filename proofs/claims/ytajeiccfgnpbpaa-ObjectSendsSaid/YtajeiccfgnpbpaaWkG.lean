/- Plain mathematics: a memory that holds the document's classes. No program's walk. -/
import Derived.Test.YtajeiccfgnpbpaaWkC
import Derived.Test.YtajeiccfgnpbpaaQg
import Derived.Test.YtajeiccfgnpbpaaCsA
import Derived.Test.YtajeiccfgnpbpaaRwC
set_option linter.unusedSimpArgs false
set_option linter.unusedVariables false

namespace Go.Proofs.Ytajeiccfgnpbpaa.Mem
open Go.RowKit

theorem layz_zero (z : Nat) : ∀ m x bs, z ≤ bs.length → x + 8 * m ≤ z → ∀ i, i < m → cellv (layz z m x bs).2.1 (x + 8 * i) = 0
  | 0, _, _, _, _, i, hi => by omega
  | m + 1, x, bs, hz, h, i, hi => by
    rw [layz, if_pos (by omega)]
    cases i with
    | zero =>
      obtain ⟨_, _, _, h4⟩ := layz_room z m (x + 8) (setv bs x 0) (by omega)
      have h0 := h4 x (by omega)
      rw [cellv_same _ _ _ (by omega) (by omega)] at h0
      simpa using h0
    | succ i =>
      have := layz_zero z m (x + 8) (setv bs x 0) (by rw [setv_length]; exact hz) (by omega) i (by omega)
      rw [show x + 8 * (i + 1) = x + 8 + 8 * i by omega, this]

theorem newS_room (S z x : Nat) (bs : List UInt8) (h1 : 1 ≤ S) (h2 : S ≤ 1024) (h : x + 16 + 24 * S ≤ z) (hl : z ≤ bs.length) :
    ∃ cs, newv z x bs (S : Nat) = (((x : Int), 0), x + 16 + 24 * S, cs) ∧ cs.length = bs.length ∧ (∀ b, b + 8 ≤ x → cellv cs b = cellv bs b) ∧ cellv cs x = (S : Nat) ∧ ∀ i, i < 3 * S → cellv cs (x + 16 + 8 * i) = 0 := by
  obtain ⟨k1, k2, k3, k4⟩ := layz_room z (1 + 3 * S) (x + 8) (setv bs x S) (by omega)
  have k5 := layz_zero z (1 + 3 * S) (x + 8) (setv bs x S) (by rw [setv_length]; exact hl) (by omega)
  have e : layt z x bs S = layz z (1 + 3 * S) (x + 8) (setv bs x S) := by unfold layt; rw [if_pos (by omega)]
  refine ⟨(layz z (1 + 3 * S) (x + 8) (setv bs x S)).2.1, ?_, by rw [k3, setv_length], fun b hb => by rw [k4 b (by omega), cellv_other _ _ _ _ (.inl hb)], by rw [k4 x (by omega), cellv_same _ _ _ (by omega) (by omega)], fun i hi => by
    have := k5 (1 + i) (by omega)
    rwa [show x + 8 + 8 * (1 + i) = x + 16 + 8 * i by omega] at this⟩
  unfold newv
  rw [if_pos ⟨by omega, by omega⟩, Int.toNat_natCast, e, if_pos k2, k1, show x + 8 + 8 * (1 + 3 * S) = x + 16 + 24 * S by omega]

theorem cellv_put_in (bs T : List UInt8) (a t n j : Nat) (hT : T = text bs t n) (ht : t + n ≤ bs.length) (hl : a ≤ bs.length) (hj : j + 8 ≤ n) : cellv (put bs a T) (a + j) = cellv bs (t + j) := by
  unfold cellv
  have hTl : T.length = n := by rw [hT]; exact text_length _ _ _ ht
  rw [rd_congr (bs := put bs a T) (cs := bs) (b := t + j) 8 (fun i hi => ?_)]
  have := text_get bs t n (j + i) (by omega)
  rw [show t + j + i = t + (j + i) by omega, ← this, ← hT, show a + j + i = a + (j + i) by omega]
  simp only [put, List.getD_eq_getElem?_getD]
  rw [List.getElem?_append_left (by simp; omega), List.getElem?_append_right (by simp; omega)]
  simp [Nat.min_eq_left hl]

theorem copyS_room (S z x t : Nat) (bs : List UInt8) (h1 : 1 ≤ S) (h2 : S ≤ 1024) (h : x + 16 + 24 * S ≤ z) (hl : z ≤ bs.length) (ht : t + 16 + 24 * S ≤ x) (hs : slots bs t = (S : Nat)) :
    ∃ cs, copyv z x bs t = (((x : Int), 0), x + 16 + 24 * S, cs) ∧ cs.length = bs.length ∧ (∀ b, b + 8 ≤ x → cellv cs b = cellv bs b) ∧ ∀ j, j + 8 ≤ 16 + 24 * S → cellv cs (x + j) = cellv bs (t + j) := by
  obtain ⟨cs, hn, hcl, hco, hcx, _⟩ := newS_room S z x bs h1 h2 h hl
  have htx : (txt cs t (16 + (S : Nat) * 24)).1 = text cs t (16 + 24 * S) := by
    unfold txt
    rw [if_pos (by simp [has]; omega), show ((16 : Int) + ((S : Nat) : Int) * 24).toNat = 16 + 24 * S by omega, Int.toNat_natCast]
  have hse : sett cs (x : Int) (text cs t (16 + 24 * S)) = put cs x (text cs t (16 + 24 * S)) := by
    unfold sett
    rw [if_pos (by simp [has, text_length cs t (16 + 24 * S) (by omega)]; omega)]
    rfl
  unfold copyv
  rw [hs, hn, if_pos rfl]
  dsimp only
  rw [htx, hse]
  refine ⟨_, rfl, ?_, fun b hb => ?_, fun j hj => ?_⟩
  · rw [put_length _ _ _ (by rw [text_length _ _ _ (by omega)]; omega), hcl]
  · rw [cellv_put_other _ _ _ _ hb (by omega), hco b hb]
  · rw [cellv_put_in cs _ x t (16 + 24 * S) j rfl (by omega) (by omega) hj, hco (t + j) (by omega)]

/-- The last of k places; 0: there is none. -/
def lastp (A : Nat → Nat) : Nat → Nat
  | 0 => 0
  | k + 1 => A k
def ppl (A : Nat → Nat) (p : Int) : Int := if p < 0 then 0 else ((A p.toNat : Nat) : Int)
/-- What a table tells of a selector: the method, its class's place. -/
def wpl (A : Nat → Nat) : Option (Int × Nat) → Int × Int
  | some (x, k) => (x, ((A k : Nat) : Int))
  | none => (0, 0)

/-- k classes of S slots each, at the places A, that are the document's classes L; allocated up to x. -/
structure CSt (bs : List UInt8) (S x k : Nat) (A : Nat → Nat) (L : List RC) : Prop where
  klen : L.length = k
  xb : x ≤ bs.length
  big : bs.length ≤ 1048576
  low : 16 ≤ x
  root : cellv bs 8 = (lastp A k : Nat)
  pl : ∀ i, i < k → 32 + 24 * S ≤ A i ∧ A i % 8 = 0 ∧ A i + 40 ≤ x
  inc : ∀ i j, i < j → j < k → A i + 56 + 24 * S ≤ A j
  mag : ∀ i, i < k → cellv bs (A i) = magic
  tb : ∀ i, i < k → cellv bs (A i + 24) = ((A i - (16 + 24 * S) : Nat) : Int)
  prv : ∀ i, i < k → cellv bs (A i + 32) = (lastp A i : Nat)
  par : ∀ i r, L[i]? = some r → cellv bs (A i + 8) = ppl A r.par
  siz : ∀ i r, L[i]? = some r → cellv bs (A i + 16) = r.size
  tab : ∀ i, i < k → HT bs (A i - (16 + 24 * S)) S (domL L i) (fun d => wpl A (walkN L d i))
  slots : ∀ (i : Nat) (r : RC), L[i]? = some r → r.slots = (S : Nat)
  wf : WFL L

variable {bs : List UInt8} {S x k : Nat} {A : Nat → Nat} {L : List RC}

theorem CSt.cell (h : CSt bs S x k A L) (n : Nat) (hn : n + 8 ≤ x) (h8 : n % 8 = 0) : Mem.cell bs (n : Int) = (cellv bs n, 0) := by
  have := h.xb
  unfold Mem.cell
  rw [if_pos (code_of (by omega) (by omega) (by omega)), Int.toNat_natCast]
theorem CSt.is (h : CSt bs S x k A L) (i : Nat) (hi : i < k) : isCl bs ((A i : Nat) : Int) = true := by
  obtain ⟨h1, h2, h3⟩ := h.pl i hi
  unfold isCl
  rw [show ((A i : Nat) : Int) + 8 = ((A i + 8 : Nat) : Int) by omega, show ((A i : Nat) : Int) + 16 = ((A i + 16 : Nat) : Int) by omega, show ((A i : Nat) : Int) + 24 = ((A i + 24 : Nat) : Int) by omega, show ((A i : Nat) : Int) + 32 = ((A i + 32 : Nat) : Int) by omega,
    h.cell (A i) (by omega) h2, h.cell (A i + 8) (by omega) (by omega), h.cell (A i + 16) (by omega) (by omega), h.cell (A i + 24) (by omega) (by omega), h.cell (A i + 32) (by omega) (by omega), h.mag i hi]
  rfl
/-- The class at the i-th place. -/
def clAt (bs : List UInt8) (S : Nat) (A : Nat → Nat) (i : Nat) : Cl := ⟨((A i : Nat) : Int), cellv bs (A i + 8), cellv bs (A i + 16), ((A i - (16 + 24 * S) : Nat) : Int), (lastp A i : Nat)⟩
theorem CSt.v (h : CSt bs S x k A L) (i : Nat) (hi : i < k) : clv bs ((A i : Nat) : Int) = clAt bs S A i := by
  obtain ⟨h1, h2, h3⟩ := h.pl i hi
  unfold clv clAt
  rw [if_pos (h.is i hi), show ((A i : Nat) : Int) + 8 = ((A i + 8 : Nat) : Int) by omega, show ((A i : Nat) : Int) + 16 = ((A i + 16 : Nat) : Int) by omega, show ((A i : Nat) : Int) + 24 = ((A i + 24 : Nat) : Int) by omega, show ((A i : Nat) : Int) + 32 = ((A i + 32 : Nat) : Int) by omega,
    h.cell (A i + 8) (by omega) (by omega), h.cell (A i + 16) (by omega) (by omega), h.cell (A i + 24) (by omega) (by omega), h.cell (A i + 32) (by omega) (by omega), h.tb i hi, h.prv i hi]
theorem CSt.last_lt (h : CSt bs S x k A L) (m : Nat) (hm : m ≤ k) (i : Nat) (hi : m ≤ i) (hik : i < k) : lastp A m < A i := by
  have := (h.pl i hik).1
  cases m with
  | zero => simp only [lastp]; omega
  | succ m =>
    simp only [lastp]
    have := h.inc m i (by omega) hik
    omega
theorem CSt.chain (h : CSt bs S x k A L) : ∀ m, m ≤ k → ∀ f (lim : Int), m < f → ((lastp A m : Nat) : Int) < lim → Mem.chain bs f lim (lastp A m : Nat) = ((List.range m).map (clAt bs S A)).reverse
  | 0, _, f, lim, _, _ => by
    rw [chain_end _ _ _ _ (by simp [lastp])]
    simp
  | m + 1, hm, f, lim, hf, hl => by
    obtain ⟨f, rfl⟩ : ∃ g, f = g + 1 := ⟨f - 1, by omega⟩
    have h1 := (h.pl m (by omega)).1
    rw [show lastp A (m + 1) = A m from rfl] at hl ⊢
    rw [Mem.chain, if_pos ⟨by omega, hl, h.is m (by omega)⟩, h.v m (by omega)]
    have hlt := h.last_lt m (by omega) m (Nat.le_refl _) (by omega)
    have ih := CSt.chain h m (by omega) f ((A m : Nat) : Int) (by omega) (by omega)
    show clAt bs S A m :: Mem.chain bs f ((A m : Nat) : Int) (lastp A m : Nat) = _
    rw [ih, List.range_succ, List.map_append, List.reverse_append]
    rfl
theorem CSt.k_lt (h : CSt bs S x k A L) : k < bs.length + 1 ∧ ((lastp A k : Nat) : Int) < bs.length := by
  have h1 := h.xb
  have h2 := h.low
  have key : ∀ m, m ≤ k → lastp A m + 40 ≤ x ∨ m = 0 := fun m hm => by
    cases m with
    | zero => exact .inr rfl
    | succ m => exact .inl (h.pl m (by omega)).2.2
  have grow : ∀ m, m < k → m ≤ A m := fun m => by
    induction m with
    | zero => intro _; exact Nat.zero_le _
    | succ m ih =>
      intro hm
      have := ih (by omega)
      have := h.inc m (m + 1) (by omega) hm
      omega
  refine ⟨?_, ?_⟩
  · cases k with
    | zero => omega
    | succ k =>
      have := grow k (by omega)
      have := (h.pl k (by omega)).2.2
      omega
  · rcases key k (Nat.le_refl _) with e | e
    · omega
    · subst e
      simp only [lastp]
      omega
theorem CSt.visited (h : CSt bs S x k A L) : (Mem.visited bs 8).reverse = (List.range k).map (clAt bs S A) := by
  unfold Mem.visited
  have := h.k_lt
  have hl := h.low
  rw [show (8 : Int) = ((8 : Nat) : Int) from rfl, h.cell 8 (by omega) (by omega), h.root]
  dsimp only
  rw [h.chain k (Nat.le_refl _) _ _ this.1 this.2, List.reverse_reverse]
theorem chainIs_any (bs : List UInt8) (a : Int) : ∀ f lim x, chainIs bs a f lim x = (Mem.chain bs f lim x).any (fun c => c.a == a)
  | 0, _, _ => rfl
  | f + 1, lim, x => by
    rw [chainIs, Mem.chain]
    by_cases h : 0 < x ∧ x < lim ∧ isCl bs x = true
    · rw [if_pos h, if_pos h, List.any_cons]
      have e : (clv bs x).a = x := by unfold clv; rw [if_pos h.2.2]
      rw [e, chainIs_any bs a f x]
      by_cases hx : x = a
      · rw [if_pos hx]; simp [hx]
      · rw [if_neg hx]; simp [hx]
    · rw [if_neg h, if_neg h]
      rfl
theorem CSt.isIn (h : CSt bs S x k A L) (a : Int) : Mem.isIn bs 8 a = decide (∃ i, i < k ∧ a = ((A i : Nat) : Int)) := by
  unfold Mem.isIn
  rw [chainIs_any]
  have hv := h.visited
  unfold Mem.visited at hv
  rw [← List.any_reverse, hv, List.any_map]
  rw [Bool.eq_iff_iff, List.any_eq_true, decide_eq_true_iff]
  constructor
  · rintro ⟨i, hi, e⟩
    have e2 : (((A i : Nat) : Int) == a) = true := e
    exact ⟨i, List.mem_range.1 hi, (eq_of_beq e2).symm⟩
  · rintro ⟨i, hi, e⟩
    refine ⟨i, List.mem_range.2 hi, ?_⟩
    show (((A i : Nat) : Int) == a) = true
    rw [e]
    exact beq_self_eq_true _
end Go.Proofs.Ytajeiccfgnpbpaa.Mem

namespace Go.Proofs.Ytajeiccfgnpbpaa.Mem
open Go.RowKit

theorem wpl_congr {A A' : Nat → Nat} {o : Option (Int × Nat)} (h : ∀ x j, o = some (x, j) → A' j = A j) : wpl A' o = wpl A o := by
  cases o with
  | none => rfl
  | some p =>
    obtain ⟨x, j⟩ := p
    simp only [wpl]
    rw [h x j rfl]

variable {bs : List UInt8} {S x k : Nat} {A : Nat → Nat} {L : List RC}

/-- The five cells of a class, and the root. -/
theorem new_cells {cs : List UInt8} {y : Nat} {par sz tab prev root : Int} (hy : 16 ≤ y) (hl : y + 40 ≤ cs.length) (h1 : I64 par) (h2 : I64 sz) (h3 : I64 tab) (h4 : I64 prev) (h5 : I64 root) :
    ∃ ds, setv (setv (setv (setv (setv (setv cs y magic) (y + 8) par) (y + 16) sz) (y + 24) tab) (y + 32) prev) 8 root = ds ∧ ds.length = cs.length ∧ cellv ds 8 = root ∧ cellv ds y = magic ∧ cellv ds (y + 8) = par ∧ cellv ds (y + 16) = sz ∧ cellv ds (y + 24) = tab ∧ cellv ds (y + 32) = prev ∧
      ∀ b, 16 ≤ b → b + 8 ≤ y → cellv ds b = cellv cs b := by
  refine ⟨_, rfl, by simp only [setv_length], ?_, ?_, ?_, ?_, ?_, ?_, fun b hb1 hb2 => ?_⟩
  · rw [cellv_same _ _ _ (by simp only [setv_length]; omega) h5]
  · rw [cellv_other _ _ _ _ (.inr (by omega)), cellv_other _ _ _ _ (.inl (by omega)), cellv_other _ _ _ _ (.inl (by omega)), cellv_other _ _ _ _ (.inl (by omega)), cellv_other _ _ _ _ (.inl (by omega)), cellv_same _ _ _ (by omega) (by unfold magic; omega)]
  · rw [cellv_other _ _ _ _ (.inr (by omega)), cellv_other _ _ _ _ (.inl (by omega)), cellv_other _ _ _ _ (.inl (by omega)), cellv_other _ _ _ _ (.inl (by omega)), cellv_same _ _ _ (by simp only [setv_length]; omega) h1]
  · rw [cellv_other _ _ _ _ (.inr (by omega)), cellv_other _ _ _ _ (.inl (by omega)), cellv_other _ _ _ _ (.inl (by omega)), cellv_same _ _ _ (by simp only [setv_length]; omega) h2]
  · rw [cellv_other _ _ _ _ (.inr (by omega)), cellv_other _ _ _ _ (.inl (by omega)), cellv_same _ _ _ (by simp only [setv_length]; omega) h3]
  · rw [cellv_other _ _ _ _ (.inr (by omega)), cellv_same _ _ _ (by simp only [setv_length]; omega) h4]
  · rw [cellv_other _ _ _ _ (.inr (by omega)), cellv_other _ _ _ _ (.inl (by omega)), cellv_other _ _ _ _ (.inl (by omega)), cellv_other _ _ _ _ (.inl (by omega)), cellv_other _ _ _ _ (.inl (by omega)), cellv_other _ _ _ _ (.inl (by omega))]

def sizeOfP (L : List RC) (p : Int) : Int := if p < 0 then 8 else (L.getD p.toNat ⟨0, 0, 0, []⟩).size

/-- The new table. -/
theorem CSt.newtab (h : CSt bs S x k A L) {z : Nat} (h1 : 1 ≤ S) (h2 : S ≤ 1024) (hx8 : x % 8 = 0) (hroom : x + 16 + 24 * S ≤ z) (hz : z ≤ bs.length) {p : Int} (hp : -1 ≤ p ∧ p < (k : Int)) :
    ∃ cs, tabv z x bs 8 (ppl A p) (S : Nat) = ((((x : Nat) : Int), 0), x + 16 + 24 * S, cs, sizeOfP L p) ∧ cs.length = bs.length ∧ (∀ b, b + 8 ≤ x → cellv cs b = cellv bs b) ∧
      HT cs x S (if p < 0 then [] else domL L p.toNat) (fun d => if p < 0 then (0, 0) else wpl A (walkN L d p.toNat)) := by
  unfold tabv
  by_cases hp0 : p < 0
  · obtain ⟨cs, hn, hcl, hco, hcx, hcz⟩ := newS_room S z x bs h1 h2 hroom hz
    rw [show ppl A p = 0 by unfold ppl; rw [if_pos hp0], if_pos rfl, hn]
    refine ⟨cs, by unfold sizeOfP; rw [if_pos hp0], hcl, hco, ?_⟩
    simp only [if_pos hp0]
    exact HT.fresh _ hx8 (by rw [hcl]; omega) h1 h2 hcx hcz
  · obtain ⟨q, rfl⟩ : ∃ q : Nat, p = q := ⟨p.toNat, by omega⟩
    have hq : q < k := by omega
    obtain ⟨e1, e2, e3⟩ := h.pl q hq
    have ht := h.tab q hq
    have hs := ht.slots
    obtain ⟨cs, hn, hcl, hco, hcc⟩ := copyS_room S z x (A q - (16 + 24 * S)) bs h1 h2 hroom hz (by omega) hs
    rw [show ppl A (q : Int) = ((A q : Nat) : Int) by unfold ppl; rw [if_neg hp0, Int.toNat_natCast], if_neg (by omega), if_pos (by rw [h.isIn]; exact decide_eq_true ⟨q, hq, rfl⟩), h.v q hq]
    show ∃ cs', ((copyv z x bs ((A q - (16 + 24 * S) : Nat) : Int)).1, (copyv z x bs ((A q - (16 + 24 * S) : Nat) : Int)).2.1, (copyv z x bs ((A q - (16 + 24 * S) : Nat) : Int)).2.2, cellv bs (A q + 16)) = _ ∧ _
    rw [hn]
    have hlq : L[q]? = some (L.getD q ⟨0, 0, 0, []⟩) := by
      have : q < L.length := by rw [h.klen]; exact hq
      rw [List.getElem?_eq_getElem this]
      simp [List.getD_eq_getElem?_getD, List.getElem?_eq_getElem this]
    refine ⟨cs, ?_, hcl, hco, ?_⟩
    · rw [h.siz q _ hlq]
      unfold sizeOfP
      rw [if_neg hp0, Int.toNat_natCast]
    · simp only [if_neg hp0, Int.toNat_natCast]
      refine ht.same hx8 (by rw [hcl]; omega) ?_ (fun i hi => ?_)
      · have := hcc 0 (by omega)
        simpa using this
      · have := hcc (16 + 8 * i) (by omega)
        rwa [← Nat.add_assoc, ← Nat.add_assoc] at this

theorem cnewv_of {z x y : Nat} {bs cs : List UInt8} {par slots sz prev : Int} (hr : Mem.cell bs 8 = (prev, 0)) (ht : tabv z x bs 8 par slots = (((x : Int), 0), y, cs, sz)) (hz : y + 40 ≤ z) (hl : y + 40 ≤ cs.length) (hl2 : 16 ≤ cs.length) :
    cnewv z x bs 8 par slots = ((((y : Nat) : Int), 0), y + 40, setv (setv (setv (setv (setv (setv cs y magic) (y + 8) par) (y + 16) sz) (y + 24) x) (y + 32) prev) 8 ((y : Nat) : Int)) := by
  have hcl2 : clayv z x bs 8 par slots prev = ((((y : Nat) : Int), 0), y + 40, setv (setv (setv (setv (setv cs y magic) (y + 8) par) (y + 16) sz) (y + 24) x) (y + 32) prev) := by
    unfold clayv
    rw [ht, if_pos rfl]
    dsimp only
    rw [layl5 _ _ _ _ _ _ _ _ hz, if_pos rfl]
  unfold cnewv
  rw [hr, if_pos rfl]
  dsimp only
  rw [hcl2, if_pos rfl]
  dsimp only
  rw [setc_in _ 8 _ (by omega) (by simp only [setv_length]; omega) (by omega)]
  rfl

theorem CSt.new (h : CSt bs S x k A L) {z : Nat} (h1 : 1 ≤ S) (h2 : S ≤ 1024) (hx8 : x % 8 = 0) (hroom : x + 56 + 24 * S ≤ z) (hz : z ≤ bs.length) {p : Int} (hp : -1 ≤ p ∧ p < (k : Int)) (hsz : I64 (sizeOfP L p)) :
    ∃ bs1, cnewv z x bs 8 (ppl A p) (S : Nat) = ((((x + 16 + 24 * S : Nat) : Int), 0), x + 56 + 24 * S, bs1) ∧ bs1.length = bs.length ∧
      CSt bs1 S (x + 56 + 24 * S) (k + 1) (fun i => if i = k then x + 16 + 24 * S else A i) (L ++ [⟨p, sizeOfP L p, (S : Nat), []⟩]) := by
  have hlow := h.low
  have hxb := h.xb
  have hbig := h.big
  have hkl := h.klen
  obtain ⟨cs, htv, hcl, hco, hht⟩ := h.newtab h1 h2 hx8 (by omega) hz hp
  have hroot : Mem.cell bs 8 = (((lastp A k : Nat) : Int), 0) := by rw [show (8 : Int) = ((8 : Nat) : Int) from rfl, h.cell 8 (by omega) (by omega), h.root]
  have hlast : lastp A k ≤ x := by
    cases k with
    | zero => simp only [lastp]; omega
    | succ k => simp only [lastp]; have := (h.pl k (by omega)).2.2; omega
  have hpp : 0 ≤ ppl A p ∧ ppl A p ≤ x := by
    unfold ppl
    split
    · omega
    · have := (h.pl p.toNat (by omega)).2.2
      omega
  obtain ⟨y, hy⟩ : ∃ y, x + 16 + 24 * S = y := ⟨_, rfl⟩
  rw [hy] at htv
  obtain ⟨ds, hds, hdl, d8, dm, dp, dz, dt, dv, dlow⟩ := new_cells (cs := cs) (y := y) (par := ppl A p) (sz := sizeOfP L p) (tab := (x : Nat)) (prev := (lastp A k : Nat)) (root := ((y : Nat) : Int)) (by omega) (by omega) (by unfold I64; omega) hsz (by unfold I64; omega) (by unfold I64; omega) (by unfold I64; omega)
  have hcn := cnewv_of (z := z) hroot htv (by omega) (by omega) (by omega)
  rw [hds] at hcn
  have hold : ∀ b, 16 ≤ b → b + 8 ≤ x → cellv ds b = cellv bs b := fun b hb1 hb2 => by rw [dlow b hb1 (by omega), hco b hb2]
  have hAi : ∀ i, i < k → (fun i => if i = k then y else A i) i = A i := fun i hi => if_neg (by omega)
  have hAk : (fun i => if i = k then y else A i) k = y := if_pos rfl
  obtain ⟨A', hA'⟩ : ∃ A', (fun i => if i = k then y else A i) = A' := ⟨_, rfl⟩
  rw [hA'] at hAi hAk
  have hlastA : ∀ i, i ≤ k → lastp A' i = lastp A i := fun i hi => by
    cases i with
    | zero => rfl
    | succ i => simp only [lastp]; exact hAi i (by omega)
  have hpplA : ∀ q : Int, -1 ≤ q → q < (k : Int) → ppl A' q = ppl A q := fun q hq1 hq2 => by
    unfold ppl
    split
    · rfl
    · rw [hAi _ (by omega)]
  have hLi : ∀ (i : Nat) (r : RC), i < k → (L ++ [⟨p, sizeOfP L p, (S : Nat), []⟩])[i]? = some r → L[i]? = some r := fun i r hi hr => by rwa [List.getElem?_append_left (by omega)] at hr
  have hLk : ∀ r : RC, (L ++ [⟨p, sizeOfP L p, (S : Nat), []⟩])[k]? = some r → r = ⟨p, sizeOfP L p, (S : Nat), []⟩ := fun r hr => by
    rw [List.getElem?_append_right (by omega), hkl, Nat.sub_self] at hr
    simpa using hr.symm
  have hLlt : ∀ (i : Nat) (r : RC), (L ++ [⟨p, sizeOfP L p, (S : Nat), []⟩])[i]? = some r → i < k ∨ i = k := fun i r hr => by
    have hlt : i < (L ++ [(⟨p, sizeOfP L p, (S : Nat), []⟩ : RC)]).length := by
      rcases Nat.lt_or_ge i (L ++ [(⟨p, sizeOfP L p, (S : Nat), []⟩ : RC)]).length with h1 | h1
      · exact h1
      · rw [List.getElem?_eq_none h1] at hr; cases hr
    rw [List.length_append, List.length_singleton] at hlt
    omega
  rw [hy, show x + 56 + 24 * S = y + 40 by omega]
  refine ⟨ds, hcn, by rw [hdl, hcl], ?_⟩
  rw [hA']
  refine ⟨by rw [List.length_append, List.length_singleton, hkl], by rw [hdl, hcl]; omega, by rw [hdl, hcl]; exact hbig, by omega, ?_, fun i hi => ?_, fun i j hij hj => ?_, fun i hi => ?_, fun i hi => ?_, fun i hi => ?_, fun i r hr => ?_, fun i r hr => ?_, fun i hi => ?_, fun i r hr => ?_, ?_⟩
  · rw [d8]
    show ((y : Nat) : Int) = ((A' k : Nat) : Int)
    rw [hAk]
  · rcases Nat.lt_or_eq_of_le (Nat.le_of_lt_succ hi) with h1 | rfl
    · rw [hAi i h1]
      have := h.pl i h1
      omega
    · rw [hAk]
      omega
  · rcases Nat.lt_or_eq_of_le (Nat.le_of_lt_succ hj) with h1 | rfl
    · rw [hAi i (by omega), hAi j h1]
      exact h.inc i j hij h1
    · rw [hAk, hAi i hij]
      have := (h.pl i hij).2.2
      omega
  · rcases Nat.lt_or_eq_of_le (Nat.le_of_lt_succ hi) with h1 | rfl
    · rw [hAi i h1]
      have := h.pl i h1
      rw [hold _ (by omega) (by omega), h.mag i h1]
    · rw [hAk, dm]
  · rcases Nat.lt_or_eq_of_le (Nat.le_of_lt_succ hi) with h1 | rfl
    · rw [hAi i h1]
      have := h.pl i h1
      rw [hold _ (by omega) (by omega), h.tb i h1]
    · rw [hAk, dt]
      omega
  · rcases Nat.lt_or_eq_of_le (Nat.le_of_lt_succ hi) with h1 | rfl
    · rw [hAi i h1, hlastA i (by omega)]
      have := h.pl i h1
      rw [hold _ (by omega) (by omega), h.prv i h1]
    · rw [hAk, dv, hlastA i (Nat.le_refl _)]
  · rcases hLlt i r hr with h1 | rfl
    · have hr2 := hLi i r h1 hr
      obtain ⟨w1, w2, _⟩ := h.wf i r hr2
      rw [hAi i h1, hpplA _ w1 (by omega)]
      have := h.pl i h1
      rw [hold _ (by omega) (by omega), h.par i r hr2]
    · rw [hAk, dp, hLk r hr, hpplA p hp.1 hp.2]
  · rcases hLlt i r hr with h1 | rfl
    · have hr2 := hLi i r h1 hr
      rw [hAi i h1]
      have := h.pl i h1
      rw [hold _ (by omega) (by omega), h.siz i r hr2]
    · rw [hAk, dz, hLk r hr]
  · rcases Nat.lt_or_eq_of_le (Nat.le_of_lt_succ hi) with h1 | rfl
    · rw [hAi i h1]
      have hpl := h.pl i h1
      have ht := (h.tab i h1).same (cs := ds) (t' := A i - (16 + 24 * S)) (by omega) (by rw [hdl, hcl]; omega) (hold _ (by omega) (by omega)) (fun j hj => hold _ (by omega) (by omega))
      refine ((ht.perm (dom_nodup _ _) (fun d => ?_)).congr fun d _ => ?_)
      · rw [dom_mem, dom_mem, walk_more L _ d i (by omega)]
      · rw [walk_more L _ d i (by omega)]
        exact wpl_congr fun x' j e => hAi j (by have := (walk_lt L d i x' j e).1; omega)
    · rw [hAk, show y - (16 + 24 * S) = x by omega]
      have ht := hht.same (cs := ds) (t' := x) hx8 (by rw [hdl, hcl]; omega) (dlow _ (by omega) (by omega)) (fun j hj => dlow _ (by omega) (by omega))
      have hwl := fun d => walk_last L p (sizeOfP L p) (S : Nat) d (by rw [hkl]; exact hp)
      rw [hkl] at hwl
      refine ((ht.perm (dom_nodup _ _) (fun d => ?_)).congr fun d _ => ?_)
      · rw [dom_mem, hwl]
        by_cases hp0 : 0 ≤ p
        · rw [if_pos hp0, if_neg (by omega), dom_mem]
        · rw [if_neg hp0, if_pos (by omega)]
          simp
      · rw [hwl]
        by_cases hp0 : 0 ≤ p
        · rw [if_pos hp0, if_neg (by omega)]
          exact wpl_congr fun x' j e => hAi j (by have := (walk_lt L d _ x' j e).1; omega)
        · rw [if_neg hp0, if_pos (by omega)]
          rfl
  · rcases hLlt i r hr with h1 | rfl
    · exact h.slots i r (hLi i r h1 hr)
    · rw [hLk r hr]
  · exact wfl_more h.wf p _ _ (by rw [hkl]; exact hp)
end Go.Proofs.Ytajeiccfgnpbpaa.Mem

namespace Go.Proofs.Ytajeiccfgnpbpaa.Mem
open Go.RowKit

variable {bs : List UInt8} {S x k : Nat} {A : Nat → Nat} {L : List RC}

theorem CSt.inj (h : CSt bs S x k A L) {i j : Nat} (hi : i < k) (hj : j < k) (e : A i = A j) : i = j := by
  rcases Nat.lt_trichotomy i j with h1 | h1 | h1
  · have := h.inc i j h1 hj; omega
  · exact h1
  · have := h.inc j i h1 hi; omega
theorem CSt.getL (h : CSt bs S x k A L) {i : Nat} (hi : i < k) : L[i]? = some (L.getD i ⟨0, 0, 0, []⟩) := by
  have : i < L.length := by rw [h.klen]; exact hi
  simp [List.getD_eq_getElem?_getD, List.getElem?_eq_getElem this]

/-- Does a class of the memory have its own method? -/
theorem CSt.owns (h : CSt bs S x k A L) {m : Nat} (hm : m < k) (sel : Int) : ownsv bs (clAt bs S A m) sel = (rown (L.getD m ⟨0, 0, 0, []⟩).own sel).isSome := by
  have ht := h.tab m hm
  have hr := h.getL hm
  obtain ⟨w1, w2, _⟩ := h.wf m _ hr
  obtain ⟨r, hrr⟩ : ∃ r, L.getD m ⟨0, 0, 0, []⟩ = r := ⟨_, rfl⟩
  rw [hrr] at hr w1 w2 ⊢
  have hunf : ∀ v, getv bs ((A m - (16 + 24 * S) : Nat) : Int) sel = v → ownsv bs (clAt bs S A m) sel = (v.2.2 && (v.1.cls == ((A m : Nat) : Int))) := fun v hv => by
    unfold ownsv clAt
    rw [hv]
  by_cases hd : sel ∈ domL L m
  · obtain ⟨n, _, hg⟩ := ht.get hd
    rw [hunf _ hg]
    have hw := (dom_mem L m sel).1 hd
    cases hx : rown r.own sel with
    | some y =>
      rw [walk_own hr hx]
      simp [wpl]
    | none =>
      rw [walk_up hr hx] at hw ⊢
      by_cases hp : 0 ≤ r.par ∧ r.par.toNat < m
      · rw [if_pos hp] at hw ⊢
        cases hq : walkN L sel r.par.toNat with
        | none => exact absurd hq hw
        | some p =>
          obtain ⟨x', j⟩ := p
          have hj := (walk_lt L sel _ x' j hq).1
          have hne : A j ≠ A m := fun e => by have := h.inj (by omega) hm e; omega
          simp only [wpl, Bool.true_and, Option.isSome_none]
          rw [beq_eq_false_iff_ne]
          omega
      · rw [if_neg hp] at hw
        exact absurd rfl hw
  · obtain ⟨n, _, hg⟩ := ht.get_none hd
    rw [hunf _ hg]
    cases hx : rown r.own sel with
    | some y => exact absurd ((dom_mem L m sel).2 (by rw [walk_own hr hx]; simp)) hd
    | none => rfl

theorem CSt.fold (h : CSt bs S x k A L) {c : Nat} (hc : c < k) (sel : Int) : ∀ m, m ≤ k → ((List.range m).map (clAt bs S A)).foldl (hstep bs ((A c : Nat) : Int) sel) [] = ((List.range m).filter (heirN L c sel)).map (clAt bs S A)
  | 0, _ => rfl
  | m + 1, hm => by
    have hmk : m < k := by omega
    rw [List.range_succ, List.map_append, List.foldl_append, CSt.fold h hc sel m (by omega), List.filter_append, List.map_append]
    simp only [List.map_cons, List.map_nil, List.foldl_cons, List.foldl_nil]
    have hr := h.getL hmk
    obtain ⟨w1, w2, _⟩ := h.wf m _ hr
    have hown := h.owns hmk sel
    have hpar := h.par m _ hr
    obtain ⟨r, hrr⟩ : ∃ r, L.getD m ⟨0, 0, 0, []⟩ = r := ⟨_, rfl⟩
    rw [hrr] at hr w1 w2 hown hpar
    have hcond : ((clAt bs S A m).a = ((A c : Nat) : Int) ∨ ((clAt bs S A m).par ∈ (((List.range m).filter (heirN L c sel)).map (clAt bs S A)).map Cl.a ∧ ownsv bs (clAt bs S A m) sel = false)) ↔ heirN L c sel m = true := by
      have ha : (clAt bs S A m).a = ((A c : Nat) : Int) ↔ m = c := by
        show ((A m : Nat) : Int) = ((A c : Nat) : Int) ↔ m = c
        exact ⟨fun e => h.inj hmk hc (by omega), fun e => by rw [e]⟩
      have hp : (clAt bs S A m).par ∈ (((List.range m).filter (heirN L c sel)).map (clAt bs S A)).map Cl.a ↔ (0 ≤ r.par ∧ heirN L c sel r.par.toNat = true) := by
        show cellv bs (A m + 8) ∈ _ ↔ _
        rw [hpar, List.map_map]
        unfold ppl
        constructor
        · intro hmem
          obtain ⟨q, hq, e⟩ := List.mem_map.1 hmem
          obtain ⟨hq1, hq2⟩ := List.mem_filter.1 hq
          have hq1 := List.mem_range.1 hq1
          have e : ((A q : Nat) : Int) = _ := e
          have hA := (h.pl q (by omega)).1
          by_cases hp0 : r.par < 0
          · rw [if_pos hp0] at e
            omega
          · rw [if_neg hp0] at e
            have := h.inj (i := q) (j := r.par.toNat) (by omega) (by omega) (by omega)
            exact ⟨by omega, by rw [← this]; exact hq2⟩
        · rintro ⟨hp0, hh⟩
          rw [if_neg (by omega)]
          exact List.mem_map.2 ⟨r.par.toNat, List.mem_filter.2 ⟨List.mem_range.2 (by omega), hh⟩, rfl⟩
      rw [ha, hp, hown]
      by_cases hmc : m = c
      · subst hmc
        rw [heir_self]
        simp
      · cases hx : rown r.own sel with
        | some y =>
          rw [heir_own hmc hr hx]
          simp [hmc]
        | none =>
          rw [heir_up hmc hr hx]
          by_cases hp0 : 0 ≤ r.par
          · rw [if_pos ⟨hp0, by omega⟩]
            simp [hmc, hp0]
          · rw [if_neg (fun hh => hp0 hh.1)]
            simp [hmc, hp0]
    unfold hstep
    by_cases hh : heirN L c sel m = true
    · rw [if_pos (hcond.2 hh), List.filter_cons_of_pos hh]
      rfl
    · rw [if_neg (fun e => hh (hcond.1 e)), List.filter_cons_of_neg hh]
      simp
theorem CSt.heirs (h : CSt bs S x k A L) {c : Nat} (hc : c < k) (sel : Int) : heirsl bs 8 ((A c : Nat) : Int) sel = ((List.range k).filter (heirN L c sel)).map (clAt bs S A) := by
  unfold heirsl
  rw [h.visited, h.fold hc sel k (Nat.le_refl _)]

/-- A selector's list, with one more. -/
def updD (D : List Int) (sel : Int) : List Int := if sel ∈ D then D else D ++ [sel]
theorem updD_mem (D : List Int) (sel d : Int) : d ∈ updD D sel ↔ d ∈ D ∨ d = sel := by
  unfold updD
  split
  · rename_i h
    exact ⟨.inl, fun h2 => h2.elim id (fun e => e ▸ h)⟩
  · simp

/-- Entries put into some of k tables that lie apart. -/
theorem puts_ht {S k : Nat} {T : Nat → Nat} {sel xt cls : Int} (hap : ∀ i j, i < k → j < k → i ≠ j → T i + 16 + 24 * S ≤ T j ∨ T j + 16 + 24 * S ≤ T i) (h1 : 1 ≤ sel) (hs : I64 sel) (hx : I64 xt) (hc : I64 cls) :
    ∀ (is : List Nat) (bs : List UInt8) (E : Nat → List Int) (f : Nat → Int → Int × Int) (cl : Nat → Cl), is.Nodup → (∀ i ∈ is, i < k ∧ (cl i).tab = ((T i : Nat) : Int)) → (∀ i, i < k → HT bs (T i) S (E i) (f i)) → (∀ i ∈ is, sel ∈ E i ∨ (E i).length < S) →
      (∀ i, i < k → HT (putall sel xt cls (is.map cl) bs) (T i) S (if i ∈ is then updD (E i) sel else E i) (if i ∈ is then (fun d => if d = sel then (xt, cls) else f i d) else f i)) ∧
      ∀ b, (∀ i, i < k → b + 8 ≤ T i + 8 ∨ T i + 16 + 24 * S ≤ b) → cellv (putall sel xt cls (is.map cl) bs) b = cellv bs b
  | [], bs, E, f, cl, _, _, hht, _ => ⟨fun i hi => by simpa [putall] using hht i hi, fun b _ => rfl⟩
  | j :: is, bs, E, f, cl, hn, hcl, hht, hmay => by
    obtain ⟨hj, hn⟩ := List.nodup_cons.1 hn
    obtain ⟨hjk, hjt⟩ := hcl j (List.mem_cons_self ..)
    obtain ⟨p1, p2⟩ := (hht j hjk).put h1 hs hx hc (hmay j (List.mem_cons_self ..))
    have hfst : putall sel xt cls ((j :: is).map cl) bs = putall sel xt cls (is.map cl) (putb bs ((T j : Nat) : Int) ⟨sel, xt, cls⟩) := by
      show putall sel xt cls (is.map cl) (putb bs (cl j).tab ⟨sel, xt, cls⟩) = _
      rw [hjt]
    obtain ⟨q1, q2⟩ := puts_ht hap h1 hs hx hc is (putb bs ((T j : Nat) : Int) ⟨sel, xt, cls⟩) (fun i => if i = j then updD (E i) sel else E i) (fun i => if i = j then (fun d => if d = sel then (xt, cls) else f i d) else f i) cl hn (fun i hi => hcl i (List.mem_cons_of_mem _ hi)) (fun i hi => by
      by_cases hij : i = j
      · subst hij
        simp only [if_true]
        exact p1
      · simp only [if_neg hij]
        have hT := hht i hi
        have h8 := hT.fit
        exact hT.same hT.t8 (by rw [putb_length]; exact h8) (p2 _ (by rcases hap i j hi hjk hij with h | h <;> omega)) (fun m hm => p2 _ (by rcases hap i j hi hjk hij with h | h <;> omega))) (fun i hi => by
      have hij : i ≠ j := fun e => hj (e ▸ hi)
      simp only [if_neg hij]
      exact hmay i (List.mem_cons_of_mem _ hi))
    rw [hfst]
    refine ⟨fun i hi => ?_, fun b hb => ?_⟩
    · have := q1 i hi
      by_cases hij : i = j
      · subst hij
        rw [if_neg hj, if_neg hj] at this
        simp only [if_true] at this
        rw [if_pos (List.mem_cons_self ..), if_pos (List.mem_cons_self ..)]
        exact this
      · simp only [if_neg hij] at this
        have hm : i ∈ j :: is ↔ i ∈ is := by simp [hij]
        by_cases hin : i ∈ is
        · rw [if_pos (hm.2 hin), if_pos (hm.2 hin)]
          rw [if_pos hin, if_pos hin] at this
          exact this
        · rw [if_neg (fun e => hin (hm.1 e)), if_neg (fun e => hin (hm.1 e))]
          rw [if_neg hin, if_neg hin] at this
          exact this
    · rw [q2 b hb, p2 b (hb j hjk)]
end Go.Proofs.Ytajeiccfgnpbpaa.Mem

namespace Go.Proofs.Ytajeiccfgnpbpaa.Mem
open Go.RowKit

variable {bs : List UInt8} {S x k : Nat} {A : Nat → Nat} {L : List RC}

theorem setL_back {L : List RC} {c : Nat} {sel xt : Int} {i : Nat} {r : RC} (h : (setL L c sel xt)[i]? = some r) : ∃ q, L[i]? = some q ∧ r.par = q.par ∧ r.size = q.size ∧ r.slots = q.slots := by
  rw [setL_get] at h
  obtain ⟨q, hq, e⟩ := Option.map_eq_some_iff.1 h
  subst e
  refine ⟨q, hq, ?_⟩
  split <;> exact ⟨rfl, rfl, rfl⟩

theorem csetv_length (bs : List UInt8) (root at_ sel xt : Int) : (csetv bs root at_ sel xt).2.length = bs.length := by
  unfold csetv
  split
  · rfl
  · split
    · rfl
    · split
      · exact putall_length _ _ _ _ _
      · rfl

theorem CSt.full (h : CSt bs S x k A L) {c : Nat} {sel : Int} (h1 : ¬ sel < 1) : ((List.range L.length).any (fullAt L c sel) = true) ↔ ¬ ((((List.range k).filter (heirN L c sel)).map (clAt bs S A)).all (fun q => may bs q.tab sel) = true) := by
  have key : ∀ i, i < k → heirN L c sel i = true → (may bs (clAt bs S A i).tab sel = !(fullAt L c sel i)) := fun i hi hh => by
    have ht := h.tab i hi
    show may bs ((A i - (16 + 24 * S) : Nat) : Int) sel = _
    rw [ht.may_eq]
    unfold fullAt
    have hs := h.slots i _ (h.getL hi)
    rw [hh, hs]
    by_cases hd : sel ∈ domL L i
    · have hw := (dom_mem L i sel).1 hd
      cases hq : walkN L sel i with
      | none => exact absurd hq hw
      | some p => simp [hd]; omega
    · have hw : walkN L sel i = none := by
        cases hq : walkN L sel i with
        | none => rfl
        | some p => exact absurd ((dom_mem L i sel).2 (by rw [hq]; simp)) hd
      rw [hw]
      simp only [hd, false_or, Bool.true_and, Option.isNone_none]
      by_cases hl : (domL L i).length < S
      · rw [decide_eq_true (And.intro (by omega) hl), decide_eq_false (by omega)]
        rfl
      · rw [decide_eq_false (fun e => hl e.2), decide_eq_true (by omega)]
        rfl
  have hnh : ∀ i, heirN L c sel i ≠ true → fullAt L c sel i = false := fun i hh => by
    unfold fullAt
    have : heirN L c sel i = false := by simpa using hh
    rw [this]
    rfl
  rw [List.any_eq_true, List.all_eq_true, h.klen]
  constructor
  · rintro ⟨i, hi, hf⟩ hall
    have hi := List.mem_range.1 hi
    have hh : heirN L c sel i = true := by
      by_cases hh : heirN L c sel i = true
      · exact hh
      · rw [hnh i hh] at hf; cases hf
    have := hall _ (List.mem_map.2 ⟨i, List.mem_filter.2 ⟨List.mem_range.2 hi, hh⟩, rfl⟩)
    rw [key i hi hh, hf] at this
    cases this
  · intro hn
    refine Classical.byContradiction fun hc => hn fun q hq => ?_
    obtain ⟨i, hi, rfl⟩ := List.mem_map.1 hq
    obtain ⟨hi, hh⟩ := List.mem_filter.1 hi
    rw [key i (List.mem_range.1 hi) hh]
    cases hf : fullAt L c sel i with
    | false => rfl
    | true => exact absurd ⟨i, hi, hf⟩ hc

theorem CSt.set (h : CSt bs S x k A L) {c : Nat} (hc : c < k) {sel xt : Int} (hsel : I64 sel) (hxt : I64 xt) :
    (csetv bs 8 ((A c : Nat) : Int) sel xt).1 = rsetc L c sel ∧ (rsetc L c sel ≠ 0 → (csetv bs 8 ((A c : Nat) : Int) sel xt).2 = bs) ∧ (rsetc L c sel = 0 → CSt (csetv bs 8 ((A c : Nat) : Int) sel xt).2 S x k A (setL L c sel xt)) := by
  have hne : (((List.range k).filter (heirN L c sel)).map (clAt bs S A)).length ≠ 0 := fun e => by
    have hm : c ∈ (List.range k).filter (heirN L c sel) := List.mem_filter.2 ⟨List.mem_range.2 hc, heir_self L c sel⟩
    rw [List.length_map] at e
    have := List.length_pos_of_mem hm
    omega
  unfold csetv rsetc
  rw [h.heirs hc sel, if_neg hne]
  by_cases h1 : sel < 1
  · rw [if_pos h1, if_pos h1]
    exact ⟨rfl, fun _ => rfl, fun e => absurd e (by decide)⟩
  · rw [if_neg h1, if_neg h1]
    have hf := h.full (c := c) h1
    by_cases hfull : (List.range L.length).any (fullAt L c sel) = true
    · rw [if_pos hfull, if_neg (hf.1 hfull)]
      exact ⟨rfl, fun _ => rfl, fun e => absurd e (by decide)⟩
    · have hall : (((List.range k).filter (heirN L c sel)).map (clAt bs S A)).all (fun q => may bs q.tab sel) = true := Classical.byContradiction fun e => hfull (hf.2 e)
      rw [if_neg hfull, if_pos hall]
      refine ⟨rfl, fun e => absurd rfl e, fun _ => ?_⟩
      dsimp only
      have hap : ∀ i j, i < k → j < k → i ≠ j → (A i - (16 + 24 * S)) + 16 + 24 * S ≤ A j - (16 + 24 * S) ∨ (A j - (16 + 24 * S)) + 16 + 24 * S ≤ A i - (16 + 24 * S) := fun i j hi hj hij => by
        have p1 := (h.pl i hi).1
        have p2 := (h.pl j hj).1
        rcases Nat.lt_or_ge i j with e | e
        · have := h.inc i j e hj; omega
        · have := h.inc j i (by omega) hi; omega
      have hbig := h.big
      have hAc : I64 ((A c : Nat) : Int) := by
        have := (h.pl c hc).2.2
        have := h.xb
        unfold I64
        omega
      have hmem : ∀ i, i ∈ (List.range k).filter (heirN L c sel) ↔ i < k ∧ heirN L c sel i = true := fun i => by rw [List.mem_filter, List.mem_range]
      obtain ⟨q1, q2⟩ := puts_ht (T := fun i => A i - (16 + 24 * S)) hap (sel := sel) (xt := xt) (cls := ((A c : Nat) : Int)) (by omega) hsel hxt hAc ((List.range k).filter (heirN L c sel)) bs (fun i => domL L i) (fun i d => wpl A (walkN L d i)) (clAt bs S A)
        (List.Pairwise.filter _ List.nodup_range) (fun i hi => ⟨((hmem i).1 hi).1, rfl⟩) (fun i hi => h.tab i hi) (fun i hi => by
          obtain ⟨hik, hh⟩ := (hmem i).1 hi
          have := List.all_eq_true.1 hall _ (List.mem_map.2 ⟨i, hi, rfl⟩)
          have hm : may bs ((A i - (16 + 24 * S) : Nat) : Int) sel = true := this
          rw [(h.tab i hik).may_eq] at hm
          exact (of_decide_eq_true hm).2)
      have hkeep : ∀ i o, i < k → o + 8 ≤ 40 → cellv (putall sel xt ((A c : Nat) : Int) (((List.range k).filter (heirN L c sel)).map (clAt bs S A)) bs) (A i + o) = cellv bs (A i + o) := fun i o hi ho => q2 _ fun j hj => by
        have p1 := (h.pl i hi).1
        have p2 := (h.pl j hj).1
        rcases Nat.lt_trichotomy i j with e | e | e
        · have := h.inc i j e hj; omega
        · subst e; omega
        · have := h.inc j i e hi; omega
      have hlen := putall_length sel xt ((A c : Nat) : Int) (((List.range k).filter (heirN L c sel)).map (clAt bs S A)) bs
      obtain ⟨cs, hcs⟩ : ∃ cs, putall sel xt ((A c : Nat) : Int) (((List.range k).filter (heirN L c sel)).map (clAt bs S A)) bs = cs := ⟨_, rfl⟩
      rw [hcs] at q1 q2 hkeep hlen ⊢
      refine ⟨by rw [setL_length, h.klen], by rw [hlen]; exact h.xb, by rw [hlen]; exact h.big, h.low, ?_, h.pl, h.inc, fun i hi => ?_, fun i hi => ?_, fun i hi => ?_, fun i r hr => ?_, fun i r hr => ?_, fun i hi => ?_, fun i r hr => ?_, wfl_set h.wf c xt (by omega)⟩
      · rw [q2 8 (fun i hi => by have := (h.pl i hi).1; omega), h.root]
      · have := hkeep i 0 hi (by omega)
        rw [Nat.add_zero] at this
        rw [this, h.mag i hi]
      · rw [hkeep i 24 hi (by omega), h.tb i hi]
      · rw [hkeep i 32 hi (by omega), h.prv i hi]
      · obtain ⟨q, hq, e1, e2, e3⟩ := setL_back hr
        have hik : i < k := by
          rcases Nat.lt_or_ge i L.length with hl | hl
          · rw [h.klen] at hl; exact hl
          · rw [List.getElem?_eq_none hl] at hq; cases hq
        rw [hkeep i 8 hik (by omega), h.par i q hq, e1]
      · obtain ⟨q, hq, e1, e2, e3⟩ := setL_back hr
        have hik : i < k := by
          rcases Nat.lt_or_ge i L.length with hl | hl
          · rw [h.klen] at hl; exact hl
          · rw [List.getElem?_eq_none hl] at hq; cases hq
        rw [hkeep i 16 hik (by omega), h.siz i q hq, e2]
      · have ht := q1 i hi
        have hil : i < L.length := by rw [h.klen]; exact hi
        have hws := walk_set_same L c sel xt (by rw [h.klen]; exact hc) i hil
        have hwo := fun d (hd : d ≠ sel) => walk_set_other L c (xt := xt) hd i
        refine ((ht.perm (dom_nodup _ _) (fun d => ?_)).congr fun d _ => ?_)
        · rw [dom_mem]
          by_cases hh : heirN L c sel i = true
          · rw [if_pos ((hmem i).2 ⟨hi, hh⟩), updD_mem, dom_mem]
            by_cases hd : d = sel
            · subst hd
              rw [hws, if_pos hh]
              simp
            · rw [hwo d hd]
              simp [hd]
          · rw [if_neg (fun e => hh ((hmem i).1 e).2), dom_mem]
            by_cases hd : d = sel
            · subst hd
              rw [hws, if_neg hh]
            · rw [hwo d hd]
        · by_cases hh : heirN L c sel i = true
          · rw [if_pos ((hmem i).2 ⟨hi, hh⟩)]
            by_cases hd : d = sel
            · subst hd
              rw [hws, if_pos hh]
              simp [wpl]
            · rw [hwo d hd, if_neg hd]
          · rw [if_neg (fun e => hh ((hmem i).1 e).2)]
            by_cases hd : d = sel
            · subst hd
              rw [hws, if_neg hh]
            · rw [hwo d hd]
      · obtain ⟨q, hq, e1, e2, e3⟩ := setL_back hr
        rw [e3]
        exact h.slots i q hq

/-- What Lookup tells of a class. -/
theorem CSt.look (h : CSt bs S x k A L) {i : Nat} (hi : i < k) (d : Int) : ∃ n : Int, n ≤ (S : Nat) ∧ lookv bs ((A i : Nat) : Int) d = match walkN L d i with | some (xt, j) => (⟨d, xt, ((A j : Nat) : Int)⟩, n, true) | none => (⟨0, 0, 0⟩, n, false) := by
  unfold lookv
  rw [if_pos (h.is i hi), h.v i hi]
  show ∃ n : Int, n ≤ (S : Nat) ∧ getv bs ((A i - (16 + 24 * S) : Nat) : Int) d = _
  by_cases hd : d ∈ domL L i
  · obtain ⟨n, hn, hg⟩ := (h.tab i hi).get hd
    refine ⟨n, hn, ?_⟩
    rw [hg]
    have hw := (dom_mem L i d).1 hd
    cases hq : walkN L d i with
    | none => exact absurd hq hw
    | some p => rfl
  · obtain ⟨n, hn, hg⟩ := (h.tab i hi).get_none hd
    refine ⟨n, hn, ?_⟩
    rw [hg]
    cases hq : walkN L d i with
    | none => rfl
    | some p => exact absurd ((dom_mem L i d).2 (by rw [hq]; simp)) hd
end Go.Proofs.Ytajeiccfgnpbpaa.Mem
