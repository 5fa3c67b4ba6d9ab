/- Plain mathematics: a dispatch table that was filled by Put holds a finite map. No program. -/
import Derived.Test.YtajeiccfgnpbpaaQa
set_option linter.unusedSimpArgs false
set_option linter.unusedVariables false

namespace Go.Proofs.Ytajeiccfgnpbpaa.Mem
open Go.RowKit

theorem nodup_sub_len : ∀ (l m : List Int), l.Nodup → (∀ x ∈ l, x ∈ m) → l.length ≤ m.length
  | [], _, _, _ => Nat.zero_le _
  | a :: l, m, hn, hs => by
    obtain ⟨h1, h2⟩ := List.nodup_cons.1 hn
    have ha : a ∈ m := hs a (List.mem_cons_self ..)
    have ih := nodup_sub_len l (m.erase a) h2 (fun x hx => (List.mem_erase_of_ne (fun e => h1 (by rw [← e]; exact hx))).2 (hs x (List.mem_cons_of_mem _ hx)))
    have := List.length_erase_of_mem ha
    have := List.length_pos_of_mem ha
    simp only [List.length_cons]
    omega

/-- The selector in a slot; what stands behind it. -/
def sl (bs : List UInt8) (t j : Nat) : Int := cellv bs (t + 16 + 24 * j)
def slx (bs : List UInt8) (t j : Nat) : Int := cellv bs (t + 24 + 24 * j)
def slc (bs : List UInt8) (t j : Nat) : Int := cellv bs (t + 32 + 24 * j)
/-- A selector's first slot. -/
def hm (d : Int) (S : Nat) : Nat := (home d S).toNat
theorem hm_eq (d : Int) (S : Nat) (h : 1 ≤ S) : ((hm d S : Nat) : Int) = home d S := by
  have := home_bd d S (by omega)
  unfold hm
  omega

/-- A table at t of S slots, with the selectors D, and what f tells of each. -/
structure HT (bs : List UInt8) (t S : Nat) (D : List Int) (f : Int → Int × Int) : Prop where
  t8 : t % 8 = 0
  fit : t + 16 + 24 * S ≤ bs.length
  S1 : 1 ≤ S
  S2 : S ≤ 1024
  n : cellv bs t = (S : Nat)
  nodup : D.Nodup
  pos : ∀ d ∈ D, 1 ≤ d
  at_ : ∀ j, j < S → sl bs t j = 0 ∨ (sl bs t j ∈ D ∧ f (sl bs t j) = (slx bs t j, slc bs t j))
  has_ : ∀ d ∈ D, ∃ k, k < S ∧ sl bs t ((hm d S + k) % S) = d ∧ ∀ k', k' < k → sl bs t ((hm d S + k') % S) ≠ 0 ∧ sl bs t ((hm d S + k') % S) ≠ d
  inj : ∀ i j, i < S → j < S → sl bs t i = sl bs t j → sl bs t i ≠ 0 → i = j

variable {bs : List UInt8} {t S : Nat} {D : List Int} {f : Int → Int × Int}

theorem slotAt_nat (t j : Nat) : slotAt t j = ((t + 16 + 24 * j : Nat) : Int) := by unfold slotAt; omega
theorem HT.cell (h : HT bs t S D f) (j : Nat) (hj : j < S) : Mem.cell bs (slotAt t j) = (sl bs t j, 0) := by
  have := h.fit
  have := h.t8
  rw [slotAt_nat]
  unfold Mem.cell
  rw [if_pos (code_of (by omega) (by omega) (by omega)), Int.toNat_natCast]
  rfl
theorem HT.cellx (h : HT bs t S D f) (j : Nat) (hj : j < S) : Mem.cell bs (slotAt t j + 8) = (slx bs t j, 0) := by
  have := h.fit
  have := h.t8
  rw [slotAt_nat, show ((t + 16 + 24 * j : Nat) : Int) + 8 = ((t + 24 + 24 * j : Nat) : Int) by omega]
  unfold Mem.cell
  rw [if_pos (code_of (by omega) (by omega) (by omega)), Int.toNat_natCast]
  rfl
theorem HT.cellc (h : HT bs t S D f) (j : Nat) (hj : j < S) : Mem.cell bs (slotAt t j + 16) = (slc bs t j, 0) := by
  have := h.fit
  have := h.t8
  rw [slotAt_nat, show ((t + 16 + 24 * j : Nat) : Int) + 16 = ((t + 32 + 24 * j : Nat) : Int) by omega]
  unfold Mem.cell
  rw [if_pos (code_of (by omega) (by omega) (by omega)), Int.toNat_natCast]
  rfl
theorem HT.slots (h : HT bs t S D f) : slots bs t = (S : Nat) := by
  have h1 := h.fit
  have h2 := h.S1
  have h3 := h.S2
  have h8 := h.t8
  have hc : Mem.cell bs t = (((S : Nat) : Int), 0) := by
    unfold Mem.cell
    rw [if_pos (code_of (by omega) (by omega) (by omega)), Int.toNat_natCast, h.n]
  unfold Mem.slots
  rw [hc]
  dsimp only
  rw [if_pos ⟨rfl, by omega, by omega, by simp [has]; omega⟩]
theorem HT.place (h : HT bs t S D f) (d : Int) (m : Nat) : (home d (S : Nat) + (m : Int)) % ((S : Nat) : Int) = (((hm d S + m) % S : Nat) : Int) := by
  rw [← hm_eq d S h.S1, Int.natCast_emod, Int.natCast_add]
theorem HT.idx (h : HT bs t S D f) (d : Int) (m : Nat) : (hm d S + m) % S < S := Nat.mod_lt _ h.S1
theorem HT.stop (h : HT bs t S D f) (d : Int) (m : Nat) : stops bs t d (S : Nat) m = (sl bs t ((hm d S + m) % S) == 0 || sl bs t ((hm d S + m) % S) == d) := by
  unfold stops
  rw [h.place, h.cell _ (h.idx d m)]

theorem probe_hit (bs : List UInt8) (t sel n : Int) : ∀ k i m, i ≤ m → m < i + k → stops bs t sel n m = true → (∀ j, i ≤ j → j < m → stops bs t sel n j = false) →
    probe bs t sel n k i = ⟨slotAt t ((home sel n + m) % n), (Mem.cell bs (slotAt t ((home sel n + m) % n))).1 != 0, (Mem.cell bs (slotAt t ((home sel n + m) % n))).1 == 0, m + 1⟩
  | 0, i, m, h1, h2, _, _ => by omega
  | k + 1, i, m, h1, h2, hs, hno => by
    rw [probe]
    by_cases him : i = m
    · subst him
      rw [if_pos hs]
    · rw [if_neg (by rw [hno i (Nat.le_refl _) (by omega)]; simp)]
      exact probe_hit bs t sel n k (i + 1) m (by omega) (by omega) hs (fun j hj hjm => hno j (by omega) hjm)
theorem probe_miss (bs : List UInt8) (t sel n : Int) : ∀ k i, (∀ j, i ≤ j → j < i + k → stops bs t sel n j = false) → probe bs t sel n k i = ⟨0, false, false, n⟩
  | 0, _, _ => rfl
  | k + 1, i, hno => by
    rw [probe, if_neg (by rw [hno i (Nat.le_refl _) (by omega)]; simp)]
    exact probe_miss bs t sel n k (i + 1) (fun j hj hjk => hno j (by omega) (by omega))

theorem HT.search_eq (h : HT bs t S D f) (d : Int) : search bs t d = probe bs t d (S : Nat) S 0 := by
  unfold search
  have := h.S1
  rw [h.slots, if_neg (by omega), Int.toNat_natCast]

/-- A selector that is there is found. -/
theorem HT.found (h : HT bs t S D f) {d : Int} (hd : d ∈ D) : ∃ k j, k < S ∧ j < S ∧ sl bs t j = d ∧ search bs t d = ⟨slotAt t j, true, false, (k : Int) + 1⟩ := by
  obtain ⟨k, hk, he, hno⟩ := h.has_ d hd
  have hp := h.pos d hd
  refine ⟨k, (hm d S + k) % S, hk, h.idx d k, he, ?_⟩
  rw [h.search_eq, probe_hit bs t d (S : Nat) S 0 k (Nat.zero_le _) (by omega) (by rw [h.stop, he]; simp) (fun j _ hj => by
    rw [h.stop]
    obtain ⟨h1, h2⟩ := hno j hj
    simp [h1, h2])]
  rw [h.place, h.cell _ (h.idx d k), he]
  have h0 : d ≠ 0 := by omega
  simp [h0]

theorem HT.sub (h : HT bs t S D f) : ∀ d ∈ D, d ∈ (List.range S).map (sl bs t) := fun d hd => by
  obtain ⟨k, _, he, _⟩ := h.has_ d hd
  exact List.mem_map.2 ⟨_, List.mem_range.2 (h.idx d k), he⟩
theorem HT.le (h : HT bs t S D f) : D.length ≤ S := by
  have := nodup_sub_len D _ h.nodup h.sub
  simpa using this
/-- With fewer selectors than slots one is free. -/
theorem HT.free (h : HT bs t S D f) (hl : D.length < S) : ∃ j, j < S ∧ sl bs t j = 0 := by
  refine Classical.byContradiction fun hc => ?_
  have hall : ∀ j, j < S → sl bs t j ≠ 0 := fun j hj e => hc ⟨j, hj, e⟩
  have hn : ((List.range S).map (sl bs t)).Nodup := by
    exact List.pairwise_map.2 (List.Pairwise.imp_of_mem (fun hi hj hne e => hne (h.inj _ _ (List.mem_range.1 hi) (List.mem_range.1 hj) e (hall _ (List.mem_range.1 hi)))) List.nodup_range)
  have := nodup_sub_len _ D hn (fun x hx => by
    obtain ⟨j, hj, rfl⟩ := List.mem_map.1 hx
    have hj := List.mem_range.1 hj
    rcases h.at_ j hj with e | e
    · exact absurd e (hall j hj)
    · exact e.1)
  simp only [List.length_map, List.length_range] at this
  omega
/-- With as many selectors as slots none is free. -/
theorem HT.full (h : HT bs t S D f) (hl : D.length = S) : ∀ j, j < S → sl bs t j ≠ 0 := fun j hj e => by
  have h0 : (0 : Int) ∈ (List.range S).map (sl bs t) := List.mem_map.2 ⟨j, List.mem_range.2 hj, e⟩
  have := nodup_sub_len D (((List.range S).map (sl bs t)).erase 0) h.nodup (fun d hd => (List.mem_erase_of_ne (by have := h.pos d hd; omega)).2 (h.sub d hd))
  rw [List.length_erase_of_mem h0] at this
  simp only [List.length_map, List.length_range] at this
  have := h.S1
  omega

theorem least_of {P : Nat → Prop} [DecidablePred P] : ∀ n, (∃ m, m < n ∧ P m) → ∃ m, m < n ∧ P m ∧ ∀ j, j < m → ¬ P j
  | 0, ⟨m, hm, _⟩ => by omega
  | n + 1, ⟨m, hm, hp⟩ => by
    by_cases h : ∃ m, m < n ∧ P m
    · obtain ⟨m, h1, h2, h3⟩ := least_of n h
      exact ⟨m, by omega, h2, h3⟩
    · have hmn : m = n := by
        rcases Nat.lt_or_eq_of_le (Nat.le_of_lt_succ hm) with h1 | h1
        · exact absurd ⟨m, h1, hp⟩ h
        · exact h1
      subst hmn
      exact ⟨m, hm, hp, fun j hj hpj => h ⟨j, hj, hpj⟩⟩

theorem HT.reach (h : HT bs t S D f) (d : Int) (j : Nat) (hj : j < S) : ∃ k, k < S ∧ (hm d S + k) % S = j := by
  have h1 : hm d S < S := by
    have := home_bd d S (by have := h.S1; omega)
    unfold hm
    omega
  by_cases hle : hm d S ≤ j
  · exact ⟨j - hm d S, by omega, by rw [show hm d S + (j - hm d S) = j by omega]; exact Nat.mod_eq_of_lt hj⟩
  · exact ⟨j + S - hm d S, by omega, by rw [show hm d S + (j + S - hm d S) = j + S by omega, Nat.add_mod_right]; exact Nat.mod_eq_of_lt hj⟩

theorem HT.not_sel (h : HT bs t S D f) {d : Int} (hd : d ∉ D) (h0 : d ≠ 0) (j : Nat) (hj : j < S) : sl bs t j ≠ d := fun e => by
  rcases h.at_ j hj with h1 | ⟨h1, _⟩
  · exact h0 (by rw [← e, h1])
  · exact hd (e ▸ h1)
/-- A selector that isn't there ends at the first free slot. -/
theorem HT.miss (h : HT bs t S D f) {d : Int} (hd : d ∉ D) (h0 : d ≠ 0) (hl : D.length < S) :
    ∃ k, k < S ∧ sl bs t ((hm d S + k) % S) = 0 ∧ (∀ j, j < k → sl bs t ((hm d S + j) % S) ≠ 0) ∧ search bs t d = ⟨slotAt t (((hm d S + k) % S : Nat) : Int), false, true, (k : Int) + 1⟩ := by
  obtain ⟨j, hj, he⟩ := h.free hl
  obtain ⟨k0, hk0, e0⟩ := h.reach d j hj
  obtain ⟨k, hk, hz, hno⟩ := least_of (P := fun k => sl bs t ((hm d S + k) % S) = 0) S ⟨k0, hk0, by rw [e0]; exact he⟩
  refine ⟨k, hk, hz, hno, ?_⟩
  rw [h.search_eq, probe_hit bs t d (S : Nat) S 0 k (Nat.zero_le _) (by omega) (by rw [h.stop, hz]; simp) (fun j _ hj => by
    rw [h.stop]
    have h1 := hno j hj
    have h2 := h.not_sel hd h0 _ (h.idx d j)
    simp [h1, h2])]
  rw [h.place, h.cell _ (h.idx d k), hz]
  simp
theorem HT.none_ (h : HT bs t S D f) {d : Int} (hd : d ∉ D) (h0 : d ≠ 0) (hl : D.length = S) : search bs t d = ⟨0, false, false, (S : Nat)⟩ := by
  rw [h.search_eq]
  exact probe_miss _ _ _ _ _ _ (fun j _ _ => by
    rw [h.stop]
    have h1 := h.full hl _ (h.idx d j)
    have h2 := h.not_sel hd h0 _ (h.idx d j)
    simp [h1, h2])

theorem HT.get (h : HT bs t S D f) {d : Int} (hd : d ∈ D) : ∃ n : Int, n ≤ (S : Nat) ∧ getv bs t d = (⟨d, (f d).1, (f d).2⟩, n, true) := by
  obtain ⟨k, j, hk, hj, he, hs⟩ := h.found hd
  have hp := h.pos d hd
  refine ⟨(k : Int) + 1, by omega, ?_⟩
  unfold getv
  rw [hs]
  dsimp only
  rw [if_pos ⟨rfl, hp⟩]
  unfold read
  rw [h.cell j hj, h.cellx j hj, h.cellc j hj, he]
  rcases h.at_ j hj with e | ⟨_, e⟩
  · omega
  · rw [he] at e
    rw [e]
theorem HT.get_none (h : HT bs t S D f) {d : Int} (hd : d ∉ D) : ∃ n : Int, n ≤ (S : Nat) ∧ getv bs t d = (⟨0, 0, 0⟩, n, false) := by
  by_cases h1 : 1 ≤ d
  · have hle := h.le
    by_cases hl : D.length < S
    · obtain ⟨k, hk, _, _, hs⟩ := h.miss hd (by omega) hl
      exact ⟨(k : Int) + 1, by omega, by unfold getv; rw [hs]; simp⟩
    · exact ⟨(S : Nat), Int.le_refl _, by unfold getv; rw [h.none_ hd (by omega) (by omega)]; simp⟩
  · have hse : (search bs t d).seen ≤ (S : Nat) := by
      by_cases hex : ∃ m, m < S ∧ stops bs t d (S : Nat) m = true
      · obtain ⟨m, hm, hp, hno⟩ := least_of (P := fun m => stops bs t d (S : Nat) m = true) S hex
        rw [h.search_eq, probe_hit bs t d (S : Nat) S 0 m (Nat.zero_le _) (by omega) hp (fun j _ hj => by have := hno j hj; simpa using this)]
        dsimp only
        omega
      · rw [h.search_eq, probe_miss _ _ _ _ _ _ (fun j _ hj => by
          cases hb : stops bs t d (S : Nat) j with
          | false => rfl
          | true => exact absurd ⟨j, by omega, hb⟩ hex)]
        exact Int.le_refl _
    exact ⟨_, hse, by unfold getv; rw [if_neg (fun hh => h1 hh.2)]⟩
theorem HT.may_eq (h : HT bs t S D f) (d : Int) : may bs t d = decide (1 ≤ d ∧ (d ∈ D ∨ D.length < S)) := by
  unfold may
  by_cases h1 : 1 ≤ d
  · by_cases hd : d ∈ D
    · obtain ⟨k, j, _, _, _, hs⟩ := h.found hd
      rw [hs]
      simp [h1, hd]
    · have hle := h.le
      by_cases hl : D.length < S
      · obtain ⟨k, hk, _, _, hs⟩ := h.miss hd (by omega) hl
        rw [hs]
        simp [h1, hd, hl]
      · rw [h.none_ hd (by omega) (by omega)]
        simp [hd, hl]
  · simp [h1]

/-- A table elsewhere that has the same cells. -/
theorem HT.same {cs : List UInt8} {t' : Nat} (h : HT bs t S D f) (h8 : t' % 8 = 0) (hfit : t' + 16 + 24 * S ≤ cs.length) (hn : cellv cs t' = cellv bs t) (hc : ∀ i, i < 3 * S → cellv cs (t' + 16 + 8 * i) = cellv bs (t + 16 + 8 * i)) : HT cs t' S D f := by
  have e0 : ∀ j, j < S → sl cs t' j = sl bs t j := fun j hj => by
    have := hc (3 * j) (by omega)
    unfold sl
    rw [show t' + 16 + 24 * j = t' + 16 + 8 * (3 * j) by omega, show t + 16 + 24 * j = t + 16 + 8 * (3 * j) by omega, this]
  have e1 : ∀ j, j < S → slx cs t' j = slx bs t j := fun j hj => by
    have := hc (3 * j + 1) (by omega)
    unfold slx
    rw [show t' + 24 + 24 * j = t' + 16 + 8 * (3 * j + 1) by omega, show t + 24 + 24 * j = t + 16 + 8 * (3 * j + 1) by omega, this]
  have e2 : ∀ j, j < S → slc cs t' j = slc bs t j := fun j hj => by
    have := hc (3 * j + 2) (by omega)
    unfold slc
    rw [show t' + 32 + 24 * j = t' + 16 + 8 * (3 * j + 2) by omega, show t + 32 + 24 * j = t + 16 + 8 * (3 * j + 2) by omega, this]
  refine ⟨h8, hfit, h.S1, h.S2, by rw [hn, h.n], h.nodup, h.pos, fun j hj => ?_, fun d hd => ?_, fun i j hi hj => ?_⟩
  · rw [e0 j hj, e1 j hj, e2 j hj]
    exact h.at_ j hj
  · obtain ⟨k, hk, he, hno⟩ := h.has_ d hd
    exact ⟨k, hk, by rw [e0 _ (h.idx d k), he], fun k' hk' => by rw [e0 _ (h.idx d k')]; exact hno k' hk'⟩
  · rw [e0 i hi, e0 j hj]
    exact h.inj i j hi hj
end Go.Proofs.Ytajeiccfgnpbpaa.Mem

namespace Go.Proofs.Ytajeiccfgnpbpaa.Mem
open Go.RowKit

def I64 (n : Int) : Prop := -9223372036854775808 ≤ n ∧ n ≤ 9223372036854775807

theorem put3_setv (bs : List UInt8) (a : Nat) (x : Ent) (h8 : a % 8 = 0) (ha : a + 24 ≤ bs.length) : put3 bs a x 3 = setv (setv (setv bs a x.sel) (a + 8) x.xt) (a + 16) x.cls := by
  simp only [put3]
  rw [setc_in bs a x.sel (by omega) (by omega) (by omega), setc_in _ ((a : Int) + 8) x.xt (by omega) (by rw [setv_length]; omega) (by omega), setc_in _ ((a : Int) + 16) x.cls (by omega) (by simp only [setv_length]; omega) (by omega)]
  rw [show ((a : Int)).toNat = a by omega, show ((a : Int) + 8).toNat = a + 8 by omega, show ((a : Int) + 16).toNat = a + 16 by omega]
theorem put3_far (bs : List UInt8) (a b : Nat) (x : Ent) (h8 : a % 8 = 0) (ha : a + 24 ≤ bs.length) (hb : b + 8 ≤ a ∨ a + 24 ≤ b) : cellv (put3 bs a x 3) b = cellv bs b := by
  rw [put3_setv bs a x h8 ha, cellv_other _ _ _ _ (by omega), cellv_other _ _ _ _ (by omega), cellv_other _ _ _ _ (by omega)]
theorem put3_at (bs : List UInt8) (a : Nat) (x : Ent) (h8 : a % 8 = 0) (ha : a + 24 ≤ bs.length) (h1 : I64 x.sel) (h2 : I64 x.xt) (h3 : I64 x.cls) : cellv (put3 bs a x 3) a = x.sel ∧ cellv (put3 bs a x 3) (a + 8) = x.xt ∧ cellv (put3 bs a x 3) (a + 16) = x.cls := by
  rw [put3_setv bs a x h8 ha]
  refine ⟨?_, ?_, ?_⟩
  · rw [cellv_other _ _ _ _ (by omega), cellv_other _ _ _ _ (by omega), cellv_same _ _ _ (by omega) h1]
  · rw [cellv_other _ _ _ _ (by omega), cellv_same _ _ _ (by simp only [setv_length]; omega) h2]
  · rw [cellv_same _ _ _ (by simp only [setv_length]; omega) h3]

variable {bs : List UInt8} {t S : Nat} {D : List Int} {f : Int → Int × Int}

/-- The slots behind a write into slot j. -/
theorem wrote_cells {bs cs : List UInt8} {t S j : Nat} {d xt cl : Int} (ht8 : t % 8 = 0) (hfit : t + 16 + 24 * S ≤ bs.length) (hd : I64 d) (hx : I64 xt) (hc : I64 cl) (hj : j < S)
    (hcs : ∀ b, b + 8 ≤ t + 8 ∨ t + 16 ≤ b → cellv cs b = cellv (put3 bs ((t + 16 + 24 * j : Nat) : Int) ⟨d, xt, cl⟩ 3) b) :
    (∀ i, i < S → sl cs t i = if i = j then d else sl bs t i) ∧ (∀ i, i < S → slx cs t i = if i = j then xt else slx bs t i) ∧ (∀ i, i < S → slc cs t i = if i = j then cl else slc bs t i) ∧ cellv cs t = cellv bs t := by
  have hp := put3_at bs (t + 16 + 24 * j) ⟨d, xt, cl⟩ (by omega) (by omega) hd hx hc
  refine ⟨fun i hi => ?_, fun i hi => ?_, fun i hi => ?_, ?_⟩
  · unfold sl
    by_cases e : i = j
    · subst e; rw [if_pos rfl, hcs _ (by omega)]; exact hp.1
    · rw [if_neg e, hcs _ (by omega), put3_far _ _ _ _ (by omega) (by omega) (by omega)]
  · unfold slx
    by_cases e : i = j
    · subst e; rw [if_pos rfl, hcs _ (by omega), show t + 24 + 24 * i = t + 16 + 24 * i + 8 by omega]; exact hp.2.1
    · rw [if_neg e, hcs _ (by omega), put3_far _ _ _ _ (by omega) (by omega) (by omega)]
  · unfold slc
    by_cases e : i = j
    · subst e; rw [if_pos rfl, hcs _ (by omega), show t + 32 + 24 * i = t + 16 + 24 * i + 16 by omega]; exact hp.2.2
    · rw [if_neg e, hcs _ (by omega), put3_far _ _ _ _ (by omega) (by omega) (by omega)]
  · rw [hcs _ (by omega), put3_far _ _ _ _ (by omega) (by omega) (by omega)]

/-- What a write into slot j leaves, where it was free or the selector's own. -/
theorem HT.wrote (h : HT bs t S D f) {d xt cl : Int} {j : Nat} {cs : List UInt8} (h1 : 1 ≤ d) (hd : I64 d) (hx : I64 xt) (hc : I64 cl) (hj : j < S) (hl : cs.length = bs.length)
    (hcs : ∀ b, b + 8 ≤ t + 8 ∨ t + 16 ≤ b → cellv cs b = cellv (put3 bs (slotAt t j) ⟨d, xt, cl⟩ 3) b)
    (hslot : (d ∈ D ∧ sl bs t j = d) ∨ (d ∉ D ∧ sl bs t j = 0 ∧ ∃ k, k < S ∧ (hm d S + k) % S = j ∧ ∀ k', k' < k → sl bs t ((hm d S + k') % S) ≠ 0)) :
    HT cs t S (if d ∈ D then D else D ++ [d]) (fun e => if e = d then (xt, cl) else f e) := by
  have hne0 : d ≠ 0 := by omega
  rw [slotAt_nat] at hcs
  obtain ⟨s0, s1, s2, s3⟩ := wrote_cells h.t8 h.fit hd hx hc hj hcs
  clear hcs
  have hD : ∀ e, e ∈ (if d ∈ D then D else D ++ [d]) ↔ (e ∈ D ∨ e = d) := fun e => by
    by_cases hd : d ∈ D
    · rw [if_pos hd]
      exact ⟨.inl, fun h => h.elim id (fun e => e ▸ hd)⟩
    · rw [if_neg hd]
      simp
  have hother : ∀ i, i < S → i ≠ j → sl bs t i ≠ d := fun i hi hij e => by
    rcases hslot with ⟨_, e2⟩ | ⟨hn, _, _⟩
    · exact hij (h.inj i j hi hj (by rw [e, e2]) (by rw [e]; exact hne0))
    · exact h.not_sel hn hne0 i hi e
  refine ⟨h.t8, by rw [hl]; exact h.fit, h.S1, h.S2, by rw [s3, h.n], ?_, fun e he => ?_, fun i hi => ?_, fun e he => ?_, fun a b ha hb => ?_⟩
  · by_cases hd : d ∈ D
    · rw [if_pos hd]; exact h.nodup
    · rw [if_neg hd]
      exact List.nodup_append.2 ⟨h.nodup, by simp, fun a ha b hb e => hd (by simp at hb; rw [← hb, ← e]; exact ha)⟩
  · rcases (hD e).1 he with he | rfl
    · exact h.pos e he
    · exact h1
  · rw [s0 i hi, s1 i hi, s2 i hi]
    by_cases e : i = j
    · simp only [if_pos e]
      exact .inr ⟨(hD d).2 (.inr rfl), by simp⟩
    · simp only [if_neg e]
      rcases h.at_ i hi with e0 | ⟨e1, e2⟩
      · exact .inl e0
      · exact .inr ⟨(hD _).2 (.inl e1), by rw [if_neg (hother i hi e)]; exact e2⟩
  · by_cases hed : e = d
    · subst hed
      rcases hslot with ⟨hin, e2⟩ | ⟨hn, e0, k, hk, hkj, hno⟩
      · obtain ⟨k, hk, hke, hno⟩ := h.has_ e hin
        have hkj : (hm e S + k) % S = j := h.inj _ _ (h.idx e k) hj (by rw [hke, e2]) (by rw [hke]; exact hne0)
        refine ⟨k, hk, by rw [s0 _ (h.idx e k), if_pos hkj], fun k' hk' => ?_⟩
        obtain ⟨n1, n2⟩ := hno k' hk'
        rw [s0 _ (h.idx e k'), if_neg (fun e3 => n2 (by rw [e3, e2]))]
        exact ⟨n1, n2⟩
      · refine ⟨k, hk, by rw [s0 _ (h.idx e k), if_pos hkj], fun k' hk' => ?_⟩
        have n1 := hno k' hk'
        rw [s0 _ (h.idx e k'), if_neg (fun e3 => n1 (by rw [e3, e0]))]
        exact ⟨n1, h.not_sel hn hne0 _ (h.idx e k')⟩
    · have hin : e ∈ D := ((hD e).1 he).resolve_right hed
      obtain ⟨k, hk, hke, hno⟩ := h.has_ e hin
      have hep := h.pos e hin
      have hkj : (hm e S + k) % S ≠ j := fun e3 => by
        rw [e3] at hke
        rcases hslot with ⟨_, e2⟩ | ⟨_, e0, _⟩
        · exact hed (by rw [← hke, e2])
        · rw [e0] at hke; rw [← hke] at hep; exact absurd hep (by decide)
      refine ⟨k, hk, by rw [s0 _ (h.idx e k), if_neg hkj, hke], fun k' hk' => ?_⟩
      rw [s0 _ (h.idx e k')]
      by_cases e3 : (hm e S + k') % S = j
      · rw [if_pos e3]
        exact ⟨hne0, fun e4 => hed e4.symm⟩
      · rw [if_neg e3]
        exact hno k' hk'
  · rw [s0 a ha, s0 b hb]
    by_cases ea : a = j
    · by_cases eb : b = j
      · intro _ _; rw [ea, eb]
      · rw [if_pos ea, if_neg eb]
        intro e _
        exact absurd e.symm (hother b hb eb)
    · by_cases eb : b = j
      · rw [if_neg ea, if_pos eb]
        intro e _
        exact absurd e (hother a ha ea)
      · rw [if_neg ea, if_neg eb]
        exact h.inj a b ha hb

theorem HT.put (h : HT bs t S D f) {d xt cl : Int} (h1 : 1 ≤ d) (hd : I64 d) (hx : I64 xt) (hc : I64 cl) (hm : d ∈ D ∨ D.length < S) :
    HT (putb bs t ⟨d, xt, cl⟩) t S (if d ∈ D then D else D ++ [d]) (fun e => if e = d then (xt, cl) else f e) ∧ ∀ b, b + 8 ≤ t + 8 ∨ t + 16 + 24 * S ≤ b → cellv (putb bs t ⟨d, xt, cl⟩) b = cellv bs b := by
  have ht8 := h.t8
  have hfit := h.fit
  have hS := h.S1
  unfold putb
  dsimp only
  rw [if_neg (by rw [h.slots]; omega)]
  by_cases hin : d ∈ D
  · obtain ⟨k, j, hk, hj, he, hs⟩ := h.found hin
    rw [hs]
    dsimp only
    rw [if_neg (by simp), if_neg (by simp)]
    refine ⟨h.wrote h1 hd hx hc hj (put3_length _ _ _ _) (fun b _ => rfl) (.inl ⟨hin, he⟩), fun b hb => ?_⟩
    rw [slotAt_nat, put3_far _ _ _ _ (by omega) (by omega) (by omega)]
  · obtain ⟨k, hk, he, hno, hs⟩ := h.miss hin (by omega) (hm.resolve_left hin)
    rw [hs]
    dsimp only
    rw [if_neg (by simp), if_pos rfl]
    have hj := h.idx d k
    obtain ⟨j, hjj⟩ : ∃ j, (Mem.hm d S + k) % S = j := ⟨_, rfl⟩
    rw [hjj] at hj he ⊢
    have hlen := put3_length bs (slotAt t j) ⟨d, xt, cl⟩ 3
    have hset : ∀ v : Int, ∀ b, b + 8 ≤ t + 8 ∨ t + 16 ≤ b → cellv (setc (put3 bs (slotAt t j) ⟨d, xt, cl⟩ 3) ((t : Int) + 8) v) b = cellv (put3 bs (slotAt t j) ⟨d, xt, cl⟩ 3) b := fun v b hb => by
      rw [setc_in _ ((t : Int) + 8) v (by omega) (by rw [hlen]; omega) (by omega), show ((t : Int) + 8).toNat = t + 8 by omega, cellv_other _ _ _ _ (by omega)]
    refine ⟨h.wrote h1 hd hx hc hj (by rw [setc_length, hlen]) (hset _) (.inr ⟨hin, he, k, hk, hjj, hno⟩), fun b hb => ?_⟩
    rw [hset _ b (by omega), slotAt_nat, put3_far _ _ _ _ (by omega) (by omega) (by omega)]

/-- A table of zeros. -/
theorem HT.fresh {cs : List UInt8} {t S : Nat} (f : Int → Int × Int) (h8 : t % 8 = 0) (hfit : t + 16 + 24 * S ≤ cs.length) (h1 : 1 ≤ S) (h2 : S ≤ 1024) (hn : cellv cs t = (S : Nat)) (hz : ∀ i, i < 3 * S → cellv cs (t + 16 + 8 * i) = 0) : HT cs t S [] f :=
  ⟨h8, hfit, h1, h2, hn, List.nodup_nil, fun d hd => by simp at hd, fun j hj => .inl (by have := hz (3 * j) (by omega); unfold sl; rw [show t + 16 + 24 * j = t + 16 + 8 * (3 * j) by omega, this]), fun d hd => by simp at hd,
    fun i j hi hj e h0 => absurd (by have := hz (3 * i) (by omega); unfold sl; rw [show t + 16 + 24 * i = t + 16 + 8 * (3 * i) by omega, this]) h0⟩

/-- Only what f tells of the selectors counts. -/
theorem HT.congr {g : Int → Int × Int} (h : HT bs t S D f) (hg : ∀ d ∈ D, g d = f d) : HT bs t S D g :=
  ⟨h.t8, h.fit, h.S1, h.S2, h.n, h.nodup, h.pos, fun j hj => (h.at_ j hj).imp id (fun ⟨e1, e2⟩ => ⟨e1, by rw [hg _ e1, e2]⟩), h.has_, h.inj⟩
/-- Another list of the same selectors. -/
theorem HT.perm {D' : List Int} (h : HT bs t S D f) (hn : D'.Nodup) (hd : ∀ d, d ∈ D' ↔ d ∈ D) : HT bs t S D' f :=
  ⟨h.t8, h.fit, h.S1, h.S2, h.n, hn, fun d hd' => h.pos d ((hd d).1 hd'), fun j hj => (h.at_ j hj).imp id (fun ⟨e1, e2⟩ => ⟨(hd _).2 e1, e2⟩), fun d hd' => h.has_ d ((hd d).1 hd'), h.inj⟩
end Go.Proofs.Ytajeiccfgnpbpaa.Mem

namespace Go.Proofs.Ytajeiccfgnpbpaa.Mem
open Go.RowKit

/-- A class of the document: its parent's number, its objects' bytes, its slots, its own methods. -/
structure RC where
  par : Int
  size : Int
  slots : Int
  own : List (Int × Int)

/-- An own method. -/
def rown : List (Int × Int) → Int → Option Int
  | [], _ => none
  | o :: l, sel => if o.1 = sel then some o.2 else rown l sel

/-- The method that a walk upwards finds, and where. -/
def walkN (L : List RC) (sel : Int) (c : Nat) : Option (Int × Nat) :=
  match L[c]? with
  | none => none
  | some r => match rown r.own sel with
    | some xt => some (xt, c)
    | none => if 0 ≤ r.par ∧ r.par.toNat < c then walkN L sel r.par.toNat else none
termination_by c
decreasing_by all_goals omega

/-- Does a class's method of a selector go to another one? -/
def heirN (L : List RC) (of : Nat) (sel : Int) (c : Nat) : Bool :=
  if c = of then true else
  match L[c]? with
  | none => false
  | some r => match rown r.own sel with
    | some _ => false
    | none => if 0 ≤ r.par ∧ r.par.toNat < c then heirN L of sel r.par.toNat else false
termination_by c
decreasing_by all_goals omega

def addSel (a : List Int) (o : Int × Int) : List Int := if o.1 ∈ a then a else a ++ [o.1]
/-- The selectors that a class knows, behind those that are known. -/
def seenN (L : List RC) (c : Nat) (acc : List Int) : List Int :=
  match L[c]? with
  | none => acc
  | some r => if 0 ≤ r.par ∧ r.par.toNat < c then seenN L r.par.toNat (r.own.foldl addSel acc) else r.own.foldl addSel acc
termination_by c
decreasing_by all_goals omega
def domL (L : List RC) (c : Nat) : List Int := seenN L c []

/-- Parents stand ahead; selectors are numbers from 1 on. -/
def WFL (L : List RC) : Prop := ∀ (i : Nat) (r : RC), L[i]? = some r → -1 ≤ r.par ∧ r.par < (i : Int) ∧ ∀ o ∈ r.own, 1 ≤ o.1

theorem rown_mem {l : List (Int × Int)} {sel : Int} : rown l sel ≠ none ↔ sel ∈ l.map (·.1) := by
  induction l with
  | nil => simp [rown]
  | cons o l ih =>
    rw [rown]
    by_cases h : o.1 = sel
    · rw [if_pos h]; simp [h]
    · rw [if_neg h, ih, List.map_cons, List.mem_cons]
      exact ⟨.inr, fun h2 => h2.resolve_left (fun e => h e.symm)⟩
theorem rown_append (l m : List (Int × Int)) (sel : Int) : rown (l ++ m) sel = match rown l sel with | some x => some x | none => rown m sel := by
  induction l with
  | nil => rfl
  | cons o l ih =>
    rw [List.cons_append, rown, rown]
    by_cases h : o.1 = sel
    · rw [if_pos h, if_pos h]
    · rw [if_neg h, if_neg h, ih]
theorem rown_filter_same (l : List (Int × Int)) (sel : Int) : rown (l.filter fun o => o.1 != sel) sel = none := by
  induction l with
  | nil => rfl
  | cons o l ih =>
    by_cases h : o.1 = sel
    · rw [List.filter_cons_of_neg (by simp [h]), ih]
    · rw [List.filter_cons_of_pos (by simp [h]), rown, if_neg h, ih]
theorem rown_filter_other (l : List (Int × Int)) {sel d : Int} (hd : d ≠ sel) : rown (l.filter fun o => o.1 != sel) d = rown l d := by
  induction l with
  | nil => rfl
  | cons o l ih =>
    by_cases h : o.1 = sel
    · rw [List.filter_cons_of_neg (by simp [h]), ih, rown, if_neg (fun e => hd (by rw [← e, h]))]
    · rw [List.filter_cons_of_pos (by simp [h]), rown, rown, ih]

/-- The own methods behind a Set. -/
def setOwn (l : List (Int × Int)) (sel xt : Int) : List (Int × Int) := (l.filter fun o => o.1 != sel) ++ [(sel, xt)]
theorem rown_set_same (l : List (Int × Int)) (sel xt : Int) : rown (setOwn l sel xt) sel = some xt := by
  unfold setOwn
  rw [rown_append, rown_filter_same]
  simp [rown]
theorem rown_set_other (l : List (Int × Int)) {sel xt d : Int} (hd : d ≠ sel) : rown (setOwn l sel xt) d = rown l d := by
  unfold setOwn
  rw [rown_append, rown_filter_other l hd]
  cases rown l d with
  | some x => rfl
  | none =>
    have : ¬ sel = d := fun e => hd e.symm
    simp [rown, this]

/-- The classes behind a Set. -/
def setL (L : List RC) (c : Nat) (sel xt : Int) : List RC := L.modify c fun r => { r with own := setOwn r.own sel xt }
theorem setL_length (L : List RC) (c : Nat) (sel xt : Int) : (setL L c sel xt).length = L.length := by simp [setL]
theorem setL_get (L : List RC) (c : Nat) (sel xt : Int) (i : Nat) : (setL L c sel xt)[i]? = (L[i]?).map fun r => if i = c then { r with own := setOwn r.own sel xt } else r := by
  unfold setL
  rw [List.getElem?_modify]
  by_cases h : c = i
  · subst h; simp
  · have h2 : ¬ i = c := fun e => h e.symm
    simp [h, h2]

theorem walk_set_other (L : List RC) (c : Nat) {sel xt d : Int} (hd : d ≠ sel) : ∀ i, walkN (setL L c sel xt) d i = walkN L d i := by
  intro i
  induction i using Nat.strongRecOn with
  | _ i ih =>
    rw [walkN, walkN, setL_get]
    cases hr : L[i]? with
    | none => rfl
    | some r =>
      simp only [Option.map_some]
      have hown : rown (if i = c then { r with own := setOwn r.own sel xt } else r).own d = rown r.own d := by
        by_cases h : i = c
        · rw [if_pos h]; exact rown_set_other _ hd
        · rw [if_neg h]
      have hpar : (if i = c then { r with own := setOwn r.own sel xt } else r).par = r.par := by split <;> rfl
      rw [hown, hpar]
      cases rown r.own d with
      | some x => rfl
      | none =>
        dsimp only
        by_cases hp : 0 ≤ r.par ∧ r.par.toNat < i
        · rw [if_pos hp, if_pos hp, ih _ hp.2]
        · rw [if_neg hp, if_neg hp]
theorem walk_own {L : List RC} {d : Int} {i : Nat} {r : RC} {x : Int} (hr : L[i]? = some r) (h : rown r.own d = some x) : walkN L d i = some (x, i) := by
  rw [walkN, hr]
  dsimp only
  rw [h]
theorem walk_up {L : List RC} {d : Int} {i : Nat} {r : RC} (hr : L[i]? = some r) (h : rown r.own d = none) : walkN L d i = if 0 ≤ r.par ∧ r.par.toNat < i then walkN L d r.par.toNat else none := by
  rw [walkN, hr]
  dsimp only
  rw [h]
theorem walk_out {L : List RC} {d : Int} {i : Nat} (hr : L[i]? = none) : walkN L d i = none := by
  rw [walkN, hr]
theorem heir_self (L : List RC) (c : Nat) (d : Int) : heirN L c d c = true := by
  rw [heirN, if_pos rfl]
theorem heir_own {L : List RC} {c : Nat} {d : Int} {i : Nat} {r : RC} {x : Int} (hi : i ≠ c) (hr : L[i]? = some r) (h : rown r.own d = some x) : heirN L c d i = false := by
  rw [heirN, if_neg hi, hr]
  dsimp only
  rw [h]
theorem heir_up {L : List RC} {c : Nat} {d : Int} {i : Nat} {r : RC} (hi : i ≠ c) (hr : L[i]? = some r) (h : rown r.own d = none) : heirN L c d i = if 0 ≤ r.par ∧ r.par.toNat < i then heirN L c d r.par.toNat else false := by
  rw [heirN, if_neg hi, hr]
  dsimp only
  rw [h]
theorem walk_set_same (L : List RC) (c : Nat) (sel xt : Int) (hc : c < L.length) : ∀ i, i < L.length → walkN (setL L c sel xt) sel i = if heirN L c sel i = true then some (xt, c) else walkN L sel i := by
  intro i
  induction i using Nat.strongRecOn with
  | _ i ih =>
    intro hi
    have hr : L[i]? = some L[i] := List.getElem?_eq_getElem hi
    obtain ⟨r, hrr⟩ : ∃ r, L[i] = r := ⟨_, rfl⟩
    rw [hrr] at hr
    have hs := setL_get L c sel xt i
    rw [hr] at hs
    by_cases h : i = c
    · subst h
      simp only [Option.map_some, if_true] at hs
      rw [heir_self, if_pos rfl, walk_own hs (rown_set_same _ _ _)]
    · simp only [Option.map_some, if_neg h] at hs
      cases hx : rown r.own sel with
      | some x =>
        rw [heir_own h hr hx, if_neg (by simp), walk_own hs hx, walk_own hr hx]
      | none =>
        rw [heir_up h hr hx, walk_up hs hx, walk_up hr hx]
        by_cases hp : 0 ≤ r.par ∧ r.par.toNat < i
        · rw [if_pos hp, if_pos hp, if_pos hp, ih _ hp.2 (by omega)]
        · rw [if_neg hp, if_neg hp, if_neg hp]
          simp

theorem addSel_nodup {a : List Int} (h : a.Nodup) (o : Int × Int) : (addSel a o).Nodup := by
  unfold addSel
  split
  · exact h
  · rename_i hn
    exact List.nodup_append.2 ⟨h, by simp, fun x hx y hy e => hn (by simp at hy; rw [← hy, ← e]; exact hx)⟩
theorem addSel_mem (a : List Int) (o : Int × Int) (d : Int) : d ∈ addSel a o ↔ d ∈ a ∨ d = o.1 := by
  unfold addSel
  split
  · rename_i h
    exact ⟨.inl, fun h2 => h2.elim id (fun e => e ▸ h)⟩
  · simp
theorem addSels_nodup : ∀ (l : List (Int × Int)) (a : List Int), a.Nodup → (l.foldl addSel a).Nodup
  | [], _, h => h
  | o :: l, a, h => addSels_nodup l (addSel a o) (addSel_nodup h o)
theorem addSels_mem : ∀ (l : List (Int × Int)) (a : List Int) (d : Int), d ∈ l.foldl addSel a ↔ d ∈ a ∨ d ∈ l.map (·.1)
  | [], a, d => by simp
  | o :: l, a, d => by
    rw [List.foldl_cons, addSels_mem l, addSel_mem, List.map_cons, List.mem_cons, or_assoc]
theorem seen_nodup (L : List RC) : ∀ c acc, acc.Nodup → (seenN L c acc).Nodup := by
  intro c
  induction c using Nat.strongRecOn with
  | _ c ih =>
    intro acc h
    rw [seenN]
    cases L[c]? with
    | none => exact h
    | some r =>
      dsimp only
      split
      · rename_i hp
        exact ih _ hp.2 _ (addSels_nodup _ _ h)
      · exact addSels_nodup _ _ h
theorem seen_mem (L : List RC) (d : Int) : ∀ c acc, d ∈ seenN L c acc ↔ d ∈ acc ∨ walkN L d c ≠ none := by
  intro c
  induction c using Nat.strongRecOn with
  | _ c ih =>
    intro acc
    rw [seenN, walkN]
    cases L[c]? with
    | none => simp
    | some r =>
      dsimp only
      have hm := @rown_mem r.own d
      cases hx : rown r.own d with
      | some x =>
        rw [hx] at hm
        have hin := hm.1 (by simp)
        split
        · rename_i hp
          rw [ih _ hp.2, addSels_mem]
          simp [hin]
        · rw [addSels_mem]
          simp [hin]
      | none =>
        rw [hx] at hm
        have hnin : d ∉ r.own.map (·.1) := fun h => (hm.2 h) rfl
        dsimp only
        split
        · rename_i hp
          rw [ih _ hp.2, addSels_mem]
          simp [hnin]
        · rw [addSels_mem]
          simp [hnin]
theorem dom_nodup (L : List RC) (c : Nat) : (domL L c).Nodup := seen_nodup L c [] List.nodup_nil
theorem dom_mem (L : List RC) (c : Nat) (d : Int) : d ∈ domL L c ↔ walkN L d c ≠ none := by
  unfold domL
  rw [seen_mem]
  simp

/-- One class more changes nothing below it. -/
theorem walk_more (L : List RC) (r : RC) (d : Int) : ∀ i, i < L.length → walkN (L ++ [r]) d i = walkN L d i := by
  intro i
  induction i using Nat.strongRecOn with
  | _ i ih =>
    intro hi
    rw [walkN, walkN, List.getElem?_append_left hi]
    cases L[i]? with
    | none => rfl
    | some q =>
      dsimp only
      cases rown q.own d with
      | some x => rfl
      | none =>
        dsimp only
        by_cases hp : 0 ≤ q.par ∧ q.par.toNat < i
        · rw [if_pos hp, if_pos hp, ih _ hp.2 (by omega)]
        · rw [if_neg hp, if_neg hp]
theorem walk_last (L : List RC) (p sz sl : Int) (d : Int) (hp : -1 ≤ p ∧ p < (L.length : Int)) : walkN (L ++ [⟨p, sz, sl, []⟩]) d L.length = if 0 ≤ p then walkN L d p.toNat else none := by
  rw [walkN, List.getElem?_append_right (Nat.le_refl _)]
  simp only [Nat.sub_self, List.getElem?_cons_zero, rown]
  by_cases h0 : 0 ≤ p
  · rw [if_pos h0, if_pos ⟨h0, by omega⟩]
    exact walk_more L _ d _ (by omega)
  · rw [if_neg h0, if_neg (fun h => h0 h.1)]
theorem walk_lt (L : List RC) (d : Int) : ∀ i x j, walkN L d i = some (x, j) → j ≤ i ∧ i < L.length := by
  intro i
  induction i using Nat.strongRecOn with
  | _ i ih =>
    intro x j h
    rw [walkN] at h
    cases hr : L[i]? with
    | none => rw [hr] at h; cases h
    | some q =>
      have hi : i < L.length := by
        rcases Nat.lt_or_ge i L.length with h1 | h1
        · exact h1
        · rw [List.getElem?_eq_none h1] at hr; cases hr
      rw [hr] at h
      dsimp only at h
      cases hx : rown q.own d with
      | some y =>
        rw [hx] at h
        simp only [Option.some.injEq, Prod.mk.injEq] at h
        exact ⟨by omega, hi⟩
      | none =>
        rw [hx] at h
        dsimp only at h
        split at h
        · rename_i hp
          have := ih _ hp.2 x j h
          exact ⟨by omega, hi⟩
        · cases h
theorem walk_pos {L : List RC} (h : WFL L) {d : Int} : ∀ i, walkN L d i ≠ none → 1 ≤ d := by
  intro i
  induction i using Nat.strongRecOn with
  | _ i ih =>
    intro hw
    rw [walkN] at hw
    cases hr : L[i]? with
    | none => rw [hr] at hw; exact absurd rfl hw
    | some q =>
      rw [hr] at hw
      dsimp only at hw
      cases hx : rown q.own d with
      | some y =>
        have := (@rown_mem q.own d).1 (by rw [hx]; simp)
        obtain ⟨o, ho, e⟩ := List.mem_map.1 this
        have := (h i q hr).2.2 o ho
        omega
      | none =>
        rw [hx] at hw
        dsimp only at hw
        split at hw
        · rename_i hp
          exact ih _ hp.2 hw
        · exact absurd rfl hw
theorem wfl_set {L : List RC} (h : WFL L) (c : Nat) {sel : Int} (xt : Int) (hs : 1 ≤ sel) : WFL (setL L c sel xt) := fun i r hr => by
  rw [setL_get] at hr
  obtain ⟨q, hq, e⟩ := Option.map_eq_some_iff.1 hr
  obtain ⟨h1, h2, h3⟩ := h i q hq
  subst e
  split
  · refine ⟨h1, h2, fun o ho => ?_⟩
    rcases List.mem_append.1 ho with ho | ho
    · exact h3 o (List.mem_filter.1 ho).1
    · obtain rfl : o = (sel, xt) := by simpa using ho
      exact hs
  · exact ⟨h1, h2, h3⟩
theorem wfl_more {L : List RC} (h : WFL L) (p sz sl : Int) (hp : -1 ≤ p ∧ p < (L.length : Int)) : WFL (L ++ [⟨p, sz, sl, []⟩]) := fun i r hr => by
  rcases Nat.lt_or_ge i L.length with h1 | h1
  · rw [List.getElem?_append_left h1] at hr
    exact h i r hr
  · rw [List.getElem?_append_right h1] at hr
    rcases Nat.lt_or_ge (i - L.length) 1 with h2 | h2
    · obtain rfl : i = L.length := by omega
      simp only [Nat.sub_self, List.getElem?_cons_zero, Option.some.injEq] at hr
      subst hr
      exact ⟨hp.1, hp.2, fun o ho => by simp at ho⟩
    · rw [List.getElem?_eq_none (by simpa using h2)] at hr
      cases hr
end Go.Proofs.Ytajeiccfgnpbpaa.Mem
