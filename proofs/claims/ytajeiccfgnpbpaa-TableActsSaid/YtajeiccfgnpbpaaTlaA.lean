/- Contracts of the statement's own helpers: Same, entries, slices.Equal of entries. -/
import Derived.Test.YtajeiccfgnpbpaaRefH
import Derived.Laws.StructEq
namespace Go.Proofs.Ytajeiccfgnpbpaa.Mem
open Go.RowKit

theorem ents_get (L : List Ent) : ∀ k, k < L.length → (ents L)[k * 3]? = some (.int .i64 (L.getD k ⟨0, 0, 0⟩).sel) ∧ (ents L)[k * 3 + 1]? = some (.int .i64 (L.getD k ⟨0, 0, 0⟩).xt) ∧ (ents L)[k * 3 + 2]? = some (.int .i64 (L.getD k ⟨0, 0, 0⟩).cls) := by
  induction L with
  | nil => intro k hk; simp at hk
  | cons x L ih =>
    intro k hk
    cases k with
    | zero => simp [ents]
    | succ k =>
      obtain ⟨h0, h1, h2⟩ := ih k (by simpa using hk)
      have e : ents (x :: L) = .int .i64 x.sel :: .int .i64 x.xt :: .int .i64 x.cls :: ents L := by simp [ents]
      rw [e, show (k + 1) * 3 = k * 3 + 1 + 1 + 1 by omega, show k * 3 + 1 + 1 + 1 + 1 = (k * 3 + 1) + 1 + 1 + 1 by omega, show k * 3 + 1 + 1 + 1 + 2 = (k * 3 + 2) + 1 + 1 + 1 by omega]
      simp only [List.getElem?_cons_succ, List.getD_cons_succ]
      exact ⟨h0, h1, h2⟩
theorem ents_length (L : List Ent) : (ents L).length = L.length * 3 := by
  induction L with
  | nil => rfl
  | cons x L ih =>
    have e : ents (x :: L) = .int .i64 x.sel :: .int .i64 x.xt :: .int .i64 x.cls :: ents L := by simp [ents]
    rw [e]
    simp [ih]
    omega
theorem ents_cells {w : World} {B : Nat} {t : TypeId} {g n c : Nat} {L : List Ent} (ho : w.ownsRow B t 3 (.slice (some ⟨g, 0, none⟩) n c) L.length (ents L)) (k : Nat) (hk : k < L.length) :
    w.cell? ⟨g, k * 3, none⟩ = some (.int .i64 (L.getD k ⟨0, 0, 0⟩).sel) ∧ w.cell? ⟨g, k * 3 + 1, none⟩ = some (.int .i64 (L.getD k ⟨0, 0, 0⟩).xt) ∧ w.cell? ⟨g, k * 3 + 2, none⟩ = some (.int .i64 (L.getD k ⟨0, 0, 0⟩).cls) := by
  obtain ⟨h0, h1, h2⟩ := ents_get L k hk
  have c0 := ho.cells rfl (k * 3) _ h0
  have c1 := ho.cells rfl (k * 3 + 1) _ h1
  have c2 := ho.cells rfl (k * 3 + 2) _ h2
  have e : ∀ i, (⟨g, 0, none⟩ : Addr).add i = ⟨g, i, none⟩ := fun i => by unfold Addr.add; split <;> simp_all
  rw [e] at c0 c1 c2
  exact ⟨c0, c1, c2⟩
/-- A slice of entries: nil, and there are none, or a block of its own. -/
theorem ents_form {w : World} {B : Nat} {t : TypeId} {v : Value} {L : List Ent} (ho : w.ownsRow B t 3 v L.length (ents L)) :
    ∃ o c, v = .slice o L.length c ∧ L.length ≤ c ∧ c ≤ maxLen ∧ (0 < L.length → ∃ g, o = some ⟨g, 0, none⟩ ∧ B ≤ g ∧ g < w.heap.size) := by
  obtain ⟨o, c, hv, h1, h2, h3, h4⟩ := owns_form ho
  refine ⟨o, c, hv, h1, h2, fun h => ?_⟩
  cases o with
  | none => have := h3 rfl; omega
  | some b =>
    obtain ⟨e1, e2, e3, e4⟩ := h4 b rfl
    obtain ⟨bb, off, sp⟩ := b
    dsimp only at *
    subst e1; subst e2
    exact ⟨bb, rfl, e3, e4⟩

theorem hasAll (bs : List UInt8) : has bs.length 0 bs.length = true := by simp [has]
theorem txt_all (bs : List UInt8) : txt bs 0 bs.length = (bs, 0) := by
  unfold txt
  rw [if_pos (hasAll bs)]
  simp [text]

set_option maxRecDepth 100000 in
set_option maxHeartbeats 1000000 in
theorem same_any (p g q r : Nat) (bs : List UInt8) (w : World) (h : Mat 108 w p g bs) (k : Mat 112 w q r bs) :
    Calls Try.prog 22 #[.pointer (some ⟨p, 0, none⟩), .pointer (some ⟨q, 0, none⟩)] w fun e w' => e = .returned (.bool true) ∧ w' = w := by
  have hn := h.2.2.2
  have HS := Lib.hid (size_any p g bs w h)
  have HT := Lib.hid (text_any p g bs 0 bs.length w h (by omega) (by omega))
  rw [txt_all] at HT
  have k0 := k.hd
  have hc := run_convert_bytes_arg (P := Try.prog) w 53 5 Try.underlying53 Try.underlying5 r 0 bs.length bs.length (bs.map fun b => (b.toNat : Int)) (by simp) (fun i hi => by
        rw [Nat.zero_add, k.at i (by omega), getD_bytes]) 9 Try.underlying9
  rw [strOf_bytes] at hc
  obtain ⟨st, hst⟩ : ∃ st : ByteArray, ⟨bs.toArray⟩ = st := ⟨_, rfl⟩
  dsimp only at HT
  rw [hst] at hc HT
  obtain ⟨n, hnn⟩ : ∃ n, bs.length = n := ⟨_, rfl⟩
  rw [hnn] at hc HS HT k0 hn
  clear h k hst hnn
  go_enter Try.func22, Try.ntmps22
  go_wp2_with (first | (go_at_call 51; refine HS.out.mono ?_; rintro e w' ⟨rfl, h0⟩; obtain rfl := h0.symm) | (go_at_call 52; refine HT.out.mono ?_; rintro e w' ⟨rfl, h0⟩; obtain rfl := h0.symm))
  go_ret
  exact ⟨rfl, rfl⟩

set_option maxRecDepth 100000 in
set_option maxHeartbeats 2000000 in
theorem entries_any (v : Value) (L : List Ent) (B : Nat) (w : World) (h : w.ownsRow B 38 3 v L.length (ents L)) (hL : L.length ≤ 1024) :
    Calls Try.prog 72 #[v] w
      fun e w' => ∃ v', e = .returned v' ∧ w'.ownsRow w.heap.size 48 3 v' L.length (ents L) ∧ Fr (fun _ => False) w w' := by
  obtain ⟨i0, hi, hz0, hz1, hz2⟩ := info_parts infoREnt
  have HI := Lib.hid hi
  have HZ := Lib.hid (And.intro hz0 (And.intro hz1 hz2))
  clear hi hz0 hz1 hz2
  obtain ⟨o, c, rfl, hc1, hc2, hform⟩ := ents_form h
  have HFM := Lib.hid hform
  have H := Lib.hid h
  clear h hform
  obtain ⟨n, hn⟩ : ∃ n, L.length = n := ⟨_, rfl⟩
  rw [hn] at hc1 hL
  have HN := Lib.hid hn
  rw [hn]
  clear hn
  unfold maxLen at hc2
  go_enter Try.func72, Try.ntmps72
  go_wp2
  go_loopw [3, 8] (fun v iv wr => ∃ k : Nat, k ≤ n ∧ iv = .int .i64 k ∧ wr.ownsRow w.heap.size 48 3 v k (ents (L.take k)) ∧ Fr (fun _ => False) w wr) (fun _ iv _ => n - (intOf iv).toNat)
  case atStart => exact ⟨0, by omega, rfl, World.ownsRow_nil _ _ _ _, Fr.refl _ _⟩
  case round =>
    obtain ⟨k, hk, rfl, hO, hF⟩ := hrel
    have HO := Lib.hid hO
    have HF := Lib.hid hF
    clear hO hF
    by_cases hlt : k < n
    · obtain ⟨gg, rfl, hgB, hgl⟩ := HFM.out (by rw [HN.out]; omega)
      obtain ⟨c0, c1, c2⟩ := ents_cells (HF.out.owns H.out (fun _ _ => id)) k (by rw [HN.out]; omega)
      have hK : ents (L.take (k + 1)) = ents (L.take k) ++ [.int .i64 (L.getD k ⟨0, 0, 0⟩).sel, .int .i64 (L.getD k ⟨0, 0, 0⟩).xt, .int .i64 (L.getD k ⟨0, 0, 0⟩).cls] := by
        have hkl : k < L.length := by rw [HN.out]; exact hlt
        rw [List.take_add_one, List.getElem?_eq_getElem hkl, Option.toList_some, ents_snoc]
        simp [List.getD_eq_getElem?_getD, List.getElem?_eq_getElem hkl]
      obtain ⟨⟨r0, r1, r2⟩, hr⟩ : ∃ r, L.getD k ⟨0, 0, 0⟩ = r := ⟨_, rfl⟩
      rw [hr] at c0 c1 c2 hK
      dsimp only at c0 c1 c2 hK
      have HK := Lib.hid hK
      clear hK hr
      have hls := HF.out.size
      have HT := Lib.hid (cell_three_new2 wr (.cells #[.int .i64 r0, .int .i64 r1, .int .i64 r2] 38) (.int .i64 r0) (.int .i64 r1) (.int .i64 r2) 48)
      go_wp2_with (at_builtin; refine wpList_append_own _ rfl (.tmp 12) (.tmp 14) 132 rfl w.heap.size 48 i0 _ 3 24 Try.underlying132 HI.out HZ.out.1 HZ.out.2.1 HZ.out.2.2 rfl (by decide) _ k (ents (L.take k)) rfl ((HO.out.alloc _).alloc _) ⟨_, 0, none⟩ 1 1 [.int .i64 r0, .int .i64 r1, .int .i64 r2] rfl rfl HT.out (by simp [Value.oneCell']) (by unfold maxLen; omega) (by omega) (by simp; omega) ?_; intro v2 w3 hown2 hgrow2 _; have HV2 := Lib.hid hown2; have HF3 := Lib.hid (Fr.grown ((HF.out.alloc _).alloc _) hgrow2 (fun j hj => .inl (HO.out.lt j hj).1)); clear hown2 hgrow2)
      go_roundw
      case rel => exact ⟨k + 1, by omega, by go_num, by rw [HK.out]; exact HV2.out, HF3.out⟩
      case measure => simp only [intOf]; omega
    · obtain rfl : k = n := by omega
      go_wp2
      go_ret
      have := HO.out
      rw [List.take_of_length_le (by rw [HN.out]; exact Nat.le_refl _)] at this
      exact ⟨_, rfl, this, HF.out⟩

set_option maxRecDepth 100000 in
set_option maxHeartbeats 2000000 in
theorem equal_any (v1 v2 : Value) (L : List Ent) (B1 B2 : Nat) (w : World) (h1 : w.ownsRow B1 48 3 v1 L.length (ents L)) (h2 : w.ownsRow B2 48 3 v2 L.length (ents L)) (hL : L.length ≤ 1024) :
    Calls Try.prog 71 #[v1, v2] w fun e w' => e = .returned (.bool true) ∧ Fr (fun _ => False) w w' := by
  obtain ⟨o1, c1, rfl, hc1, hc2, hform1⟩ := ents_form h1
  obtain ⟨o2, c2, rfl, hc3, hc4, hform2⟩ := ents_form h2
  have HFM := Lib.hid (And.intro hform1 hform2)
  have H := Lib.hid (And.intro h1 h2)
  clear h1 h2 hform1 hform2
  obtain ⟨n, hn⟩ : ∃ n, L.length = n := ⟨_, rfl⟩
  rw [hn] at hc1 hc3 hL
  have HN := Lib.hid hn
  rw [hn]
  clear hn
  unfold maxLen at hc2 hc4
  go_enter Try.func71, Try.ntmps71
  go_wp2
  go_loopw [13] (fun iv wr => ∃ k : Nat, k ≤ n ∧ iv = .int .i64 k ∧ Fr (fun _ => False) w wr) (fun iv _ => n - (intOf iv).toNat)
  case atStart => exact ⟨0, by omega, rfl, Fr.refl _ _⟩
  case round =>
    obtain ⟨k, hk, rfl, hF⟩ := hrel
    have HF := Lib.hid hF
    clear hF
    by_cases hlt : k < n
    · obtain ⟨g1, rfl, _, _⟩ := HFM.out.1 (by rw [HN.out]; omega)
      obtain ⟨g2, rfl, _, _⟩ := HFM.out.2 (by rw [HN.out]; omega)
      obtain ⟨c0, c1, c2⟩ := ents_cells (HF.out.owns H.out.1 (fun _ _ => id)) k (by rw [HN.out]; omega)
      obtain ⟨d0, d1, d2⟩ := ents_cells (HF.out.owns H.out.2 (fun _ _ => id)) k (by rw [HN.out]; omega)
      obtain ⟨⟨r0, r1, r2⟩, hr⟩ : ∃ r, L.getD k ⟨0, 0, 0⟩ = r := ⟨_, rfl⟩
      rw [hr] at c0 c1 c2 d0 d1 d2
      dsimp only at c0 c1 c2 d0 d1 d2
      clear hr
      go_wp2
      go_quiet (fail)
      go_wp2
      go_roundw
      case rel => exact ⟨k + 1, by omega, by go_num, HF.out.drewN _⟩
      case measure => simp only [intOf]; omega
    · obtain rfl : k = n := by omega
      go_wp2
      go_ret
      exact ⟨rfl, HF.out⟩
end Go.Proofs.Ytajeiccfgnpbpaa.Mem
