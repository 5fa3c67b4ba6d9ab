/- Contracts of package object: lay, Make. -/
import Derived.Test.YtajeiccfgnpbpaaObjA
import Derived.Test.YtajeiccfgnpbpaaShl
namespace Go.Proofs.Ytajeiccfgnpbpaa.Mem
open Go.RowKit

theorem repeatL_zero : ∀ k, Lib.repeatL [0] k = List.replicate k 0
  | 0 => rfl
  | k + 1 => by rw [Lib.repeatL, repeatL_zero k]; rfl

/-- What laying an object tells, and leaves. -/
def olay (bs : List UInt8) (a c size : Int) : Int × List UInt8 :=
  if (cell bs a).2 = 0 then (if (txt bs a size).2 = 0 then (0, sett (setc bs a c) (a + 8) (List.replicate (size - 8).toNat 0)) else ((txt bs a size).2, bs)) else ((cell bs a).2, bs)

theorem olay_length (bs : List UInt8) (a c size : Int) : (olay bs a c size).2.length = bs.length := by
  unfold olay
  split
  · split
    · rw [sett_length, setc_length]
    · rfl
  · rfl

set_option maxRecDepth 100000 in
set_option maxHeartbeats 2000000 in
theorem olay_any (p g : Nat) (bs : List UInt8) (a c size : Int) (w : World) (h : Mat 108 w p g bs) (hs : 8 ≤ size ∧ size ≤ 1048576) :
    Calls Try.prog 90 #[.pointer (some ⟨p, 0, none⟩), .int .i64 a, .int .i64 c, .int .i64 size] w fun e w' => e = .returned (.int .i64 (olay bs a c size).1) ∧ Mat 108 w' p g (olay bs a c size).2 ∧ Only g w w' := by
  have hc := cell_any p g bs a w h
  have ht := text_any p g bs a size w h (by omega) (by omega)
  have H := Lib.hid h
  have hbl := h.2.2.2
  have hcd := @cell_code bs a
  have htx : (txt bs a size).2 = 0 → 0 ≤ a ∧ a + size ≤ bs.length := fun e => by
    unfold txt at e
    split at e
    · rename_i hh; simp [has] at hh; omega
    · cases e
  unfold olay
  obtain ⟨⟨v, d⟩, hv⟩ : ∃ r, cell bs a = r := ⟨_, rfl⟩
  rw [hv] at hc hcd ⊢
  dsimp only at hc hcd ⊢
  obtain ⟨⟨tx, d2⟩, htv⟩ : ∃ r, txt bs a size = r := ⟨_, rfl⟩
  rw [htv] at ht htx ⊢
  dsimp only at ht htx ⊢
  obtain ⟨st, hst⟩ : ∃ st : ByteArray, ⟨tx.toArray⟩ = st := ⟨_, rfl⟩
  rw [hst] at ht
  have HC := Lib.hid hc
  have HT := Lib.hid ht
  clear h hv htv hst hc ht
  by_cases hd : d = 0
  · subst hd
    rw [if_pos rfl]
    by_cases hd2 : d2 = 0
    · subst hd2
      rw [if_pos rfl]
      obtain ⟨ha0, ha1, ha8⟩ := hcd rfl
      have hts := htx rfl
      have HX := Lib.hid (fun w h => setCell_any p g bs a c w h)
      obtain ⟨k, hk⟩ : ∃ k : Nat, size - 8 = k := ⟨(size - 8).toNat, by omega⟩
      have hr := fun w => Try.strings_Repeat ⟨#[0]⟩ k w (by omega) (by show 1 * k ≤ _; omega)
      have hrl : Lib.repeatL (ByteArray.mk #[0]).data.toList k = List.replicate k 0 := repeatL_zero k
      rw [hrl] at hr
      have hlen : (ByteArray.mk (List.replicate k (0 : UInt8)).toArray).size = k := by simp [ByteArray.size]
      have hY := fun w h => setText_any p g (setc bs a c) (a + 8) ⟨(List.replicate k 0).toArray⟩ w h (by rw [hlen]; omega)
      have hdl : (ByteArray.mk (List.replicate k (0 : UInt8)).toArray).data.toList = List.replicate k 0 := by simp
      rw [hdl] at hY
      have hco : codet (setc bs a c) (a + 8) (List.replicate k 0) = 0 := by
        unfold codet
        rw [if_pos (by rw [setc_length, List.length_replicate]; simp [has]; omega)]
      rw [hco] at hY
      rw [show (size - 8).toNat = k by omega]
      obtain ⟨st, hst⟩ : ∃ st : ByteArray, ⟨(List.replicate k 0).toArray⟩ = st := ⟨_, rfl⟩
      rw [hst] at hr hY
      have HR := Lib.hid hr
      have HY := Lib.hid hY
      have HK := Lib.hid hk
      have hab : 0 ≤ a ∧ a ≤ 1048576 := by omega
      clear hrl hlen hdl hco hst hr hY hcd htx ha1 ha8 hts
      go_enter Try.func90, Try.ntmps90
      go_wp2_with (first | (go_at_call 46; refine HC.out.mono ?_; rintro e w' ⟨rfl, h0⟩; obtain rfl := h0.symm) | (go_at_call 52; refine HT.out.mono ?_; rintro e w' ⟨rfl, h0⟩; obtain rfl := h0.symm) | (go_at_call 15; refine (HX.out _ H.out).mono ?_; rintro e w1 ⟨rfl, hm, hf⟩; have M1 := Lib.hid hm; have F1 := Lib.hid hf; clear hm hf))
      refine (HR.out _).mono ?_
      rintro e w2 ⟨rfl, hb⟩
      have F2 := Lib.hid (Fr.of_below hb (fun _ => False))
      clear hb
      go_wp2_with fail
      refine (HY.out _ (M1.out.fr F2.out id id)).mono ?_
      rintro e w3 ⟨rfl, hm, hf⟩
      have M3 := Lib.hid hm
      have F3 := Lib.hid ((F1.out.trans (Fr.some F2.out fun _ e => e.elim)).trans hf)
      clear hm hf
      go_wp2_with fail
      go_ret
      exact ⟨rfl, M3.out, F3.out⟩
    · rw [if_neg hd2]
      have hd2' : (d2 != 0) = true := by simp [hd2]
      clear hd2 hcd htx
      go_enter Try.func90, Try.ntmps90
      go_wp2_with (first | (go_at_call 46; refine HC.out.mono ?_; rintro e w' ⟨rfl, h0⟩; obtain rfl := h0.symm) | (go_at_call 52; refine HT.out.mono ?_; rintro e w' ⟨rfl, h0⟩; obtain rfl := h0.symm))
      go_ret
      exact ⟨rfl, H.out, Fr.refl _ _⟩
  · rw [if_neg hd]
    have hd' : (d != 0) = true := by simp [hd]
    clear hd hcd htx
    go_enter Try.func90, Try.ntmps90
    go_wp2_with (go_at_call 46; refine HC.out.mono ?_; rintro e w' ⟨rfl, h0⟩; obtain rfl := h0.symm)
    go_ret
    exact ⟨rfl, H.out, Fr.refl _ _⟩

/-- What Make tells, and leaves. -/
def omake (bs : List UInt8) (a c : Int) : Int × List UInt8 := if (sizev bs c).2 = 0 then olay bs a c (sizev bs c).1 else ((sizev bs c).2, bs)
theorem sizev_bd {bs : List UInt8} {c : Int} (h : (sizev bs c).2 = 0) : 8 ≤ (sizev bs c).1 ∧ (sizev bs c).1 ≤ 1048576 := by
  unfold sizev at *
  split at h
  · split at h
    · cases h
    · rename_i h1 h2
      rw [if_pos h1, if_neg h2]
      dsimp only
      omega
  · cases h

set_option maxRecDepth 100000 in
set_option maxHeartbeats 2000000 in
theorem omake_any (p g : Nat) (bs : List UInt8) (a c : Int) (w : World) (h : Mat 108 w p g bs) (hc : -9223372036854775808 ≤ c ∧ c ≤ 9223372036854775807) :
    Calls Try.prog 49 #[.pointer (some ⟨p, 0, none⟩), .int .i64 a, .int .i64 c] w fun e w' => e = .returned (.int .i64 (omake bs a c).1) ∧ Mat 108 w' p g (omake bs a c).2 ∧ Only g w w' := by
  have hs := sizeOf_any p g bs c w h hc
  have hb := @sizev_bd bs c
  have H := Lib.hid h
  unfold omake
  obtain ⟨⟨sz, d⟩, hv⟩ : ∃ r, sizev bs c = r := ⟨_, rfl⟩
  rw [hv] at hs hb ⊢
  dsimp only at hs hb ⊢
  have HS := Lib.hid hs
  clear h hv hs
  by_cases hd : d = 0
  · subst hd
    rw [if_pos rfl]
    have HL := Lib.hid (fun w h => olay_any p g bs a c sz w h (hb rfl))
    clear hb
    go_enter Try.func49, Try.ntmps49
    go_wp2_with (first | (go_at_call 88; refine HS.out.mono ?_; rintro e w1 ⟨rfl, hf⟩; have F1 := Lib.hid hf; clear hf) | (go_at_call 90; refine (HL.out _ (H.out.fr F1.out id id)).mono ?_; rintro e w2 ⟨rfl, hm, hf⟩; have M2 := Lib.hid hm; have F2 := Lib.hid ((Fr.some F1.out fun _ e => e.elim).trans hf); clear hm hf))
    go_ret
    exact ⟨rfl, M2.out, F2.out⟩
  · rw [if_neg hd]
    have hd' : (d != 0) = true := by simp [hd]
    clear hd hb
    go_enter Try.func49, Try.ntmps49
    go_wp2_with (go_at_call 88; refine HS.out.mono ?_; rintro e w1 ⟨rfl, hf⟩; have F1 := Lib.hid hf; clear hf)
    go_ret
    exact ⟨rfl, H.out.fr F1.out id id, Fr.some F1.out fun _ e => e.elim⟩

/-! What the statement asks of Dict and Heap besides. -/
set_option maxRecDepth 100000 in
set_option maxHeartbeats 1000000 in
theorem odict_nil (c : Int) (w : World) : Calls Try.prog 42 #[.pointer none, .int .i64 c] w fun e w' => e = .returned (.tuple #[.int .i64 0, .int .i64 (-256)]) ∧ w' = w := by
  go_enter Try.func42, Try.ntmps42
  go_wp2
  go_ret2
  exact ⟨rfl, rfl⟩

set_option maxRecDepth 100000 in
set_option maxHeartbeats 1000000 in
theorem odict_none (b p g a z x : Nat) (bs : List UInt8) (c : Int) (w : World) (h : Sat w b p g a z x bs) (hc : -9223372036854775808 ≤ c ∧ c ≤ 9223372036854775807) (hd : (sizev bs c).2 = -2048) :
    Calls Try.prog 42 #[.pointer (some ⟨b, 0, none⟩), .int .i64 c] w fun e w' => e = .returned (.tuple #[.int .i64 0, .int .i64 (-2048)]) ∧ Fr (fun _ => False) w w' := by
  obtain ⟨q0, q1, q2, q3⟩ := h.cells
  have hs := sizeOf_any p g bs c w h.mat hc
  rw [hd] at hs
  have HS := Lib.hid hs
  clear h hs hd
  go_enter Try.func42, Try.ntmps42
  go_wp2_with (go_at_call 88; refine HS.out.mono ?_; rintro e w1 ⟨rfl, hf⟩; have F1 := Lib.hid hf; clear hf)
  go_ret2
  exact ⟨rfl, F1.out⟩

set_option maxRecDepth 100000 in
set_option maxHeartbeats 1000000 in
theorem alloc_nil (n : Int) (w : World) : Calls Try.prog 89 #[.pointer none, .int .i64 n] w fun e w' => e = .returned (.tuple #[.int .i64 0, .int .i64 (-256)]) ∧ w' = w := by
  go_enter Try.func89, Try.ntmps89
  go_wp2
  go_ret2
  exact ⟨rfl, rfl⟩

set_option maxRecDepth 100000 in
set_option maxHeartbeats 1000000 in
theorem oheap_nil (p g : Nat) (bs : List UInt8) (c : Int) (w : World) (h : Mat 108 w p g bs) (hc : -9223372036854775808 ≤ c ∧ c ≤ 9223372036854775807) (hd : (sizev bs c).2 = 0) :
    Calls Try.prog 40 #[.pointer none, .pointer (some ⟨p, 0, none⟩), .int .i64 c] w fun e w' => e = .returned (.tuple #[.int .i64 0, .int .i64 (-256)]) ∧ Fr (fun _ => False) w w' := by
  have hs := sizeOf_any p g bs c w h hc
  rw [hd] at hs
  have HS := Lib.hid hs
  clear h hs hd
  go_enter Try.func40, Try.ntmps40
  go_wp2_with (first | (go_at_call 88; refine HS.out.mono ?_; rintro e w1 ⟨rfl, hf⟩; have F1 := Lib.hid hf; clear hf) | (go_at_call 89; refine (alloc_nil _ _).mono ?_; rintro e w' ⟨rfl, h0⟩; obtain rfl := h0.symm))
  go_ret2
  exact ⟨rfl, F1.out⟩
end Go.Proofs.Ytajeiccfgnpbpaa.Mem
