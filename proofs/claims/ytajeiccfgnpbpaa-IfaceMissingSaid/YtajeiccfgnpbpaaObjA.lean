/- Contracts of package object: sizeOf, Class, Send. -/
import Derived.Test.YtajeiccfgnpbpaaClsD
namespace Go.Proofs.Ytajeiccfgnpbpaa.Mem
open Go.RowKit

/-- What sizeOf tells: how many bytes objects of a class have, and the code. -/
def sizev (bs : List UInt8) (c : Int) : Int × Int :=
  if isCl bs c = true then (if (clv bs c).size < 8 ∨ 1048576 < (clv bs c).size then (0, -256) else ((clv bs c).size, 0)) else (0, -2048)

set_option maxRecDepth 100000 in
set_option maxHeartbeats 2000000 in
theorem sizeOf_any (p g : Nat) (bs : List UInt8) (c : Int) (w : World) (h : Mat 108 w p g bs) (hc : -9223372036854775808 ≤ c ∧ c ≤ 9223372036854775807) :
    Calls Try.prog 88 #[.pointer (some ⟨p, 0, none⟩), .int .i64 c] w fun e w' => e = .returned (.tuple #[.int .i64 (sizev bs c).1, .int .i64 (sizev bs c).2]) ∧ Fr (fun _ => False) w w' := by
  have hr := cread_any p g bs c w h hc
  unfold sizev
  by_cases hi : isCl bs c = true
  · rw [if_pos hi]
    rw [hi] at hr
    obtain ⟨⟨k0, k1, k2, k3, k4⟩, hk⟩ : ∃ r, clv bs c = r := ⟨_, rfl⟩
    rw [hk] at hr ⊢
    dsimp only
    simp only [clval] at hr
    have HR := Lib.hid hr
    clear h hi hk hr
    by_cases h1 : k2 < 8
    · rw [if_pos (.inl h1)]
      go_enter Try.func88, Try.ntmps88
      go_wp2_with fail
      refine HR.out.mono ?_
      rintro e w1 ⟨rfl, hf⟩
      have F1 := Lib.hid hf
      clear hf
      go_wp2_with fail
      go_ret2
      exact ⟨rfl, F1.out.alloc _⟩
    · by_cases h2 : 1048576 < k2
      · rw [if_pos (.inr h2)]
        go_enter Try.func88, Try.ntmps88
        go_wp2_with fail
        refine HR.out.mono ?_
        rintro e w1 ⟨rfl, hf⟩
        have F1 := Lib.hid hf
        clear hf
        go_wp2_with fail
        go_ret2
        exact ⟨rfl, F1.out.alloc _⟩
      · rw [if_neg (by omega)]
        go_enter Try.func88, Try.ntmps88
        go_wp2_with fail
        refine HR.out.mono ?_
        rintro e w1 ⟨rfl, hf⟩
        have F1 := Lib.hid hf
        clear hf
        go_wp2_with fail
        go_ret2
        exact ⟨rfl, F1.out.alloc _⟩
  · have hi' : isCl bs c = false := by simpa using hi
    rw [if_neg hi]
    rw [hi', clv_none hi'] at hr
    simp only [clval] at hr
    have HR := Lib.hid hr
    clear h hi hi' hr
    go_enter Try.func88, Try.ntmps88
    go_wp2_with fail
    refine HR.out.mono ?_
    rintro e w1 ⟨rfl, hf⟩
    have F1 := Lib.hid hf
    clear hf
    go_wp2_with fail
    go_ret2
    exact ⟨rfl, F1.out.alloc _⟩

/-- What Class tells. -/
def ocls (bs : List UInt8) (root a : Int) : Int × Int := if (cell bs a).2 = 0 ∧ isIn bs root (cell bs a).1 = true then ((cell bs a).1, 0) else (0, -2048)

set_option maxRecDepth 100000 in
set_option maxHeartbeats 2000000 in
theorem ocls_any (p g : Nat) (bs : List UInt8) (root a : Int) (w : World) (h : Mat 108 w p g bs) :
    Calls Try.prog 47 #[.pointer (some ⟨p, 0, none⟩), .int .i64 root, .int .i64 a] w fun e w' => e = .returned (.tuple #[.int .i64 (ocls bs root a).1, .int .i64 (ocls bs root a).2]) ∧ Fr (fun _ => False) w w' := by
  have hc := cell_any p g bs a w h
  have hI := fun c => is_any p g bs root c w h
  unfold ocls
  obtain ⟨⟨c, d⟩, hcd⟩ : ∃ r, cell bs a = r := ⟨_, rfl⟩
  rw [hcd] at hc ⊢
  dsimp only
  replace hI := hI c
  have HC := Lib.hid hc
  clear h hcd hc
  by_cases hd : d = 0
  · subst hd
    by_cases hi : isIn bs root c = true
    · rw [if_pos ⟨rfl, hi⟩]
      rw [hi] at hI
      have HI := Lib.hid hI
      clear hi hI
      go_enter Try.func47, Try.ntmps47
      go_wp2_with (first | (go_at_call 46; refine HC.out.mono ?_; rintro e w' ⟨rfl, h0⟩; obtain rfl := h0.symm) | (go_at_call 27; refine HI.out.mono ?_; rintro e w1 ⟨rfl, hf⟩; have F1 := Lib.hid hf; clear hf))
      go_ret2
      exact ⟨rfl, F1.out⟩
    · have hi' : isIn bs root c = false := by simpa using hi
      rw [if_neg (fun e => hi e.2)]
      rw [hi'] at hI
      have HI := Lib.hid hI
      clear hi hi' hI
      go_enter Try.func47, Try.ntmps47
      go_wp2_with (first | (go_at_call 46; refine HC.out.mono ?_; rintro e w' ⟨rfl, h0⟩; obtain rfl := h0.symm) | (go_at_call 27; refine HI.out.mono ?_; rintro e w1 ⟨rfl, hf⟩; have F1 := Lib.hid hf; clear hf))
      go_ret2
      exact ⟨rfl, F1.out⟩
  · rw [if_neg (fun e => hd e.1)]
    have hd' : (d != 0) = true := by simp [hd]
    clear hI hd
    go_enter Try.func47, Try.ntmps47
    go_wp2_with (go_at_call 46; refine HC.out.mono ?_; rintro e w' ⟨rfl, h0⟩; obtain rfl := h0.symm)
    go_ret2
    exact ⟨rfl, Fr.refl _ _⟩

/-- What Send tells: the method, how many slots were looked at, the code. -/
def osend (bs : List UInt8) (root a sel : Int) : Int × Int × Int :=
  if (ocls bs root a).2 = 0 then (if (lookv bs (ocls bs root a).1 sel).2.2 = true then ((lookv bs (ocls bs root a).1 sel).1.xt, (lookv bs (ocls bs root a).1 sel).2.1, 0) else (0, 0, -2049)) else (0, 0, (ocls bs root a).2)

theorem ocls_bd (bs : List UInt8) (root a : Int) : -9223372036854775808 ≤ (ocls bs root a).1 ∧ (ocls bs root a).1 ≤ 9223372036854775807 := by
  unfold ocls
  split
  · exact cell_bd' bs a
  · simp

set_option maxRecDepth 100000 in
set_option maxHeartbeats 2000000 in
theorem osend_any (p g : Nat) (bs : List UInt8) (root a sel : Int) (w : World) (h : Mat 108 w p g bs) :
    Calls Try.prog 48 #[.pointer (some ⟨p, 0, none⟩), .int .i64 root, .int .i64 a, .int .i64 sel] w fun e w' => e = .returned (.tuple #[.int .i64 (osend bs root a sel).1, .int .i64 (osend bs root a sel).2.1, .int .i64 (osend bs root a sel).2.2]) ∧ Fr (fun _ => False) w w' := by
  have hc := ocls_any p g bs root a w h
  have hl := fun c w h hc => clookup_any p g bs c sel w h hc
  have hb := ocls_bd bs root a
  have H := Lib.hid h
  unfold osend
  obtain ⟨⟨c, d⟩, hcd⟩ : ∃ r, ocls bs root a = r := ⟨_, rfl⟩
  rw [hcd] at hc hb ⊢
  dsimp only at hc hb ⊢
  replace hl := fun w h => hl c w h hb
  have HC := Lib.hid hc
  clear h hcd hc hb
  by_cases hd : d = 0
  · subst hd
    rw [if_pos rfl]
    obtain ⟨⟨⟨e0, e1, e2⟩, n, ok⟩, hv⟩ : ∃ v, lookv bs c sel = v := ⟨_, rfl⟩
    rw [hv] at hl ⊢
    simp only [entv] at hl
    dsimp only
    have HL := Lib.hid hl
    clear hv hl
    cases ok with
    | true =>
      rw [if_pos rfl]
      go_enter Try.func48, Try.ntmps48
      go_wp2_with (first | (go_at_call 47; refine HC.out.mono ?_; rintro e w1 ⟨rfl, hf⟩; have F1 := Lib.hid hf; clear hf) | (go_at_call 77; refine (HL.out _ (H.out.fr F1.out id id)).mono ?_; rintro e w2 ⟨rfl, hf⟩; have F2 := Lib.hid (F1.out.trans hf); clear hf))
      go_ret3
      exact ⟨rfl, F2.out.alloc _⟩
    | false =>
      rw [if_neg (by decide)]
      go_enter Try.func48, Try.ntmps48
      go_wp2_with (first | (go_at_call 47; refine HC.out.mono ?_; rintro e w1 ⟨rfl, hf⟩; have F1 := Lib.hid hf; clear hf) | (go_at_call 77; refine (HL.out _ (H.out.fr F1.out id id)).mono ?_; rintro e w2 ⟨rfl, hf⟩; have F2 := Lib.hid (F1.out.trans hf); clear hf))
      go_ret3
      exact ⟨rfl, F2.out.alloc _⟩
  · rw [if_neg hd]
    have hd' : (d != 0) = true := by simp [hd]
    clear hl hd
    go_enter Try.func48, Try.ntmps48
    go_wp2_with (go_at_call 47; refine HC.out.mono ?_; rintro e w1 ⟨rfl, hf⟩; have F1 := Lib.hid hf; clear hf)
    go_ret3
    exact ⟨rfl, F1.out⟩
end Go.Proofs.Ytajeiccfgnpbpaa.Mem
