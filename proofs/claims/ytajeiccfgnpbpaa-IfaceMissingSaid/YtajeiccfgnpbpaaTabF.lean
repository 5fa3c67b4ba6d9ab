/- Contracts of package table: Copy. -/
import Derived.Test.YtajeiccfgnpbpaaTabE
namespace Go.Proofs.Ytajeiccfgnpbpaa.Mem
open Go.RowKit

theorem newv_inv (z x : Nat) (bs : List UInt8) (n : Int) (h : x ≤ z) : x ≤ (newv z x bs n).2.1 ∧ (newv z x bs n).2.1 ≤ z ∧ (x % 8 = 0 → (newv z x bs n).2.1 % 8 = 0) ∧ (newv z x bs n).2.2.length = bs.length := by
  unfold newv
  have := layt_inv z x bs n.toNat h
  split
  · split
    · exact ⟨this.1, this.2.1, fun e => by have := this.2.2.1; dsimp only; omega, this.2.2.2⟩
    · exact ⟨Nat.le_refl _, h, id, this.2.2.2⟩
  · exact ⟨Nat.le_refl _, h, id, rfl⟩

/-- What Copy tells, where allocation stands then, and the bytes. -/
def copyv (z x : Nat) (bs : List UInt8) (t : Int) : (Int × Int) × Nat × List UInt8 :=
  if (newv z x bs (slots bs t)).1.2 = 0 then (((newv z x bs (slots bs t)).1.1, 0), (newv z x bs (slots bs t)).2.1, sett (newv z x bs (slots bs t)).2.2 (newv z x bs (slots bs t)).1.1 (txt (newv z x bs (slots bs t)).2.2 t (16 + slots bs t * 24)).1)
  else ((0, (newv z x bs (slots bs t)).1.2), (newv z x bs (slots bs t)).2.1, (newv z x bs (slots bs t)).2.2)

set_option maxRecDepth 100000 in
set_option maxHeartbeats 2000000 in
theorem tcopy_any (b p g a z x : Nat) (t : Int) (bs : List UInt8) (w : World) (h : Sat w b p g a z x bs) (h8 : x % 8 = 0) :
    Calls Try.prog 13 #[.pointer (some ⟨b, 0, none⟩), .int .i64 t] w
      fun e w' => e = .returned (.tuple #[.int .i64 (copyv z x bs t).1.1, .int .i64 (copyv z x bs t).1.2]) ∧ Sat w' b p g a z (copyv z x bs t).2.1 (copyv z x bs t).2.2 ∧ Both b g w w' := by
  have H := Lib.hid h
  have HS := Lib.hid (slots_any p g bs t w h.mat)
  have hsb := slots_bd bs t
  have hinv := newv_inv z x bs (slots bs t) h.bd.2.1
  have hbd := h.bd
  have hc0 := h.cells.1
  unfold copyv
  obtain ⟨n, hn⟩ : ∃ n, slots bs t = n := ⟨_, rfl⟩
  rw [hn] at HS hsb hinv ⊢
  have HN := Lib.hid (tnew_any b p g a z x n bs w h h8)
  obtain ⟨⟨⟨c, e0⟩, y, cs⟩, hr⟩ : ∃ r, newv z x bs n = r := ⟨_, rfl⟩
  rw [hr] at HN hinv ⊢
  dsimp only at *
  have HZ := Lib.hid (fun w => tsize_any n (by omega) w)
  have HT := Lib.hid (fun w h => text_any p g cs t (16 + n * 24) w h (by omega) (by omega))
  have hcl : cs.length ≤ 1048576 := by omega
  have htl := txt_length cs t (16 + n * 24)
  obtain ⟨⟨tx, e1⟩, ht⟩ : ∃ r, txt cs t (16 + n * 24) = r := ⟨_, rfl⟩
  rw [ht] at HT htl ⊢
  dsimp only at *
  have hsz : (ByteArray.mk tx.toArray).size ≤ 1048576 := by
    have : (ByteArray.mk tx.toArray).size = tx.length := by simp [ByteArray.size]
    omega
  have HX := Lib.hid (fun w h => setText_any p g cs c ⟨tx.toArray⟩ w h hsz)
  have hl : (ByteArray.mk tx.toArray).data.toList = tx := by simp
  rw [hl] at HX
  have HSL := Lib.hid (sett_length cs c tx)
  obtain ⟨st, hst⟩ : ∃ st : ByteArray, ⟨tx.toArray⟩ = st := ⟨_, rfl⟩
  rw [hst] at HX HT
  clear h hn hr ht hinv hbd htl hsz hl hst hcl
  by_cases hz : e0 = 0
  · subst hz
    rw [if_pos rfl]
    go_enter Try.func13, Try.ntmps13
    go_wp2_with (first | (go_at_call 50; refine HS.out.mono ?_; rintro e w' ⟨rfl, h0⟩; obtain rfl := h0.symm) | (go_at_call 17; refine HN.out.mono ?_; rintro e w1 ⟨rfl, hs, hf⟩; obtain ⟨q0, _, _, _⟩ := hs.cells; have HS1 := Lib.hid hs; have HF1 := Lib.hid hf; clear hs hf))
    go_region_with (first | (go_at_call 53; refine (HZ.out _).mono ?_; rintro e w' ⟨rfl, h0⟩; obtain rfl := h0.symm) | (go_at_call 52; refine (HT.out _ (Mat.drew HS1.out.mat)).mono ?_; rintro e w' ⟨rfl, h0⟩; obtain rfl := h0.symm))
    all_goals
      go_wp2_with (go_at_call 44; refine (HX.out _ (Mat.drew HS1.out.mat)).mono ?_; rintro e w2 ⟨rfl, hm, hf⟩; have HM2 := Lib.hid hm; have HF2 := Lib.hid (Fr.undrew hf); clear hm hf)
      go_ret2
      exact ⟨rfl, HS1.out.wrote HF2.out HM2.out HSL.out, HF1.out.trans (Fr.some HF2.out fun _ e => .inr e)⟩
  · rw [if_neg hz]
    have hz' : (e0 != 0) = true := by simp [hz]
    go_enter Try.func13, Try.ntmps13
    go_wp2_with (first | (go_at_call 50; refine HS.out.mono ?_; rintro e w' ⟨rfl, h0⟩; obtain rfl := h0.symm) | (go_at_call 17; refine HN.out.mono ?_; rintro e w1 ⟨rfl, hs, hf⟩; have HS1 := Lib.hid hs; have HF1 := Lib.hid hf; clear hs hf))
    go_ret2
    exact ⟨rfl, HS1.out, HF1.out⟩
end Go.Proofs.Ytajeiccfgnpbpaa.Mem
