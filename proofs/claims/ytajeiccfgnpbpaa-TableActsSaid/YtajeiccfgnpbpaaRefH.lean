/- Contracts of the document's answers for tables: All, Copy. -/
import Derived.Test.YtajeiccfgnpbpaaRefG
namespace Go.Proofs.Ytajeiccfgnpbpaa.Mem
open Go.RowKit

theorem infoREnt : (Try.prog.info? 48).map (fun i => (i.zero, i.size, i.bytes)) = some (some (.agg #[.int .i64 0, .int .i64 0, .int .i64 0]), 3, 24) := by kernel_rfl

set_option maxRecDepth 100000 in
set_option maxHeartbeats 2000000 in
theorem rall_any (p g : Nat) (bs : List UInt8) (t : Int) (w : World) (h : Mat 112 w p g bs) :
    Calls Try.prog 74 #[.pointer (some ⟨p, 0, none⟩), .int .i64 t] w
      fun e w' => ∃ v, e = .returned v ∧ w'.ownsRow w.heap.size 48 3 v (all bs t).length (ents (all bs t)) ∧ Fr (fun _ => False) w w' := by
  obtain ⟨i0, hi, hz0, hz1, hz2⟩ := info_parts infoREnt
  have HI := Lib.hid hi
  have HZ := Lib.hid (And.intro hz0 (And.intro hz1 hz2))
  clear hi hz0 hz1 hz2
  have HS := Lib.hid (rslots_any p g bs t w h)
  have H := Lib.hid h
  have hsb := slots_bd bs t
  have hin := @slots_in bs t
  have hbl := h.2.2.2
  unfold all
  obtain ⟨n, hn⟩ : ∃ n : Nat, slots bs t = n := ⟨(slots bs t).toNat, by omega⟩
  rw [hn] at HS hsb hin ⊢
  rw [Int.toNat_natCast]
  have HR := Lib.hid (fun i w h ha => rread_any p g bs t i w h ha)
  have HIn := Lib.hid hin
  have hnb : n ≤ 1024 := by omega
  clear h hn hin hsb
  go_enter Try.func74, Try.ntmps74
  go_wp2_with (go_at_call 54; refine HS.out.mono ?_; rintro e w' ⟨rfl, h0⟩; obtain rfl := h0.symm)
  go_loopw [5, 7] (fun v iv wr => ∃ k : Nat, k ≤ n ∧ iv = .int .i64 k ∧ wr.ownsRow w.heap.size 48 3 v (allk bs t k).length (ents (allk bs t k)) ∧ Fr (fun _ => False) w wr) (fun _ iv _ => n - (intOf iv).toNat)
  case atStart => exact ⟨0, by omega, rfl, World.ownsRow_nil _ _ _ _, Fr.refl _ _⟩
  case round =>
    obtain ⟨k, hk, rfl, hO, hF⟩ := hrel
    have hal := allk_length bs t k
    have HO := Lib.hid hO
    have HF := Lib.hid hF
    have HK := Lib.hid (show allk bs t (k + 1) = if (read bs (slotAt t k)).sel = 0 then allk bs t k else allk bs t k ++ [read bs (slotAt t k)] from rfl)
    clear hO hF
    obtain ⟨L, hL⟩ : ∃ L, allk bs t k = L := ⟨_, rfl⟩
    rw [hL] at HO HK hal
    have HLL := Lib.hid hL
    clear hL
    by_cases hlt : k < n
    · have hin := HIn.out (by omega)
      have HR2 := Lib.hid (fun w h => HR.out k w h (by omega))
      obtain ⟨⟨r0, r1, r2⟩, hr⟩ : ∃ r, read bs (slotAt t k) = r := ⟨_, rfl⟩
      rw [hr] at HR2 HK
      simp only [entv] at HR2 HK
      clear hr hin
      by_cases hz : r0 = 0
      · rw [if_pos hz] at HK
        subst hz
        go_wp2_with (go_at_call 65; refine (HR2.out _ (H.out.fr HF.out id id)).mono ?_; rintro e w1 ⟨rfl, hf⟩; have HF1 := Lib.hid hf; clear hf)
        go_roundw
        case rel => exact ⟨k + 1, by omega, by go_num, by rw [HK.out]; exact (HF1.out.owns HO.out (fun _ _ => id)).alloc _, (HF.out.trans HF1.out).alloc _⟩
        case measure => simp only [intOf]; omega
      · rw [if_neg hz] at HK
        have hz' : (r0 != 0) = true := by simp [hz]
        clear hz
        go_wp2_with (first | (go_at_call 65; refine (HR2.out _ (H.out.fr HF.out id id)).mono ?_; rintro e w1 ⟨rfl, hf⟩; have HF1 := Lib.hid hf; have hls := (HF.out.trans hf).size; have HT := Lib.hid (cell_three_new2 w1 (.cells #[.int .i64 r0, .int .i64 r1, .int .i64 r2] 48) (.int .i64 r0) (.int .i64 r1) (.int .i64 r2) 48); clear hf) | (at_builtin; refine wpList_append_own _ rfl (.tmp 24) (.tmp 26) 132 rfl w.heap.size 48 i0 _ 3 24 Try.underlying132 HI.out HZ.out.1 HZ.out.2.1 HZ.out.2.2 rfl (by decide) _ L.length (ents L) rfl (((HF1.out.owns HO.out (fun _ _ => id)).alloc _).alloc _) ⟨_, 0, none⟩ 1 1 [.int .i64 r0, .int .i64 r1, .int .i64 r2] rfl rfl HT.out (by simp [Value.oneCell']) (by unfold maxLen; omega) (by omega) (by simp; omega) ?_; intro v2 w3 hown2 hgrow2 _; have HV2 := Lib.hid hown2; have HF3 := Lib.hid (Fr.grown (((HF.out.trans HF1.out).alloc _).alloc _) hgrow2 (fun j hj => .inl (HO.out.lt j hj).1)); clear hown2 hgrow2))
        go_roundw
        case rel => exact ⟨k + 1, by omega, by go_num, by rw [HK.out, ents_snoc, List.length_append]; exact HV2.out, HF3.out⟩
        case measure => simp only [intOf]; omega
    · obtain rfl : k = n := by omega
      go_wp2
      go_ret
      exact ⟨_, rfl, by rw [HLL.out]; exact HO.out, HF.out⟩

set_option maxRecDepth 100000 in
set_option maxHeartbeats 2000000 in
theorem rtcopy_any (b p g a z x : Nat) (t : Int) (bs : List UInt8) (w : World) (h : Rat w b p g a z x bs) (h8 : x % 8 = 0) :
    Calls Try.prog 14 #[.pointer (some ⟨b, 0, none⟩), .int .i64 t] w
      fun e w' => e = .returned (.tuple #[.int .i64 (copyv z x bs t).1.1, .int .i64 (copyv z x bs t).1.2]) ∧ Rat w' b p g a z (copyv z x bs t).2.1 (copyv z x bs t).2.2 ∧ Both b g w w' := by
  have H := Lib.hid h
  have HS := Lib.hid (rslots_any p g bs t w h.mat)
  have hsb := slots_bd bs t
  have hinv := newv_inv z x bs (slots bs t) h.bd.2.1
  have hbd := h.bd
  have hc0 := h.cells.1
  unfold copyv
  obtain ⟨n, hn⟩ : ∃ n, slots bs t = n := ⟨_, rfl⟩
  rw [hn] at HS hsb hinv ⊢
  have HN := Lib.hid (rtnew_any b p g a z x n bs w h h8)
  obtain ⟨⟨⟨c, e0⟩, y, cs⟩, hr⟩ : ∃ r, newv z x bs n = r := ⟨_, rfl⟩
  rw [hr] at HN hinv ⊢
  dsimp only at *
  have HT := Lib.hid (fun w h => rtext_any p g cs t (16 + 24 * n) w h)
  rw [show 16 + n * 24 = 16 + 24 * n by omega]
  have hcl : cs.length ≤ 1048576 := by omega
  have htl := txt_length cs t (16 + 24 * n)
  obtain ⟨⟨tx, e1⟩, ht⟩ : ∃ r, txt cs t (16 + 24 * n) = r := ⟨_, rfl⟩
  rw [ht] at HT htl ⊢
  dsimp only at *
  have hsz : (ByteArray.mk tx.toArray).size ≤ 1048576 := by
    have : (ByteArray.mk tx.toArray).size = tx.length := by simp [ByteArray.size]
    omega
  have HX := Lib.hid (fun w h => rsetText_any p g cs c ⟨tx.toArray⟩ w h hsz)
  have hl : (ByteArray.mk tx.toArray).data.toList = tx := by simp
  rw [hl] at HX
  have HSL := Lib.hid (sett_length cs c tx)
  obtain ⟨st, hst⟩ : ∃ st : ByteArray, ⟨tx.toArray⟩ = st := ⟨_, rfl⟩
  rw [hst] at HX HT
  clear h hn hr ht hinv hbd htl hsz hl hst hcl
  by_cases hz : e0 = 0
  · subst hz
    rw [if_pos rfl]
    go_enter Try.func14, Try.ntmps14
    go_wp2_with (first | (go_at_call 54; refine HS.out.mono ?_; rintro e w' ⟨rfl, h0⟩; obtain rfl := h0.symm) | (go_at_call 18; refine HN.out.mono ?_; rintro e w1 ⟨rfl, hs, hf⟩; obtain ⟨q0, _, _, _⟩ := hs.cells; have HS1 := Lib.hid hs; have HF1 := Lib.hid hf; clear hs hf) | (go_at_call 55; refine (HT.out _ HS1.out.mat).mono ?_; rintro e w' ⟨rfl, h0⟩; obtain rfl := h0.symm) | (go_at_call 56; refine (HX.out _ HS1.out.mat).mono ?_; rintro e w2 ⟨rfl, hm, hf⟩; have HM2 := Lib.hid hm; have HF2 := Lib.hid hf; clear hm hf))
    go_ret2
    exact ⟨rfl, HS1.out.wrote HF2.out HM2.out HSL.out, HF1.out.trans (Fr.some HF2.out fun _ e => .inr e)⟩
  · rw [if_neg hz]
    have hz' : (e0 != 0) = true := by simp [hz]
    go_enter Try.func14, Try.ntmps14
    go_wp2_with (first | (go_at_call 54; refine HS.out.mono ?_; rintro e w' ⟨rfl, h0⟩; obtain rfl := h0.symm) | (go_at_call 18; refine HN.out.mono ?_; rintro e w1 ⟨rfl, hs, hf⟩; have HS1 := Lib.hid hs; have HF1 := Lib.hid hf; clear hs hf))
    go_ret2
    exact ⟨rfl, HS1.out, HF1.out⟩
end Go.Proofs.Ytajeiccfgnpbpaa.Mem
