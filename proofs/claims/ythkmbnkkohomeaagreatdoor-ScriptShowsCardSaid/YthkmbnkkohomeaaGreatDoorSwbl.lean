/- Several texts in one: RfB, ShA. -/
import Derived.Test.YthkmbnkkohomeaaGreatDoorSwbk
set_option linter.unusedSimpArgs false
set_option linter.unusedVariables false
/- The document's Show of layer 22: any result as a text. -/
namespace Go.Proofs.YthkmbnkkohomeaaGreatDoor.Mem
open Go.RowKit

def RShowPost (l : List UInt8) (w : World) (e : Ending) (w' : World) : Prop := ∃ s : ByteArray, e = .returned (.string s) ∧ s.data.toList = l ∧ Fr (fun _ => False) w w'

set_option maxRecDepth 100000 in
set_option maxHeartbeats 4000000 in
theorem r22show_ok (code left : Int) (l : List Int) (out : ByteArray) (a : Option Addr) (cap : Nat) (w : World) (hc : I64 code) (hl : I64 left) (hs : l.length ≤ 100) (ho : out.size ≤ 200000)
    (hr : ∀ n ∈ l, I64 n)
    (hcell : ∀ i, i < l.length → ∃ A : Addr, a = some A ∧ w.cell? (A.add i) = some (.int .i64 (l.getD i 0))) :
    Calls Tryz.prog 10 #[.int .i64 code, .slice a l.length cap, .int .i64 left, .string out] w fun e w' => RShowPost (shw code left l out.data.toList) w e w' := by
  have HD := Lib.hid (fun n (hn : I64 n) W => rshow_ok n hn W)
  obtain ⟨L, hL⟩ : ∃ L, shw code left l out.data.toList = L := ⟨_, rfl⟩
  rw [hL]
  have HLL := Lib.hid hL
  clear hL
  obtain ⟨ln, hln⟩ : ∃ k, l.length = k := ⟨_, rfl⟩
  rw [hln] at hs ⊢
  have HL := Lib.hid hln
  have HC := Lib.hid hcell
  have HR := Lib.hid hr
  have HLf := Lib.hid hl
  have HCd := Lib.hid hc
  clear hln hc hl hr hcell
  go_enter Tryz.func10, Tryz.ntmps10
  go_wp2_with (go_at_call 20; refine (HD.out code HCd.out _).mono ?_; rintro e w3 ⟨s1, rfl, hs1, hz1, f3⟩; have HS1 := Lib.hid hs1; have F3 := Lib.hid f3; clear hs1 f3)
  obtain ⟨pre, hpre⟩ : ∃ p, (⟨#[99, 111, 100, 101, 32]⟩ ++ s1 ++ ⟨#[10, 115, 116, 97, 99, 107]⟩ : ByteArray) = p := ⟨_, rfl⟩
  have hpl : pre.size ≤ 40 := by
    rw [← hpre, ByteArray.size_append, ByteArray.size_append]
    have e1 : (⟨#[99, 111, 100, 101, 32]⟩ : ByteArray).size = 5 := rfl
    have e2 : (⟨#[10, 115, 116, 97, 99, 107]⟩ : ByteArray).size = 6 := rfl
    omega
  have HPRE := Lib.hid hpre
  have HPL := Lib.hid hpl
  rw [hpre]
  clear hpre hpl
  go_loopw [10, 9] (fun iv sv wr => ∃ (i : Nat) (s : ByteArray), i ≤ ln ∧ iv = .int .i64 i ∧ sv = .string s ∧ s.data.toList = pre.data.toList ++ shStack (l.take i) ∧ s.size ≤ 40 + 30 * i ∧ Fr (fun _ => False) w wr) (fun iv _ _ => ln - (intOf iv).toNat)
  case atStart => exact ⟨0, pre, Nat.zero_le _, rfl, rfl, by simp [shStack], by have := HPL.out; omega, F3.out⟩
  case round =>
    obtain ⟨i, s, hi, rfl, rfl, hst, hsz, hF⟩ := hrel
    have HST := Lib.hid hst
    have HFW := Lib.hid hF
    have hsz' : s.size ≤ 4000 := by omega
    have HSZ := Lib.hid hsz
    by_cases hlt : i < ln
    · have hlt' : (i : Int) < ln := by omega
      obtain ⟨A, hab, hcb⟩ := HC.out i (by have := HL.out; omega)
      subst hab
      have hcw := hF.cell hcb id
      have hn : I64 (l.getD i 0) := HR.out _ (by rw [List.getD_eq_getElem?_getD, List.getElem?_eq_getElem (by have := HL.out; omega)]; exact List.getElem_mem _)
      obtain ⟨nv, hnv⟩ : ∃ v, l.getD i 0 = v := ⟨_, rfl⟩
      rw [hnv] at hcw hn
      have HNV := Lib.hid hnv
      have HDi := Lib.hid (HD.out nv hn)
      clear hF hcb hnv hst hsz
      go_wp2_with (go_at_call 20; refine (HDi.out _).mono ?_; rintro e w5 ⟨s5, rfl, hs5, hz5, f5⟩; have HS5 := Lib.hid hs5; have F5 := Lib.hid (HFW.out.trans f5); clear hs5 f5)
      go_roundw
      case rel =>
        refine ⟨i + 1, _, by omega, by go_num, rfl, ?_, ?_, F5.out⟩
        · rw [cat_toList, cat_toList, HST.out, HS5.out, shStack_snoc l i (by have := HL.out; omega), HNV.out]
          simp
        · rw [ByteArray.size_append, ByteArray.size_append]
          have e1 : (⟨#[32]⟩ : ByteArray).size = 1 := rfl
          have := HSZ.out
          omega
      case measure => simp only [intOf]; omega
    · have hlt' : decide ((i : Int) < ln) = false := by simp; omega
      obtain rfl : i = ln := by omega
      have htk : l.take i = l := List.take_of_length_le (by have := HL.out; omega)
      rw [htk] at HST
      have HDl := Lib.hid (HD.out left HLf.out)
      clear hF htk hlt hst hsz
      go_wp2_with (go_at_call 20; refine (HDl.out _).mono ?_; rintro e w5 ⟨s5, rfl, hs5, hz5, f5⟩; have HS5 := Lib.hid hs5; have F5 := Lib.hid (HFW.out.trans f5); clear hs5 f5)
      go_ret
      refine ⟨_, rfl, ?_, F5.out⟩
      rw [← HLL.out, cat_toList, cat_toList, cat_toList, cat_toList, HST.out, HS5.out, ← HPRE.out, cat_toList, cat_toList, HS1.out]
      simp [shw]
end Go.Proofs.YthkmbnkkohomeaaGreatDoor.Mem

/- The law ScriptShows. -/
namespace Go.Proofs.YthkmbnkkohomeaaGreatDoor.Mem
open Go.RowKit Go.Maps

theorem wrap_I64 (x : Int) : I64 (IntKind.i64.wrap x) := by
  unfold I64 IntKind.wrap
  simp [IntKind.bits, IntKind.signed]
  omega

set_option maxRecDepth 100000 in
set_option maxHeartbeats 2000000 in
theorem shows_law (code : Int) (hc : I64 code) (l : List Int) (out : ByteArray) (a : Option Addr) (cap : Nat) (w : World) (hk : Kn w) (hr : ∀ n ∈ l, I64 n) (hlm : l.length ≤ 9223372036854775807) (hom : out.size ≤ 9223372036854775807)
    (hcell : ∀ i, i < l.length → ∃ A : Addr, a = some A ∧ w.cell? (A.add i) = some (.int .i64 (l.getD i 0))) :
    Calls Tryz.prog 4 #[.int .i64 code, .slice a l.length cap, .string out] w fun e w' => LivesPost w e w' := by
  have HLV := Lib.hid (fun W (hW : Fr (fun _ => False) w W) => lives22 W (hk.fr hW))
  have HK := Lib.hid hk
  have HC := Lib.hid hcell
  have HR := Lib.hid hr
  have HCO := Lib.hid hc
  by_cases hbig : 100 < l.length
  · obtain ⟨ln, hln⟩ : ∃ k, l.length = k := ⟨_, rfl⟩
    rw [hln] at hbig hlm ⊢
    have hb : (100 : Int) < ln := by omega
    clear hk hcell hr hc hln
    go_enter Tryz.func4, Tryz.ntmps4
    go_wp2_with fail
    refine (HLV.out _ (Fr.refl _ _)).mono ?_
    rintro e w1 ⟨rfl, f1⟩
    have F1 := Lib.hid f1
    clear f1
    go_wp2_with fail
    refine (HLV.out _ F1.out).mono ?_
    rintro e w2 ⟨rfl, f2⟩
    go_wp2_with fail
    go_ret
    exact ⟨rfl, F1.out.trans f2⟩
  · by_cases hob : 1000 < out.size
    · obtain ⟨ln, hln⟩ : ∃ k, l.length = k := ⟨_, rfl⟩
      rw [hln] at hbig hlm ⊢
      have hb : decide ((100 : Int) < ln) = false := by simp; omega
      have hb2 : (1000 : Int) < out.size := by omega
      clear hk hcell hr hc hln
      go_enter Tryz.func4, Tryz.ntmps4
      go_wp2_with fail
      refine (HLV.out _ (Fr.refl _ _)).mono ?_
      rintro e w1 ⟨rfl, f1⟩
      have F1 := Lib.hid f1
      clear f1
      go_wp2_with fail
      refine (HLV.out _ F1.out).mono ?_
      rintro e w2 ⟨rfl, f2⟩
      go_wp2_with fail
      go_ret
      exact ⟨rfl, F1.out.trans f2⟩
    · have hb : decide ((100 : Int) < l.length) = false := by simp; omega
      have hb2 : decide ((1000 : Int) < out.size) = false := by simp; omega
      obtain ⟨lf, hlf⟩ : ∃ x, IntKind.i64.wrap ((out.size : Int) * code) = x := ⟨_, rfl⟩
      have HLF := Lib.hid (show I64 lf by rw [← hlf]; exact wrap_I64 _)
      have HS := Lib.hid (fun W (hW : Fr (fun _ => False) w W) => show_ok code lf 8 l out ⟨#[120]⟩ false a cap W (hk.fr hW) hc HLF.out (by omega) (by omega) hr (fun i hi => by obtain ⟨A, h1, h2⟩ := hcell i hi; exact ⟨A, h1, hW.cell h2 id⟩))
      have HQ := Lib.hid (fun W (hW : Fr (fun _ => False) w W) => r22show_ok code lf l out a cap W hc HLF.out (by omega) (by omega) hr (fun i hi => by obtain ⟨A, h1, h2⟩ := hcell i hi; exact ⟨A, h1, hW.cell h2 id⟩))
      obtain ⟨L, hL⟩ : ∃ L, shw code lf l out.data.toList = L := ⟨_, rfl⟩
      rw [hL] at HS HQ
      obtain ⟨ln, hln⟩ : ∃ k, l.length = k := ⟨_, rfl⟩
      rw [hln] at hb hbig hlm HS HQ ⊢
      clear hk hcell hr hc hln hL
      go_enter Tryz.func4, Tryz.ntmps4
      go_wp2_with fail
      refine (HLV.out _ (Fr.refl _ _)).mono ?_
      rintro e w1 ⟨rfl, f1⟩
      have F1 := Lib.hid f1
      clear f1
      go_wp2_with fail
      refine (HS.out _ F1.out).mono ?_
      rintro e w2 ⟨rfl, f2⟩
      have F2 := Lib.hid (F1.out.trans f2)
      clear f2
      go_wp2_with fail
      refine (HQ.out _ F2.out).mono ?_
      rintro e w3 ⟨s, rfl, hs, f3⟩
      have e3 : (L == s.toList) = true := by rw [ByteArray.toList_eq, hs]; simp
      go_wp2_with fail
      go_ret
      exact ⟨rfl, F2.out.trans f3⟩
end Go.Proofs.YthkmbnkkohomeaaGreatDoor.Mem
