/- Contracts of the document's answers for memories. -/
import Derived.Test.YtajeiccfgnpbpaaMemB
namespace Go.Proofs.Ytajeiccfgnpbpaa.Mem
open Go.RowKit

set_option maxRecDepth 100000 in
set_option maxHeartbeats 1000000 in
theorem rhas_any (p g : Nat) (bs : List UInt8) (a k : Int) (w : World) (h : Mat 112 w p g bs) :
    Calls Try.prog 100 #[.pointer (some ⟨p, 0, none⟩), .int .i64 a, .int .i64 k] w fun e w' => e = .returned (.bool (has bs.length a k)) ∧ w' = w := by
  have h0 := h.hd
  have hn := h.2.2.2
  obtain ⟨n, hnn⟩ : ∃ n, bs.length = n := ⟨_, rfl⟩
  rw [hnn] at h0 hn ⊢
  clear h hnn
  unfold has
  by_cases h1 : 0 ≤ a
  · by_cases h2 : 0 ≤ k
    · by_cases h3 : k ≤ (n : Int)
      · by_cases h4 : a ≤ (n : Int)
        · by_cases h5 : a ≤ (n : Int) - k
          · have h6 : a + k ≤ n := by omega
            go_enter Try.func100, Try.ntmps100
            go_wp2
            go_ret
            exact ⟨by first | (simp; done) | (simp; omega), rfl⟩
          · have h6 : ¬ a + k ≤ n := by omega
            go_enter Try.func100, Try.ntmps100
            go_wp2
            go_ret
            exact ⟨by first | (simp; done) | (simp; omega), rfl⟩
        · have h5 : ¬ a ≤ (n : Int) - k := by omega
          go_enter Try.func100, Try.ntmps100
          go_wp2
          go_ret
          exact ⟨by first | (simp; done) | (simp; omega), rfl⟩
      · by_cases h4 : a ≤ (n : Int)
        all_goals
          go_enter Try.func100, Try.ntmps100
          go_wp2
          go_ret
          exact ⟨by first | (simp; done) | (simp; omega), rfl⟩
    · go_enter Try.func100, Try.ntmps100
      go_wp2
      go_ret
      exact ⟨by first | (simp; done) | (simp; omega), rfl⟩
  · go_enter Try.func100, Try.ntmps100
    go_wp2
    go_ret
    exact ⟨by first | (simp; done) | (simp; omega), rfl⟩

set_option maxRecDepth 100000 in
set_option maxHeartbeats 1000000 in
theorem rcode_any (p g : Nat) (bs : List UInt8) (a : Int) (w : World) (h : Mat 112 w p g bs) :
    Calls Try.prog 58 #[.pointer (some ⟨p, 0, none⟩), .int .i64 a] w fun e w' => e = .returned (.int .i64 (code bs.length a)) ∧ w' = w := by
  have hh := fun w h => rhas_any p g bs a 8 w h
  have H := Lib.hid h
  clear h
  obtain ⟨c, hc⟩ : ∃ c, code bs.length a = c := ⟨_, rfl⟩
  rw [hc]
  unfold code at hc
  by_cases h1 : has bs.length a 8 = true
  · rw [h1, if_pos rfl] at hc
    rw [h1] at hh
    have HH := Lib.hid hh
    have ha : 0 ≤ a := by simp [has] at h1; omega
    clear hh h1
    by_cases h2 : a % 8 = 0
    · have h2' : (a % 8 != 0) = false := by simp [h2]
      rw [if_pos h2] at hc
      subst hc
      clear h2
      go_enter Try.func58, Try.ntmps58
      go_wp2_with (go_at_call 100; refine (HH.out _ H.out).mono ?_; rintro e w' ⟨rfl, rfl⟩)
      go_ret
      exact ⟨rfl, rfl⟩
    · have h2' : (a % 8 != 0) = true := by simp [h2]
      rw [if_neg h2] at hc
      subst hc
      clear h2
      go_enter Try.func58, Try.ntmps58
      go_wp2_with (go_at_call 100; refine (HH.out _ H.out).mono ?_; rintro e w' ⟨rfl, rfl⟩)
      go_ret
      exact ⟨rfl, rfl⟩
  · have h1' : has bs.length a 8 = false := by simpa using h1
    rw [if_neg h1] at hc
    subst hc
    rw [h1'] at hh
    have HH := Lib.hid hh
    clear hh h1 h1'
    go_enter Try.func58, Try.ntmps58
    go_wp2_with (go_at_call 100; refine (HH.out _ H.out).mono ?_; rintro e w' ⟨rfl, rfl⟩)
    go_ret
    exact ⟨rfl, rfl⟩

set_option maxRecDepth 100000 in
set_option maxHeartbeats 1000000 in
theorem rcell_any (p g : Nat) (bs : List UInt8) (a : Int) (w : World) (h : Mat 112 w p g bs) :
    Calls Try.prog 66 #[.pointer (some ⟨p, 0, none⟩), .int .i64 a] w fun e w' => e = .returned (.tuple #[.int .i64 (cell bs a).1, .int .i64 (cell bs a).2]) ∧ w' = w := by
  have hcall := fun w h => rcode_any p g bs a w h
  have H := Lib.hid h
  have h0 := h.hd
  obtain ⟨c, hc⟩ : ∃ c, code bs.length a = c := ⟨_, rfl⟩
  rw [hc] at hcall
  have HC := Lib.hid hcall
  clear hcall
  by_cases hz : c = 0
  · subst hz
    have hp : cell bs a = (cellv bs a.toNat, 0) := by unfold cell; rw [if_pos hc]
    obtain ⟨ha0, ha1, _⟩ := code_ok hc
    obtain ⟨x, rfl⟩ : ∃ x : Nat, a = x := ⟨a.toNat, by omega⟩
    rw [hp]
    simp only [Int.toNat_natCast]
    have hn := h.2.2.2
    have HA := Lib.hid (fun i hi => h.at i hi)
    obtain ⟨n, hnn⟩ : ∃ n, bs.length = n := ⟨_, rfl⟩
    rw [hnn] at h0 hn HA ha1
    clear h hc hp hnn
    go_enter Try.func66, Try.ntmps66
    go_wp2_with (go_at_call 58; refine (HC.out _ H.out).mono ?_; rintro e w' ⟨rfl, rfl⟩)
    go_loop [7, 8] (fun nv iv => ∃ k : Nat, k ≤ 8 ∧ iv = .int .i64 (7 - (k : Int)) ∧ nv = .int .u64 (rdH bs x k : Nat)) (fun _ iv => (intOf iv + 1).toNat)
    case atStart => exact ⟨0, by omega, rfl, rfl⟩
    case round =>
      obtain ⟨k, hk, rfl, rfl⟩ := hrel
      by_cases hlt : k < 8
      · have hcell := HA.out (x + (7 - k)) (by omega)
        have hb : ((bs.getD (x + (7 - k)) 0).toNat : Int) ≤ 255 := by have := (bs.getD (x + (7 - k)) 0).toNat_lt; omega
        have hr : rdH bs x (k + 1) = rdH bs x k * 256 + (bs.getD (x + (7 - k)) 0).toNat := rfl
        have hrl := rdH_lt bs x k
        have h256 : 256 ^ k ≤ 256 ^ 7 := Nat.pow_le_pow_right (by omega) (by omega)
        simp only [Nat.reducePow] at h256
        have hrb : rdH bs x k < 72057594037927936 := by omega
        obtain ⟨y, hy⟩ : ∃ y : Nat, (bs.getD (x + (7 - k)) 0).toNat = y := ⟨_, rfl⟩
        obtain ⟨r, hrr⟩ : ∃ r : Nat, rdH bs x k = r := ⟨_, rfl⟩
        rw [hy] at hcell hb hr
        rw [hrr] at hr hrb ⊢
        have HR := Lib.hid hr
        clear hy hr hrl h256 hrr
        go_wp2
        refine ⟨⟨k + 1, by omega, congrArg _ (by omega), congrArg _ (by rw [HR.out]; omega)⟩, by simp only [intOf]; omega⟩
      · obtain rfl : k = 8 := by omega
        go_wp2
        go_ret2
        exact ⟨by rw [cellv, ← rdH_rd]; rfl, rfl⟩
  · have hp : cell bs a = (0, c) := by unfold cell; rw [if_neg (by rw [hc]; exact hz), hc]
    rw [hp]
    have hz' : (c != 0) = true := by simp [hz]
    clear h hc hp hz
    go_enter Try.func66, Try.ntmps66
    go_wp2_with (go_at_call 58; refine (HC.out _ H.out).mono ?_; rintro e w' ⟨rfl, rfl⟩)
    go_ret2
    exact ⟨rfl, rfl⟩
theorem m64_step (n : Int) (k : Nat) : (m64 n).toNat / 256 ^ k / 256 = (m64 n).toNat / 256 ^ (k + 1) := by rw [Nat.div_div_eq_div_mul, Nat.pow_succ]

set_option maxRecDepth 100000 in
set_option maxHeartbeats 1000000 in
theorem rsetCell_any (p g : Nat) (bs : List UInt8) (a n : Int) (w : World) (h : Mat 112 w p g bs) :
    Calls Try.prog 16 #[.pointer (some ⟨p, 0, none⟩), .int .i64 a, .int .i64 n] w fun e w' => e = .returned (.int .i64 (code bs.length a)) ∧ Mat 112 w' p g (setc bs a n) ∧ Only g w w' := by
  have hcall := fun w h => rcode_any p g bs a w h
  have H := Lib.hid h
  obtain ⟨c, hc⟩ : ∃ c, code bs.length a = c := ⟨_, rfl⟩
  rw [hc] at hcall ⊢
  have HC := Lib.hid hcall
  clear hcall
  by_cases hz : c = 0
  · subst hz
    have hp : setc bs a n = setv bs a.toNat n := by unfold setc; rw [if_pos hc]
    obtain ⟨ha0, ha1, _⟩ := code_ok hc
    obtain ⟨x, rfl⟩ : ∃ x : Nat, a = x := ⟨a.toNat, by omega⟩
    rw [hp]
    simp only [Int.toNat_natCast]
    have hbl := h.2.2.2
    have HL := Lib.hid (wr_length bs x (m64 n).toNat)
    obtain ⟨nb, hnn⟩ : ∃ nb, bs.length = nb := ⟨_, rfl⟩
    rw [hnn] at hbl ha1 HL
    have hw := wrap_u64 n
    obtain ⟨u, hu⟩ : ∃ u : Nat, m64 n = u := ⟨(m64 n).toNat, by have := m64_bd n; omega⟩
    have hub : u ≤ 18446744073709551615 := by have := m64_bd n; omega
    have HU := Lib.hid (show (m64 n).toNat = u by omega)
    rw [hu] at hw
    clear h hc hp hnn hu
    go_enter Try.func16, Try.ntmps16
    go_wp2_with (go_at_call 58; refine (HC.out _ H.out).mono ?_; rintro e w' ⟨rfl, rfl⟩)
    go_loopw [8, 9] (fun uv iv wr' => ∃ k v : Nat, k ≤ 8 ∧ iv = .int .i64 k ∧ uv = .int .u64 v ∧ v ≤ 18446744073709551615 ∧ v = u / 256 ^ k ∧ Mat 112 wr' p g (wr bs x (m64 n).toNat k) ∧ Only g w' wr') (fun _ iv _ => 8 - (intOf iv).toNat)
    case atStart => exact ⟨0, u, by omega, rfl, rfl, hub, by simp, H.out, Fr.refl _ _⟩
    case round =>
      obtain ⟨k, v, hk, rfl, rfl, hv, hvk, hM, hF⟩ := hrel
      have HV := Lib.hid hvk
      clear hvk
      by_cases hlt : k < 8
      · have h0 := hM.hd
        rw [HL.out] at h0
        have hcell := hM.at (x + k) (by rw [HL.out]; omega)
        have hfree := hM.free (x + k)
        have HM := Lib.hid hM
        have HF := Lib.hid hF
        clear hM hF
        go_wp2
        go_roundw
        case rel =>
          refine ⟨k + 1, v / 256, by omega, by go_num, by go_num, by omega, ?_, ?_, ?_⟩
          · rw [HV.out, Nat.div_div_eq_div_mul, Nat.pow_succ]
          · have hs := HM.out.set (x + k) (UInt8.ofNat ((m64 n).toNat / 256 ^ k % 256))
            rw [HU.out, ← HV.out] at hs
            rw [Mem.wr, HU.out, ← HV.out]
            simpa [bv, HU.out] using hs
          · exact HF.out.setOne _ _
        case measure => simp only [intOf]; omega
      · obtain rfl : k = 8 := by omega
        have HM := Lib.hid hM
        have HF := Lib.hid hF
        clear hM hF
        go_wp2
        go_ret
        exact ⟨rfl, HM.out, HF.out⟩
  · have hp : setc bs a n = bs := by unfold setc; rw [if_neg (by rw [hc]; exact hz)]
    rw [hp]
    have hz' : (c != 0) = true := by simp [hz]
    clear h hc hp hz
    go_enter Try.func16, Try.ntmps16
    go_wp2_with (go_at_call 58; refine (HC.out _ H.out).mono ?_; rintro e w' ⟨rfl, rfl⟩)
    go_ret
    exact ⟨rfl, H.out, Fr.refl _ _⟩

set_option maxRecDepth 100000 in
set_option maxHeartbeats 1000000 in
theorem rtext_any (p g : Nat) (bs : List UInt8) (a k : Int) (w : World) (h : Mat 112 w p g bs) :
    Calls Try.prog 55 #[.pointer (some ⟨p, 0, none⟩), .int .i64 a, .int .i64 k] w fun e w' => e = .returned (.tuple #[.string ⟨(txt bs a k).1.toArray⟩, .int .i64 (txt bs a k).2]) ∧ w' = w := by
  have hh := fun w h => rhas_any p g bs a k w h
  have H := Lib.hid h
  by_cases h1 : has bs.length a k = true
  · have hp : txt bs a k = (text bs a.toNat k.toNat, 0) := by unfold txt; rw [if_pos h1]
    rw [hp]
    rw [h1] at hh
    have HH := Lib.hid hh
    clear hh hp
    simp [has] at h1
    obtain ⟨x, rfl⟩ : ∃ x : Nat, a = x := ⟨a.toNat, by omega⟩
    obtain ⟨n, rfl⟩ : ∃ n : Nat, k = n := ⟨k.toNat, by omega⟩
    simp only [Int.toNat_natCast]
    have h0 := h.hd
    have hn := h.2.2.2
    have hl : (text bs x n).length = n := text_length _ _ _ (by omega)
    by_cases hx : bs.length = x
    · obtain rfl : n = 0 := by omega
      have hc := run_convert_bytes_arg (P := Try.prog) w 53 5 Try.underlying53 Try.underlying5 g 0 0 0 [] rfl (fun i hi => by omega) 9 Try.underlying9
      have ht : (text bs x 0) = [] := by simp [text]
      rw [ht]
      rw [show strOfNums [] = ByteArray.mk #[] from rfl] at hc
      obtain ⟨nb, hnn⟩ : ∃ nb, bs.length = nb := ⟨_, rfl⟩
      rw [hnn] at h0 hn h1 hx
      subst hx
      clear h hl ht hnn
      go_enter Try.func55, Try.ntmps55
      go_wp2_with (go_at_call 100; refine (HH.out _ H.out).mono ?_; rintro e w' ⟨rfl, rfl⟩)
      go_ret2
      exact ⟨rfl, rfl⟩
    · have hc := run_convert_bytes_arg (P := Try.prog) w 53 5 Try.underlying53 Try.underlying5 g x n (bs.length - x) ((text bs x n).map fun b => (b.toNat : Int)) (by simp [hl]) (fun i hi => by
        rw [h.at (x + i) (by omega), getD_bytes, text_get bs x n i hi]) 9 Try.underlying9
      rw [strOf_bytes] at hc
      obtain ⟨st, hst⟩ : ∃ st : ByteArray, ⟨(text bs x n).toArray⟩ = st := ⟨_, rfl⟩
      rw [hst] at hc ⊢
      obtain ⟨nb, hnn⟩ : ∃ nb, bs.length = nb := ⟨_, rfl⟩
      rw [hnn] at hc h0 hn h1 hx
      clear h hst hl hnn
      go_enter Try.func55, Try.ntmps55
      go_wp2_with (go_at_call 100; refine (HH.out _ H.out).mono ?_; rintro e w' ⟨rfl, rfl⟩)
      go_ret2
      exact ⟨rfl, rfl⟩
  · have hp : txt bs a k = ([], -9) := by unfold txt; rw [if_neg h1]
    rw [hp]
    have h1' : has bs.length a k = false := by simpa using h1
    rw [h1'] at hh
    have HH := Lib.hid hh
    clear hh h1 h1' h hp
    go_enter Try.func55, Try.ntmps55
    go_wp2_with (go_at_call 100; refine (HH.out _ H.out).mono ?_; rintro e w' ⟨rfl, rfl⟩)
    go_ret2
    exact ⟨rfl, rfl⟩

theorem Mat.put1 {t : TypeId} {w : World} {p g : Nat} {bs l : List UInt8} {x k : Nat} (h : Mat t w p g (putk bs x l k)) (hk : k < l.length) (hx : x + l.length ≤ bs.length) :
    Mat t (w.setCell ⟨g, x + k, none⟩ (.int .u8 ((l.getD k 0).toNat : Int))) p g (putk bs x l (k + 1)) := by
  have := h.set (x + k) (l.getD k 0)
  rw [putk_set bs x l k hk hx] at this
  exact this

set_option maxRecDepth 100000 in
set_option maxHeartbeats 1000000 in
theorem rsetText_any (p g : Nat) (bs : List UInt8) (a : Int) (s : ByteArray) (w : World) (h : Mat 112 w p g bs) (hsz : s.size ≤ 1048576) :
    Calls Try.prog 56 #[.pointer (some ⟨p, 0, none⟩), .int .i64 a, .string s] w fun e w' => e = .returned (.int .i64 (codet bs a s.data.toList)) ∧ Mat 112 w' p g (sett bs a s.data.toList) ∧ Only g w w' := by
  have hlen : s.data.toList.length = s.size := Array.length_toList
  have hh := fun w h => rhas_any p g bs a s.size w h
  have H := Lib.hid h
  by_cases h1 : has bs.length a s.size = true
  · have hp : codet bs a s.data.toList = 0 ∧ sett bs a s.data.toList = put bs a.toNat s.data.toList := by unfold codet sett; rw [hlen, if_pos h1, if_pos h1]; exact ⟨rfl, rfl⟩
    rw [hp.1, hp.2]
    rw [h1] at hh
    have HH := Lib.hid hh
    clear hh hp
    simp [has] at h1
    obtain ⟨x, rfl⟩ : ∃ x : Nat, a = x := ⟨a.toNat, by omega⟩
    simp only [Int.toNat_natCast]
    have hn := h.2.2.2
    have HLn := Lib.hid hlen
    have HL := Lib.hid (fun k hk => putk_length bs x s.data.toList k hk (by omega))
    obtain ⟨nb, hnn⟩ : ∃ nb, bs.length = nb := ⟨_, rfl⟩
    have HNN := Lib.hid hnn
    rw [hnn] at hn h1 HL
    clear h hnn hlen
    go_enter Try.func56, Try.ntmps56
    go_wp2_with (go_at_call 100; refine (HH.out _ H.out).mono ?_; rintro e w' ⟨rfl, rfl⟩)
    go_loopw [8] (fun iv wr' => ∃ k : Nat, k ≤ s.size ∧ iv = .int .i64 k ∧ Mat 112 wr' p g (putk bs x s.data.toList k) ∧ Only g w' wr') (fun iv _ => s.size - (intOf iv).toNat)
    case atStart => exact ⟨0, by omega, rfl, by rw [putk_zero]; exact H.out, Fr.refl _ _⟩
    case round =>
      obtain ⟨k, hk, rfl, hM, hF⟩ := hrel
      by_cases hlt : k < s.size
      · have h0 := hM.hd
        rw [HL.out k (by rw [HLn.out]; exact hk)] at h0
        have hcell := hM.at (x + k) (by rw [HL.out k (by rw [HLn.out]; exact hk)]; omega)
        have hfree := hM.free (x + k)
        have hM1 := hM.put1 (l := s.data.toList) (bs := bs) (by rw [HLn.out]; exact hlt) (by rw [HLn.out, HNN.out]; omega)
        have hidx : s.data.toList.getD k 0 = s[k] := by
          rw [List.getD_eq_getElem?_getD, List.getElem?_eq_getElem (by rw [HLn.out]; exact hlt)]
          rfl
        rw [hidx] at hM1
        have HM := Lib.hid hM1
        have HF := Lib.hid hF
        clear hM1 hidx
        clear hM hF
        go_wp2
        go_region
        go_wp2
        go_roundw
        case rel => exact ⟨k + 1, by omega, by go_num, HM.out, (HF.out.setOne _ _).drew⟩
        case measure => simp only [intOf]; omega
      · obtain rfl : k = s.size := by omega
        have HM := Lib.hid hM
        have HF := Lib.hid hF
        clear hM hF
        go_wp2
        go_ret
        exact ⟨rfl, by rw [← putk_all, HLn.out]; exact HM.out, HF.out⟩
  · have hp : codet bs a s.data.toList = -9 ∧ sett bs a s.data.toList = bs := by unfold codet sett; rw [hlen, if_neg h1, if_neg h1]; exact ⟨rfl, rfl⟩
    rw [hp.1, hp.2]
    have h1' : has bs.length a s.size = false := by simpa using h1
    rw [h1'] at hh
    have HH := Lib.hid hh
    clear hh h1 h1' h hp hlen
    go_enter Try.func56, Try.ntmps56
    go_wp2_with (go_at_call 100; refine (HH.out _ H.out).mono ?_; rintro e w' ⟨rfl, rfl⟩)
    go_ret
    exact ⟨rfl, H.out, Fr.refl _ _⟩

set_option maxRecDepth 100000 in
set_option maxHeartbeats 1000000 in
theorem rnew_ok (n : Nat) (w : World) (hn : n ≤ 1048576) :
    Calls Try.prog 12 #[.int .i64 n] w fun e w' => e = .returned (.pointer (some ⟨w.heap.size + 1, 0, none⟩)) ∧ Mat 112 w' (w.heap.size + 1) w.heap.size (List.replicate n 0) ∧ Fr (fun _ => False) w w' := by
  have hmk := run_make_row' (P := Try.prog) 53 5 (.int .u8 0) 1 Try.underlying53 (by kernel_rfl) rfl .i64 .i64 n (by omega) (by omega)
  have hrow : madeCells #[.int .u8 0] n = ((List.replicate n 0).map bv).toArray := by
    apply Array.ext'
    rw [toList_madeCells_one]
    simp [List.map_replicate, bv]
  rw [hrow] at hmk
  obtain ⟨L, hL⟩ : ∃ L, ((List.replicate n 0).map bv).toArray = L := ⟨_, rfl⟩
  rw [hL] at hmk
  have hw1 := heap_alloc_last w (.cells L 5)
  clear hrow
  go_enter Try.func12, Try.ntmps12
  go_wp2
  go_ret
  have hsz : (w.alloc (.cells L 5)).heap.size = w.heap.size + 1 := by simp
  refine ⟨rfl, ⟨by omega, ?_, ?_, by rw [List.length_replicate]; exact hn⟩, ((Fr.refl _ _).alloc _).alloc _⟩
  · have := heap_alloc_last (w.alloc (.cells L 5)) (.cells #[.slice (some ⟨w.heap.size, 0, none⟩) n n] 112)
    rw [hsz] at this
    rw [List.length_replicate]
    exact this
  · rw [Below.heap_alloc _ _ _ (by omega), hw1, hL]

end Go.Proofs.Ytajeiccfgnpbpaa.Mem
