/- Several texts in one: RfA, RnD, ScI. -/
import Derived.Test.YthkmbnkkohomeaaGreatDoorSwav
import Derived.Test.YthkmbnkkohomeaaGreatDoorSwbj
import Derived.Lib.ItoaNum
import Derived.BigQuiet
import Derived.Test.YthkmbnkkohomeaaGreatDoorSwbi
set_option linter.unusedSimpArgs false
set_option linter.unusedVariables false
/- The document's Unsigned and Show of layer 3, to the base 10. -/
namespace Go.Proofs.YthkmbnkkohomeaaGreatDoor.Mem
open Go.RowKit

theorem digit_cut (d : Nat) (hd : d ≤ 9) : (⟨#[48, 49, 50, 51, 52, 53, 54, 55, 56, 57, 65, 66, 67, 68, 69, 70, 71, 72, 73, 74, 75, 76, 77, 78, 79, 80, 81, 82, 83, 84, 85, 86, 87, 88, 89, 90]⟩ : ByteArray).extract d (d + 1) = ⟨#[UInt8.ofNat (48 + d)]⟩ := by
  have : d = 0 ∨ d = 1 ∨ d = 2 ∨ d = 3 ∨ d = 4 ∨ d = 5 ∨ d = 6 ∨ d = 7 ∨ d = 8 ∨ d = 9 := by omega
  rcases this with rfl | rfl | rfl | rfl | rfl | rfl | rfl | rfl | rfl | rfl <;> decide

def UnsPost (k n : Nat) (w : World) (e : Ending) (w' : World) : Prop := ∃ s : ByteArray, e = .returned (.string s) ∧ s.data.toList = Lib.decDigits n ∧ s.size ≤ k ∧ Fr (fun _ => False) w w'

set_option maxRecDepth 100000 in
set_option maxHeartbeats 1000000 in
theorem runs_ok : ∀ (k : Nat), k ≤ 19 → ∀ (n : Nat), n < 10 ^ (k + 1) → n < 18446744073709551616 → ∀ (w : World), Calls Tryz.prog 35 #[.int .u64 n, .int .i64 10] w fun e w' => UnsPost (k + 1) n w e w' := by
  intro k
  induction k with
  | zero =>
    intro _ n hk hn w
    have hn9 : n ≤ 9 := by simp at hk; omega
    obtain ⟨d, hd⟩ : ∃ d, n % 10 = d := ⟨_, rfl⟩
    have hd9 : d ≤ 9 := by omega
    have hm1 : (n : Int) % 10 = d := by omega
    have hm2 : (n : Int).tmod 10 = d := by rw [Int.tmod_eq_emod_of_nonneg (by omega)]; exact hm1
    have hw : IntKind.u64.wrap ((d : Int) + 1) = (d : Int) + 1 := by rw [wrap_u64]; unfold m64; omega
    have hcut := digit_cut d hd9
    obtain ⟨c, hc⟩ : ∃ c, UInt8.ofNat (48 + d) = c := ⟨_, rfl⟩
    rw [hc] at hcut
    have HC := Lib.hid hcut
    have HCC := Lib.hid hc
    clear hcut hc
    have hb : (d : Int) ≤ 9 := by omega
    have hlt : decide ((10 : Int) ≤ n) = false := by simp; omega
    have hdn : d = n := by omega
    have HDN := Lib.hid hdn
    clear hk hd hdn
    go_enter Tryz.func35, Tryz.ntmps35
    go_wp2_with fail
    go_quiet (fail)
    go_wp2_with fail
    rw [HC.out]
    go_ret
    exact ⟨_, rfl, by rw [Lib.decDigits_one (by omega), ← HCC.out, HDN.out], Nat.le_refl _, (Fr.refl _ _).drewN _⟩
  | succ k ih =>
    intro h19 n hk hn w
    by_cases hsm : n < 10 ^ (k + 1)
    · exact (ih (by omega) n hsm hn w).mono fun e w' ⟨s, h1, h2, h3, h4⟩ => ⟨s, h1, h2, by omega, h4⟩
    have h10 : 10 ≤ n := by
      have : 10 ^ 1 ≤ 10 ^ (k + 1) := Nat.pow_le_pow_right (by decide) (by omega)
      omega
    obtain ⟨q, hq⟩ : ∃ q, n / 10 = q := ⟨_, rfl⟩
    have hq1 : (n : Int) / 10 = q := by omega
    have hq2 : (n : Int).tdiv 10 = q := by rw [Int.tdiv_eq_ediv_of_nonneg (by omega)]; exact hq1
    have hqk : q < 10 ^ (k + 1) := by rw [Nat.pow_succ] at hk; omega
    have HI := Lib.hid (fun W => ih (by omega) q hqk (by omega) W)
    have hdd : Lib.decDigits n = Lib.decDigits q ++ [UInt8.ofNat (48 + n % 10)] := by rw [Lib.decDigits, dif_neg (by omega), hq]
    have HDD := Lib.hid hdd
    obtain ⟨d, hd⟩ : ∃ d, n % 10 = d := ⟨_, rfl⟩
    have hd9 : d ≤ 9 := by omega
    have hm1 : (n : Int) % 10 = d := by omega
    have hm2 : (n : Int).tmod 10 = d := by rw [Int.tmod_eq_emod_of_nonneg (by omega)]; exact hm1
    have hw : IntKind.u64.wrap ((d : Int) + 1) = (d : Int) + 1 := by rw [wrap_u64]; unfold m64; omega
    have hcut := digit_cut d hd9
    obtain ⟨c, hc⟩ : ∃ c, UInt8.ofNat (48 + d) = c := ⟨_, rfl⟩
    rw [hc] at hcut
    have HC := Lib.hid hcut
    have HCC := Lib.hid hc
    clear hcut hc
    have hb : (d : Int) ≤ 9 := by omega
    have hlt : (10 : Int) ≤ n := by omega
    have HD := Lib.hid hd
    clear hk hd hsm hdd hqk hq ih
    go_enter Tryz.func35, Tryz.ntmps35
    go_wp2_with fail
    go_quiet (fail)
    go_wp2_with fail
    rw [HC.out]
    refine (HI.out _).mono ?_
    rintro e w2 ⟨s, rfl, hs, hz, f2⟩
    have hz' : s.size ≤ 20 := by omega
    have HS := Lib.hid (And.intro hs hz)
    have F2 := Lib.hid (((Fr.refl (fun _ => False) w).drewN nq).trans f2)
    clear hs hz f2 h19
    go_wp2_with fail
    go_ret
    refine ⟨_, rfl, ?_, ?_, F2.out⟩
    · rw [cat_toList, HS.out.1, HDD.out, HD.out, HCC.out]
    · rw [ByteArray.size_append]
      have := HS.out.2
      have e1 : (⟨#[c]⟩ : ByteArray).size = 1 := rfl
      omega

def ShowPost (n : Int) (w : World) (e : Ending) (w' : World) : Prop := ∃ s : ByteArray, e = .returned (.string s) ∧ s.data.toList = Lib.itoa n ∧ s.size ≤ 21 ∧ Fr (fun _ => False) w w'

set_option maxRecDepth 100000 in
set_option maxHeartbeats 1000000 in
theorem rshow_ok (n : Int) (hn : I64 n) (w : World) : Calls Tryz.prog 20 #[.int .i64 n, .int .i64 10] w fun e w' => ShowPost n w e w' := by
  obtain ⟨h0, h1⟩ := hn
  by_cases hneg : n < 0
  · obtain ⟨a, ha⟩ : ∃ a : Nat, n.natAbs = a := ⟨_, rfl⟩
    have hw1 : IntKind.u64.wrap n = 18446744073709551616 - a := by rw [wrap_u64]; unfold m64; omega
    have hw2 : IntKind.u64.wrap (-(18446744073709551616 - (a : Int))) = a := by rw [wrap_u64]; unfold m64; omega
    have HU := Lib.hid (fun W => runs_ok 19 (Nat.le_refl _) a (by omega) (by omega) W)
    have HI := Lib.hid (show Lib.itoa n = 45 :: Lib.decDigits a by unfold Lib.itoa; rw [if_pos hneg, ha])
    clear ha
    go_enter Tryz.func20, Tryz.ntmps20
    go_wp2_with fail
    refine (HU.out _).mono ?_
    rintro e w2 ⟨s, rfl, hs, hz, f2⟩
    have HS := Lib.hid (And.intro hs (And.intro hz f2))
    clear hs f2
    go_wp2_with fail
    go_ret
    refine ⟨_, rfl, by rw [cat_toList, HS.out.1, HI.out]; rfl, ?_, HS.out.2.2⟩
    rw [ByteArray.size_append]
    have := HS.out.2.1
    have e1 : (⟨#[45]⟩ : ByteArray).size = 1 := rfl
    omega
  · obtain ⟨a, rfl⟩ : ∃ a : Nat, n = a := ⟨n.toNat, by omega⟩
    have hw1 : IntKind.u64.wrap (a : Int) = a := by rw [wrap_u64]; unfold m64; omega
    have HU := Lib.hid (fun W => runs_ok 19 (Nat.le_refl _) a (by omega) (by omega) W)
    have HI := Lib.hid (show Lib.itoa (a : Int) = Lib.decDigits a by unfold Lib.itoa; rw [if_neg hneg, Int.toNat_natCast])
    have hneg' : decide ((a : Int) < 0) = false := by simp
    go_enter Tryz.func20, Tryz.ntmps20
    go_wp2_with fail
    refine (HU.out _).mono ?_
    rintro e w2 ⟨s, rfl, hs, hz, f2⟩
    have HS := Lib.hid (And.intro hs (And.intro hz f2))
    clear hs hz f2
    go_wp2_with fail
    go_ret
    exact ⟨_, rfl, by rw [HS.out.1, HI.out], by have := HS.out.2.1; omega, HS.out.2.2⟩
end Go.Proofs.YthkmbnkkohomeaaGreatDoor.Mem

/- run.Run of a script with the text '1 .'. -/
namespace Go.Proofs.YthkmbnkkohomeaaGreatDoor.Mem
open Go.RowKit

def RunPost (fu : Nat) (inn : ByteArray) (w : World) (e : Ending) (w' : World) : Prop :=
  ∃ (m : MR) (hr : Int), e = .returned (.agg (resC m hr)) ∧ m.fuel = fu ∧ m.out = ByteArray.empty ∧ m.inn = inn ∧ m.over = false ∧ Fr (fun _ => False) w w'

set_option maxRecDepth 100000 in
set_option maxHeartbeats 4000000 in
theorem run_dot1 (di da re he fu : Nat) (sl : Int) (inn : ByteArray) (w : World) (ht : Cod.Tab w) (h1 : di % 8 = 0) (h2 : he % 8 = 0) (h3 : 16 ≤ he) (h4 : 2832 ≤ di) (hs : di + (da + re) * 8 + he ≤ 1048576) (hda : 1 ≤ da) (hfu : 3 ≤ fu ∧ fu ≤ 1048576) :
    Calls Tryz.prog 21 #[.agg (Scr.row ⟨di, da, re, he, sl, txt1, inn, fu⟩)] w fun e w' => RunPost fu inn w e w' := by
  have hA := heap_alloc_last w (.cells (Scr.row ⟨di, da, re, he, sl, txt1, inn, fu⟩) 26)
  have fA := (Fr.refl (fun _ => False) w).alloc (.cells (Scr.row ⟨di, da, re, he, sl, txt1, inn, fu⟩) 26)
  have zA : (w.alloc (.cells (Scr.row ⟨di, da, re, he, sl, txt1, inn, fu⟩) 26)).heap.size = w.heap.size + 1 := by simp
  obtain ⟨w1, hw1⟩ : ∃ W, w.alloc (.cells (Scr.row ⟨di, da, re, he, sl, txt1, inn, fu⟩) 26) = W := ⟨_, rfl⟩
  rw [hw1] at hA fA zA
  have hB := heap_alloc_last w1 (.cells resZ 40)
  have fB := (Fr.refl (fun _ => False) w1).alloc (.cells resZ 40)
  have zB : (w1.alloc (.cells resZ 40)).heap.size = w1.heap.size + 1 := by simp
  obtain ⟨w2, hw2⟩ : ∃ W, w1.alloc (.cells resZ 40) = W := ⟨_, rfl⟩
  rw [hw2] at hB fB zB
  obtain ⟨cb, hcb⟩ : ∃ b, w.heap.size = b := ⟨_, rfl⟩
  rw [hcb] at hA zA
  rw [zA] at hB zB
  obtain ⟨rb, hrb⟩ : ∃ b, cb + 1 = b := ⟨_, rfl⟩
  rw [hrb] at hB zB zA
  have hA2 := fB.obj hA id
  have c0 : w2.cell? ⟨cb, 0, none⟩ = some (.int .i64 di) := cell_of_row w2 cb 0 _ _ _ hA2
  have c1 : w2.cell? ⟨cb, 1, none⟩ = some (.int .i64 da) := cell_of_row w2 cb 1 _ _ _ hA2
  have c2 : w2.cell? ⟨cb, 2, none⟩ = some (.int .i64 re) := cell_of_row w2 cb 2 _ _ _ hA2
  have c3 : w2.cell? ⟨cb, 3, none⟩ = some (.int .i64 he) := cell_of_row w2 cb 3 _ _ _ hA2
  have c4 : w2.cell? ⟨cb, 4, none⟩ = some (.int .i64 sl) := cell_of_row w2 cb 4 _ _ _ hA2
  have c5 : w2.cell? ⟨cb, 5, none⟩ = some (.string txt1) := cell_of_row w2 cb 5 _ _ _ hA2
  have c6 : w2.cell? ⟨cb, 6, none⟩ = some (.string inn) := cell_of_row w2 cb 6 _ _ _ hA2
  have c7 : w2.cell? ⟨cb, 7, none⟩ = some (.int .i64 fu) := cell_of_row w2 cb 7 _ _ _ hA2
  have HF2 := Lib.hid (fA.trans fB)
  have HL := Lib.hid (lines_dot di da re he fu sl inn w2 (Cod.tab_fr (fA.trans fB) ht) h1 h2 h3 h4 hs hda hfu)
  unfold Scr.row at hw1 HL ⊢
  unfold resZ at hw2 hB
  have HB := Lib.hid hB
  clear hA hA2 fA fB ht h1 h2 h3 h4 hs hda hfu hB
  go_enter Tryz.func21, Tryz.ntmps21
  go_wp2_with fail
  refine HL.out.mono ?_
  rintro e w3 ⟨lb, m, hr, rfl, hlb, hlbz, hmf, hmo, hmi, hmv, hf3⟩
  obtain ⟨t1, ht1⟩ : ∃ t, (txtM m).out = t := ⟨_, rfl⟩
  obtain ⟨t2, ht2⟩ : ∃ t, (txtM m).fuel = t := ⟨_, rfl⟩
  obtain ⟨t3, ht3⟩ : ∃ t, (txtM m).inn = t := ⟨_, rfl⟩
  obtain ⟨t4, ht4⟩ : ∃ t, (txtM m).over = t := ⟨_, rfl⟩
  have hrow : resC m hr = #[.int .i64 0, .string t1, .slice none 0 0, .int .i64 t2, .string t3, .int .i64 hr, .bool t4] := by unfold resC; rw [ht1, ht2, ht3, ht4]
  have HROW := Lib.hid hrow
  rw [hrow] at hlb
  have d0 : w3.cell? ⟨lb, 0, none⟩ = some (.int .i64 0) := cell_of_row w3 lb 0 _ _ _ hlb
  have d1 : w3.cell? ⟨lb, 1, none⟩ = some (.string t1) := cell_of_row w3 lb 1 _ _ _ hlb
  have d2 : w3.cell? ⟨lb, 2, none⟩ = some (.slice none 0 0) := cell_of_row w3 lb 2 _ _ _ hlb
  have d3 : w3.cell? ⟨lb, 3, none⟩ = some (.int .i64 t2) := cell_of_row w3 lb 3 _ _ _ hlb
  have d4 : w3.cell? ⟨lb, 4, none⟩ = some (.string t3) := cell_of_row w3 lb 4 _ _ _ hlb
  have d5 : w3.cell? ⟨lb, 5, none⟩ = some (.int .i64 hr) := cell_of_row w3 lb 5 _ _ _ hlb
  have d6 : w3.cell? ⟨lb, 6, none⟩ = some (.bool t4) := cell_of_row w3 lb 6 _ _ _ hlb
  have hB3 := hf3.obj HB.out id
  have k0 : w3.cell? ⟨rb, 0, none⟩ = some (.int .i64 0) := cell_of_row w3 rb 0 _ _ _ hB3
  have k1 : w3.cell? ⟨rb, 1, none⟩ = some (.string ⟨#[]⟩) := cell_of_row w3 rb 1 _ _ _ hB3
  have k2 : w3.cell? ⟨rb, 2, none⟩ = some (.slice none 0 0) := cell_of_row w3 rb 2 _ _ _ hB3
  have k3 : w3.cell? ⟨rb, 3, none⟩ = some (.int .i64 0) := cell_of_row w3 rb 3 _ _ _ hB3
  have k4 : w3.cell? ⟨rb, 4, none⟩ = some (.string ⟨#[]⟩) := cell_of_row w3 rb 4 _ _ _ hB3
  have k5 : w3.cell? ⟨rb, 5, none⟩ = some (.int .i64 0) := cell_of_row w3 rb 5 _ _ _ hB3
  have k6 : w3.cell? ⟨rb, 6, none⟩ = some (.bool false) := cell_of_row w3 rb 6 _ _ _ hB3
  have z0 := frozen_of_row w3 rb 0 _ _ hB3
  have z1 := frozen_of_row w3 rb 1 _ _ hB3
  have z2 := frozen_of_row w3 rb 2 _ _ hB3
  have z3 := frozen_of_row w3 rb 3 _ _ hB3
  have z4 := frozen_of_row w3 rb 4 _ _ hB3
  have z5 := frozen_of_row w3 rb 5 _ _ hB3
  have z6 := frozen_of_row w3 rb 6 _ _ hB3
  have hA4 := seven_set hB3 (.int .i64 0) (.string t1) (.slice none 0 0) (.int .i64 t2) (.string t3) (.int .i64 hr) (.bool t4)
  have hF4 := Fr.set7s (p := rb) (Fr.refl _ w3) (x0 := .int .i64 0) (x1 := .string t1) (x2 := .slice none 0 0) (x3 := .int .i64 t2) (x4 := .string t3) (x5 := .int .i64 hr) (x6 := .bool t4)
  have HA4 := Lib.hid hA4
  have HF4 := Lib.hid ((HF2.out.trans hf3).after hF4 (fun k hk e => absurd (show k = rb from e) (by omega)))
  have HM := Lib.hid (And.intro hmf (And.intro hmo (And.intro hmi hmv)))
  clear hA4 hF4 hB3 hlb hrow ht1 ht2 ht3 ht4 hf3 hmf hmo hmi hmv
  go_wp2_with fail
  refine bodyPost_ret (results_cell0 rfl _ _ rb 40 _ (0, 0) _ rfl HA4.out Tryz.underlying40 rfl (by kernel_rfl)) rfl ?_
  exact ⟨m, hr, by rw [HROW.out], HM.out.1, HM.out.2.1, HM.out.2.2.1, HM.out.2.2.2, HF4.out⟩
end Go.Proofs.YthkmbnkkohomeaaGreatDoor.Mem

/- The chapter's example: script.Play of a text with '1 .'. -/
namespace Go.Proofs.YthkmbnkkohomeaaGreatDoor.Mem
open Go.RowKit Go.Maps

def exText : ByteArray := ⟨#[116, 101, 120, 116, 10, 49, 32, 46]⟩
def exOut : ByteArray := ⟨#[99, 111, 100, 101, 32, 48, 10, 115, 116, 97, 99, 107, 10, 108, 101, 102, 116, 32, 57, 57, 57, 55, 10, 111, 117, 116, 10, 49, 32]⟩
theorem ex_parse : parseB 9 scr0 1 exText.data.toList = (⟨16384, 64, 64, 4096, 16, txt1, ⟨#[]⟩, 10000⟩, 0) := by
  unfold parseB
  rw [if_pos (by decide)]
  rfl
theorem ex_shw : (⟨(shw 0 9997 [] (⟨#[49, 32]⟩ : ByteArray).data.toList).toArray⟩ : ByteArray) = exOut := by
  have h1 : Lib.itoa 0 = [48] := by unfold Lib.itoa; rw [if_neg (by decide)]; exact Lib.decDigits_one (by decide)
  have h2 : Lib.itoa 9997 = [57, 57, 57, 55] := by
    unfold Lib.itoa
    rw [if_neg (by decide), show (9997 : Int).toNat = 9997 from rfl, Lib.decDigits, dif_neg (by decide), show 9997 / 10 = 999 from rfl, Lib.decDigits, dif_neg (by decide), show 999 / 10 = 99 from rfl, Lib.decDigits_two (by decide) (by decide)]
    rfl
  unfold shw
  rw [h1, h2]
  rfl

def PlayPost (w : World) (e : Ending) (w' : World) : Prop := e = .returned (.string exOut) ∧ Fr (fun _ => False) w w'

set_option maxRecDepth 100000 in
set_option maxHeartbeats 4000000 in
theorem play_ex (w : World) (hk : Kn w) : Calls Tryz.prog 11 #[.string exText] w fun e w' => PlayPost w e w' := by
  have hp := parse_script exText (by decide) w hk
  rw [show exText.size + 1 = 9 from rfl, ex_parse] at hp
  have HP := Lib.hid (show Calls Tryz.prog 6 #[.string exText] w fun e w' => e = .returned (.tuple #[.agg #[.int .i64 16384, .int .i64 64, .int .i64 64, .int .i64 4096, .int .i64 16, .string txt1, .string ⟨#[]⟩, .int .i64 10000], .int .i64 0]) ∧ Fr (fun _ => False) w w' from hp)
  have HK := Lib.hid hk
  clear hp hk
  go_enter Tryz.func11, Tryz.ntmps11
  go_wp2_with fail
  refine HP.out.mono ?_
  rintro e w1 ⟨rfl, f1⟩
  have hA := heap_alloc_last w1 (.cells (Scr.row ⟨16384, 64, 64, 4096, 16, txt1, ⟨#[]⟩, 10000⟩) 26)
  have fA := (Fr.refl (fun _ => False) w1).alloc (.cells (Scr.row ⟨16384, 64, 64, 4096, 16, txt1, ⟨#[]⟩, 10000⟩) 26)
  obtain ⟨w2, hw2⟩ : ∃ W, w1.alloc (.cells (Scr.row ⟨16384, 64, 64, 4096, 16, txt1, ⟨#[]⟩, 10000⟩) 26) = W := ⟨_, rfl⟩
  rw [hw2] at hA fA
  obtain ⟨cb, hcb⟩ : ∃ b, w1.heap.size = b := ⟨_, rfl⟩
  rw [hcb] at hA
  have c0 : w2.cell? ⟨cb, 0, none⟩ = some (.int .i64 16384) := cell_of_row w2 cb 0 _ _ _ hA
  have c1 : w2.cell? ⟨cb, 1, none⟩ = some (.int .i64 64) := cell_of_row w2 cb 1 _ _ _ hA
  have c2 : w2.cell? ⟨cb, 2, none⟩ = some (.int .i64 64) := cell_of_row w2 cb 2 _ _ _ hA
  have c3 : w2.cell? ⟨cb, 3, none⟩ = some (.int .i64 4096) := cell_of_row w2 cb 3 _ _ _ hA
  have c4 : w2.cell? ⟨cb, 4, none⟩ = some (.int .i64 16) := cell_of_row w2 cb 4 _ _ _ hA
  have c5 : w2.cell? ⟨cb, 5, none⟩ = some (.string txt1) := cell_of_row w2 cb 5 _ _ _ hA
  have c6 : w2.cell? ⟨cb, 6, none⟩ = some (.string ⟨#[]⟩) := cell_of_row w2 cb 6 _ _ _ hA
  have c7 : w2.cell? ⟨cb, 7, none⟩ = some (.int .i64 10000) := cell_of_row w2 cb 7 _ _ _ hA
  have HF2 := Lib.hid (f1.trans fA)
  have hr := run_dot1 16384 64 64 4096 10000 16 ⟨#[]⟩ w2 (HK.out.fr HF2.out).tab (by decide) (by decide) (by decide) (by decide) (by decide) (by decide) ⟨by decide, by decide⟩
  have HR := Lib.hid (show Calls Tryz.prog 21 #[.agg #[.int .i64 16384, .int .i64 64, .int .i64 64, .int .i64 4096, .int .i64 16, .string txt1, .string ⟨#[]⟩, .int .i64 10000]] w2 fun e w' => RunPost 10000 ⟨#[]⟩ w2 e w' from hr)
  simp only [Scr.row] at hw2
  clear hA fA hr f1
  go_wp2_with fail
  refine HR.out.mono ?_
  rintro e w3 ⟨m, hrr, rfl, hmf, hmo, hmi, hmv, f3⟩
  have e1 : (txtM m).out = ⟨#[49, 32]⟩ := by
    show m.out ++ (⟨(Num.udig 10 1).toArray⟩ ++ ⟨#[32]⟩) = _
    rw [hmo, udig_one]
    rfl
  have e2 : (txtM m).fuel = 9997 := by
    show m.fuel - 1 - 1 - 1 = 9997
    rw [hmf]
    rfl
  obtain ⟨t3, ht3⟩ : ∃ t, (txtM m).inn = t := ⟨_, rfl⟩
  obtain ⟨t4, ht4⟩ : ∃ t, (txtM m).over = t := ⟨_, rfl⟩
  have hrow : resC m hrr = #[.int .i64 0, .string ⟨#[49, 32]⟩, .slice none 0 0, .int .i64 9997, .string t3, .int .i64 hrr, .bool t4] := by unfold resC; rw [e1, e2, ht3, ht4]
  rw [hrow]
  have hs := show_ok 0 9997 hrr [] ⟨#[49, 32]⟩ t3 t4 none 0 w3 (HK.out.fr (HF2.out.trans f3)) ⟨by decide, by decide⟩ ⟨by decide, by decide⟩ (by decide) (by decide) (fun n hn => by cases hn) (fun i hi => by cases hi)
  rw [ex_shw] at hs
  have HS := Lib.hid (show Calls Tryz.prog 9 #[.agg #[.int .i64 0, .string ⟨#[49, 32]⟩, .slice none 0 0, .int .i64 9997, .string t3, .int .i64 hrr, .bool t4]] w3 fun e w' => e = .returned (.string exOut) ∧ Fr (fun _ => False) w3 w' from hs)
  have HF3 := Lib.hid (HF2.out.trans f3)
  clear hs f3 e1 e2 ht3 ht4 hrow
  go_wp2_with fail
  refine HS.out.mono ?_
  rintro e w4 ⟨rfl, f4⟩
  go_wp2_with fail
  go_ret
  exact ⟨rfl, HF3.out.trans f4⟩

def LivesPost (w : World) (e : Ending) (w' : World) : Prop := e = .returned (.bool true) ∧ Fr (fun _ => False) w w'
set_option maxRecDepth 100000 in
theorem lives22 (w : World) (hk : Kn w) : Calls Tryz.prog 5 #[] w fun e w' => LivesPost w e w' := by
  have HP := Lib.hid (play_ex w hk)
  unfold exText at HP
  clear hk
  go_enter Tryz.func5, Tryz.ntmps5
  go_wp2_with fail
  refine HP.out.mono ?_
  rintro e w1 ⟨rfl, f1⟩
  unfold exOut
  go_wp2_with fail
  go_ret
  exact ⟨rfl, f1⟩
end Go.Proofs.YthkmbnkkohomeaaGreatDoor.Mem
