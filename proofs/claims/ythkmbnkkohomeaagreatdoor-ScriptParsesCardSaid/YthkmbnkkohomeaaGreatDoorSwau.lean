/- Several texts in one: HpP, WhA, DvA. -/
import Derived.Test.YthkmbnkkohomeaaGreatDoorSwap
import Derived.Deep.RegionWith
import Derived.Deep.RegionHeld3
import Derived.Test.YthkmbnkkohomeaaGreatDoorSwat
import Derived.BigQuiet
set_option linter.unusedSimpArgs false
set_option linter.unusedVariables false
/- Contracts of package heap on the way to vm.New: put, New. -/
namespace Go.Proofs.YthkmbnkkohomeaaGreatDoor.Mem
open Go.RowKit

theorem three_cells {w : World} {b : Nat} {x y z : Value} {t : TypeId} (h : w.heap[b]? = some (.cells #[x, y, z] t (0, 0))) :
    w.cell? ⟨b, 0, none⟩ = some x ∧ w.cell? ⟨b, 1, none⟩ = some y ∧ w.cell? ⟨b, 2, none⟩ = some z ∧ w.frozen? ⟨b, 0, none⟩ = false ∧ w.frozen? ⟨b, 1, none⟩ = false ∧ w.frozen? ⟨b, 2, none⟩ = false ∧ b < w.heap.size :=
  ⟨by rw [cell_of_row w b _ _ _ _ h]; rfl, by rw [cell_of_row w b _ _ _ _ h]; rfl, by rw [cell_of_row w b _ _ _ _ h]; rfl, frozen_of_row w b _ _ _ h, frozen_of_row w b _ _ _ h, frozen_of_row w b _ _ _ h, lt_of_block h⟩
theorem Fr.some {S T : Nat → Prop} {a b : World} (h : Fr S a b) (hs : ∀ k, S k → T k) : Fr T a b := h.mono fun k _ s => hs k s
theorem setc_nat (bs : List UInt8) (y : Nat) (n : Int) (h : y + 8 ≤ bs.length) (h8 : y % 8 = 0) : setc bs (y : Int) n = setv bs y n := by
  unfold setc
  rw [if_pos (code_of (by omega) (by omega) (by omega)), Int.toNat_natCast]

/-- At hb lies a heap of the memory at p, from one place to another. -/
def Heap (w : World) (hb p : Nat) (a z : Int) : Prop := w.heap[hb]? = some (.cells #[.pointer (some ⟨p, 0, none⟩), .int .i64 a, .int .i64 z] 249 (0, 0))

set_option maxRecDepth 100000 in
set_option maxHeartbeats 1000000 in
theorem hput_any (hb p g : Nat) (bs : List UInt8) (a z x n : Int) (u : Bool) (w : World) (h : Mat 221 w p g bs) (hh : Heap w hb p a z) (hn : 0 ≤ n ∧ n ≤ 1048576) :
    Calls Tryz.prog 239 #[.pointer (some ⟨hb, 0, none⟩), .agg #[.int .i64 x, .int .i64 n, .bool u]] w
      fun e w' => e = .returned (.tuple #[]) ∧ Mat 221 w' p g (setc bs x (if u = true then n + 1 else n)) ∧ Only g w w' := by
  have FA := (Fr.refl (fun _ => False) w).alloc (.cells #[.int .i64 x, .int .i64 n, .bool u] 252)
  have OA := heap_alloc_last w (.cells #[.int .i64 x, .int .i64 n, .bool u] 252)
  have hh1 := FA.obj hh id
  obtain ⟨q0, q1, q2, _, _, _, _⟩ := three_cells hh1
  obtain ⟨r0, r1, r2, _, _, _, _⟩ := three_cells OA
  have MA := Lib.hid (h.fr FA id id)
  have HX := Lib.hid (fun v w h => setCell_any p g bs x v w h)
  have HFA := Lib.hid FA
  clear h hh OA hh1 FA
  cases u
  all_goals
    first | rw [if_pos rfl] | rw [if_neg (by decide)]
    go_enter Tryz.func239, Tryz.ntmps239
    go_wp2_with fail
    go_region_with (go_at_call 93; refine (HX.out _ _ (Mat.drew MA.out)).mono ?_; rintro e w1 ⟨rfl, hm, hf⟩; have hf1 := Fr.undrew hf)
    all_goals
      go_wp2_with fail
      (try simp only [Exit.inBlock, Exit.then])
      first
      | refine bodyPost_end (results_none rfl _ _ _) rfl ⟨rfl, hm, ?_⟩
      | refine bodyPost_ret (results_none rfl _ _ _) rfl ⟨rfl, hm, ?_⟩
      exact (Fr.some HFA.out fun _ e => e.elim).trans hf1

set_option maxRecDepth 100000 in
set_option maxHeartbeats 1000000 in
theorem hnew_any (p g a z : Nat) (bs : List UInt8) (w : World) (h : Mat 221 w p g bs) (ha : a % 8 = 0) (hz : z % 8 = 0) (haz : a + 16 ≤ z) (hl : z ≤ bs.length) :
    Calls Tryz.prog 119 #[.pointer (some ⟨p, 0, none⟩), .int .i64 (a : Nat), .int .i64 (z : Nat)] w
      fun e w' => e = .returned (.tuple #[.pointer (some ⟨w.heap.size, 0, none⟩), .int .i64 0]) ∧ Heap w' w.heap.size p a z ∧ Mat 221 w' p g (setv bs a ((z : Int) - a)) ∧ Only g w w' := by
  have hbl := h.2.2.2
  have HSS := Lib.hid (size_any p g bs w h)
  have FA := Lib.hid ((Fr.refl (fun _ => False) w).alloc (.cells #[.pointer (some ⟨p, 0, none⟩), .int .i64 (a : Nat), .int .i64 (z : Nat)] 249))
  have OA := Lib.hid (heap_alloc_last w (.cells #[.pointer (some ⟨p, 0, none⟩), .int .i64 (a : Nat), .int .i64 (z : Nat)] 249))
  have hp := hput_any w.heap.size p g bs a z (a : Int) ((z : Int) - a) false _ (h.fr FA.out id id) OA.out (by omega)
  rw [if_neg (by decide), setc_nat _ _ _ (by omega) ha] at hp
  have HP := Lib.hid hp
  have HG := Lib.hid h.lt
  have e1 : ((a : Int) % 8 != 0) = false := by have : (a : Int) % 8 = 0 := by omega
                                               simp [this]
  have e2 : ((z : Int) % 8 != 0) = false := by have : (z : Int) % 8 = 0 := by omega
                                               simp [this]
  have e3 : (a : Int).tmod 8 = 0 := by rw [Int.tmod_eq_emod_of_nonneg (by omega)]; omega
  have e4 : (z : Int).tmod 8 = 0 := by rw [Int.tmod_eq_emod_of_nonneg (by omega)]; omega
  have c1 : decide ((a : Int) < 0) = false := decide_eq_false (by omega)
  have c2 : decide (((bs.length : Nat) : Int) < (z : Int)) = false := decide_eq_false (by omega)
  have c3 : decide ((z : Int) < (a : Int)) = false := decide_eq_false (by omega)
  have c4 : decide ((z : Int) - a < 16) = false := decide_eq_false (by omega)
  clear h hp
  go_enter Tryz.func119, Tryz.ntmps119
  go_wp2_with (go_at_call 120; refine HSS.out.mono ?_; rintro e w' ⟨rfl, h0⟩; obtain rfl := h0.symm)
  refine HP.out.mono ?_
  rintro e w1 ⟨rfl, hm, hf⟩
  have M1 := Lib.hid hm
  have O1 := Lib.hid (hf.obj OA.out (by have := HG.out; omega))
  have F1 := Lib.hid ((Fr.some FA.out fun _ e => e.elim).trans hf)
  clear hm hf
  go_wp2_with fail
  go_ret2
  exact ⟨rfl, O1.out, M1.out, F1.out⟩

end Go.Proofs.YthkmbnkkohomeaaGreatDoor.Mem

/- vm.whole where the parts have sizes that fit. -/
namespace Go.Proofs.YthkmbnkkohomeaaGreatDoor.Mem
open Go.RowKit

theorem run_index4 (x0 x1 x2 x3 : Value) (i : Nat) (hi : i < 4) (w : World) : (Instr.index 183 (.agg #[x0, x1, x2, x3]) (.int .i64 (i : Int))).run Tryz.prog w = .ok (#[x0, x1, x2, x3][i]'hi) w := by
  have hsz := size_of_info2 (P := Tryz.prog) (t := 2) (n := 1) (by kernel_rfl)
  simp [Instr.index, run_underlying Tryz.underlying183, go_sem]
  rw [if_pos hi, List.getElem?_eq_getElem (by simpa using hi)]
  rfl

/-- The five numbers of a configuration. -/
def cfgC (di da re he sl : Int) : Array Value := #[.int .i64 di, .int .i64 da, .int .i64 re, .int .i64 he, .int .i64 sl]
theorem cfg_new (w : World) (di da re he sl : Int) (t : TypeId) (b : Nat) (h : w.heap[b]? = some (.cells (cfgC di da re he sl) t (0, 0))) :
    w.cell? ⟨b, 0, none⟩ = some (.int .i64 di) ∧ w.cell? ⟨b, 1, none⟩ = some (.int .i64 da) ∧ w.cell? ⟨b, 2, none⟩ = some (.int .i64 re) ∧ w.cell? ⟨b, 3, none⟩ = some (.int .i64 he) ∧ w.cell? ⟨b, 4, none⟩ = some (.int .i64 sl) := by
  refine ⟨?_, ?_, ?_, ?_, ?_⟩ <;> rw [cell_of_row w b _ _ _ _ h] <;> rfl

set_option maxRecDepth 100000 in
set_option maxHeartbeats 2000000 in
theorem whole_ok (di da re he : Nat) (sl : Int) (w : World) (h1 : di % 8 = 0) (h2 : he % 8 = 0) (hs : di + (da + re) * 8 + he ≤ 1048576) :
    Calls Tryz.prog 74 #[.agg (cfgC di da re he sl)] w fun e w' => ∃ p g, e = .returned (.tuple #[.pointer (some ⟨p, 0, none⟩), .int .i64 0]) ∧ w.heap.size ≤ p ∧ w.heap.size ≤ g ∧
      Mat 221 w' p g (List.replicate (di + (da + re) * 8 + he) 0) ∧ Fr (fun _ => False) w w' := by
  have hA := heap_alloc_last w (.cells (cfgC di da re he sl) 24)
  have FA := Lib.hid ((Fr.refl (fun _ => False) w).alloc (.cells (cfgC di da re he sl) 24))
  have hsz : (w.alloc (.cells (cfgC di da re he sl) 24)).heap.size = w.heap.size + 1 := by simp
  obtain ⟨w1, hw1⟩ : ∃ w1, w.alloc (.cells (cfgC di da re he sl) 24) = w1 := ⟨_, rfl⟩
  obtain ⟨c0, c1, c2, c3, c4⟩ := cfg_new _ _ _ _ _ _ _ _ hA
  rw [hw1] at hA FA hsz c0 c1 c2 c3 c4
  have HN := Lib.hid (fun W => new_ok (di + (da + re) * 8 + he) W hs (by omega))
  have i0 : ∀ w, (Instr.index 183 (.agg #[.int .i64 (di : Int), .int .i64 (da : Int), .int .i64 (re : Int), .int .i64 (he : Int)]) (.int .i64 0)).run Tryz.prog w = .ok (.int .i64 (di : Int)) w := fun w => run_index4 _ _ _ _ 0 (by decide) w
  have i1 : ∀ w, (Instr.index 183 (.agg #[.int .i64 (di : Int), .int .i64 (da : Int), .int .i64 (re : Int), .int .i64 (he : Int)]) (.int .i64 1)).run Tryz.prog w = .ok (.int .i64 (da : Int)) w := fun w => run_index4 _ _ _ _ 1 (by decide) w
  have i2 : ∀ w, (Instr.index 183 (.agg #[.int .i64 (di : Int), .int .i64 (da : Int), .int .i64 (re : Int), .int .i64 (he : Int)]) (.int .i64 2)).run Tryz.prog w = .ok (.int .i64 (re : Int)) w := fun w => run_index4 _ _ _ _ 2 (by decide) w
  have i3 : ∀ w, (Instr.index 183 (.agg #[.int .i64 (di : Int), .int .i64 (da : Int), .int .i64 (re : Int), .int .i64 (he : Int)]) (.int .i64 3)).run Tryz.prog w = .ok (.int .i64 (he : Int)) w := fun w => run_index4 _ _ _ _ 3 (by decide) w
  have bd : (di : Int) ≤ 1048576 ∧ (da : Int) ≤ 1048576 ∧ (re : Int) ≤ 1048576 ∧ (he : Int) ≤ 1048576 := by omega
  have e1 : ((di : Int) % 8 != 0) = false := by have : (di : Int) % 8 = 0 := by omega
                                                simp [this]
  have e2 : ((he : Int) % 8 != 0) = false := by have : (he : Int) % 8 = 0 := by omega
                                                simp [this]
  have e3 : (di : Int).tmod 8 = 0 := by rw [Int.tmod_eq_emod_of_nonneg (by omega)]; omega
  have e4 : (he : Int).tmod 8 = 0 := by rw [Int.tmod_eq_emod_of_nonneg (by omega)]; omega
  have HSZ := Lib.hid hsz
  clear hA hsz
  unfold cfgC at hw1 ⊢
  go_enter Tryz.func74, Tryz.ntmps74
  go_wp2
  go_quiet (fail)
  go_wp2
  go_loop [19] (fun iv => ∃ k : Nat, k ≤ 4 ∧ iv = .int .i64 k) (fun iv => 4 - (intOf iv).toNat)
  case atStart => exact ⟨0, Nat.zero_le _, rfl⟩
  case round =>
    obtain ⟨k, hk, hiv⟩ := hrel
    by_cases hlt : k < 4
    · have hk4 : k = 0 ∨ k = 1 ∨ k = 2 ∨ k = 3 := by omega
      rcases hk4 with rfl | rfl | rfl | rfl
      · subst hiv
        go_wp2
        go_roundw
        case rel => exact ⟨1, by omega, by go_num⟩
        case measure => simp [intOf]
      · subst hiv
        go_wp2
        go_roundw
        case rel => exact ⟨2, by omega, by go_num⟩
        case measure => simp [intOf]
      · subst hiv
        go_wp2
        go_roundw
        case rel => exact ⟨3, by omega, by go_num⟩
        case measure => simp [intOf]
      · subst hiv
        go_wp2
        go_roundw
        case rel => exact ⟨4, by omega, by go_num⟩
        case measure => simp [intOf]
    · obtain rfl : k = 4 := by omega
      subst hiv
      go_wp2_with (go_at_call 109; refine (HN.out _).mono ?_; rintro e w' ⟨rfl, hm, hf⟩)
      go_ret2
      have := HSZ.out
      exact ⟨_, _, rfl, by show w.heap.size ≤ w1.heap.size + 1; omega, by show w.heap.size ≤ w1.heap.size; omega, hm, (FA.out.drewN _).trans hf⟩
end Go.Proofs.YthkmbnkkohomeaaGreatDoor.Mem

/- vm.divide where the parts have sizes that fit. -/
namespace Go.Proofs.YthkmbnkkohomeaaGreatDoor.Mem
open Go.RowKit

theorem pair_of {mb g : Nat} {w w' : World} (h : Only g w w') : Fr (fun j => j = mb ∨ j = g) w w' := h.mono fun _ _ e => .inr e
theorem pair_no {mb g : Nat} {w w' : World} (h : Fr (fun _ => False) w w') : Fr (fun j => j = mb ∨ j = g) w w' := h.mono fun _ _ e => e.elim
theorem Fr.own1 {mb g : Nat} {w w' : World} (h : Fr (fun j => j = mb ∨ j = g) w w') (i : Nat) (v : Value) : Fr (fun j => j = mb ∨ j = g) w (w'.setCell ⟨mb, i, none⟩ v) := Fr.setCell h (.inr (.inl rfl)) v
theorem Mat.own {w : World} {p g : Nat} {bs : List UInt8} (h : Mat 221 w p g bs) {mb : Nat} (hne : mb ≠ p ∧ mb ≠ g) (i : Nat) (v : Value) : Mat 221 (w.setCell ⟨mb, i, none⟩ v) p g bs :=
  h.fr ((Fr.refl (fun j => j = mb) w).setOne i v) (fun e => hne.1 e.symm) (fun e => hne.2 e.symm)

set_option maxRecDepth 100000 in
set_option maxHeartbeats 2000000 in
theorem divide_ok (mb p g : Nat) (di da re he : Nat) (sl : Int) (bs : List UInt8) (m : MR) (w : World) (hm : Mch w mb m) (hmat : Mat 221 w p g bs) (h1 : di % 8 = 0) (h2 : he % 8 = 0) (h3 : 16 ≤ he) (h4 : 8 ≤ di) (hs : di + (da + re) * 8 + he = bs.length)
    (hne : mb ≠ p ∧ mb ≠ g) :
    Calls Tryz.prog 77 #[.pointer (some ⟨mb, 0, none⟩), .pointer (some ⟨p, 0, none⟩), .agg (cfgC di da re he sl)] w fun e w' => ∃ hb db rb sb : Nat, e = .returned (.int .i64 0) ∧
      Mch w' mb { m with sp := .pointer (some ⟨sb, 0, none⟩), d := .pointer (some ⟨db, 0, none⟩), r := .pointer (some ⟨rb, 0, none⟩), hp := .pointer (some ⟨hb, 0, none⟩) } ∧
      Heap w' hb p ((di + (da + re) * 8 : Nat) : Int) (bs.length : Int) ∧ Stk w' db p di da 0 (-3) (-4) ∧ Stk w' rb p (di + da * 8) re 0 (-5) (-6) ∧ Sat w' sb p g 8 di 8 (setv bs (di + (da + re) * 8) (he : Int)) ∧
      (w.heap.size ≤ hb ∧ hb < db ∧ db < rb ∧ rb < sb) ∧ Fr (fun j => j = mb ∨ j = g) w w' := by
  have hA := heap_alloc_last w (.cells (cfgC di da re he sl) 24)
  have FA := Lib.hid ((Fr.refl (fun _ => False) w).alloc (.cells (cfgC di da re he sl) 24))
  have hsz : (w.alloc (.cells (cfgC di da re he sl) 24)).heap.size = w.heap.size + 1 := by simp
  obtain ⟨w1, hw1⟩ : ∃ w1, w.alloc (.cells (cfgC di da re he sl) 24) = w1 := ⟨_, rfl⟩
  rw [hw1] at hA FA hsz
  have hbl := hmat.2.2.2
  have hmat1 := hmat.fr FA.out id id
  have hm1 := hm.fr FA.out id
  obtain ⟨wb, hwb⟩ : ∃ wb, w.heap.size = wb := ⟨_, rfl⟩
  rw [hwb] at hA hsz
  have hml := hm.lt
  have hpl := hmat.lt
  rw [hwb] at hml hpl
  have CF := Lib.hid (fun W (h : Fr (fun j => j = mb ∨ j = g) w1 W) => cfg_new W di da re he sl _ wb (h.obj hA (fun e => by rcases e with e | e <;> omega)))
  obtain ⟨c0, c1, c2, c3, c4⟩ := CF.out _ (Fr.refl _ _)
  obtain ⟨L, hL⟩ : ∃ L, bs.length = L := ⟨_, rfl⟩
  have HSS := Lib.hid (size_any p g bs w1 hmat1)
  have hn := hnew_any p g (di + da * 8 + re * 8) L bs w1 hmat1 (by omega) (by omega) (by omega) (by omega)
  have ea : ((L : Nat) : Int) - ((di + da * 8 + re * 8 : Nat) : Int) = he := by omega
  rw [ea] at hn
  rw [hL] at HSS
  push_cast at hn
  have HN := Lib.hid hn
  have ea2 : di + (da + re) * 8 = di + da * 8 + re * 8 := by omega
  rw [ea2, hL]
  obtain ⟨cs, hcs⟩ : ∃ cs, setv bs (di + da * 8 + re * 8) (he : Int) = cs := ⟨_, rfl⟩
  have hcl : cs.length = L := by rw [← hcs, setv_length, hL]
  rw [hcs] at HN ⊢
  have HM1 := Lib.hid hm1
  have fr3 := hm1.free 3
  have m3 := hm1.cells.2.2.2.1
  have HD := Lib.hid (fun W h => stnew_ok p g di da cs (-3) (-4) W h (by omega) (by omega))
  have hr := fun W h => stnew_ok p g (di + da * 8) re cs (-5) (-6) W h (by omega) (by omega)
  push_cast at hr
  have HR := Lib.hid hr
  have hsn := fun W h => snew_ok p g 8 di cs W h h4 (by omega)
  push_cast at hsn
  have HSN := Lib.hid hsn
  have HL1 := Lib.hid hsz
  have bd : (di : Int) ≤ 1048576 ∧ (da : Int) ≤ 1048576 ∧ (re : Int) ≤ 1048576 := by omega
  have hmin : min (8 : Int) (di : Int) = 8 := by omega
  have HNE := Lib.hid hne
  unfold cfgC at hw1 ⊢
  have HL := Lib.hid hL
  clear hm hmat h1 h2 h3 h4 hs hbl hmat1 hm1 hA hr hsn hn ea ea2 hcs hL hcl hsz
  obtain ⟨hb, hhb⟩ : ∃ hb, w1.heap.size = hb := ⟨_, rfl⟩
  rw [hhb] at HN
  go_enter Tryz.func77, Tryz.ntmps77
  go_wp2_with (go_at_call 120; refine HSS.out.mono ?_; rintro e w' ⟨rfl, h0⟩; obtain rfl := h0.symm; clear h0 c0 c1 c2 c3 c4 fr3 m3)
  have hbl1 := HM1.out.lt
  have hpl1 : p < hb ∧ g < hb := by have := HL1.out; omega
  go_wp2_with (go_at_call 119; refine HN.out.mono ?_; rintro e w2 ⟨rfl, hh, hm2, hf2⟩; have F2 := Lib.hid (pair_of (mb := mb) hf2); have M2 := Lib.hid (HM1.out.fr hf2 HNE.out.2); have HH2 := Lib.hid hh; have T2 := Lib.hid hm2; obtain ⟨c0, c1, c2, c3, c4⟩ := CF.out _ F2.out; have x3 := M2.out.cells.2.2.2.1; have z3 := M2.out.free 3; clear hh hm2 hf2)
  have T2' := Lib.hid (Mat.own T2.out HNE.out 3 (.pointer (some ⟨hb, 0, none⟩)))
  have M2' := Lib.hid (M2.out.set3 (.pointer (some ⟨hb, 0, none⟩)))
  have F2' := Lib.hid (Fr.own1 F2.out 3 (.pointer (some ⟨hb, 0, none⟩)))
  have hs2 : hb < w2.heap.size := lt_of_block HH2.out
  obtain ⟨W2, hW2⟩ : ∃ W, w2.setCell ⟨mb, 3, none⟩ (.pointer (some ⟨hb, 0, none⟩)) = W := ⟨_, rfl⟩
  have O2 : Heap W2 hb p ((di : Int) + (da : Int) * 8 + (re : Int) * 8) (L : Int) := by rw [← hW2]; exact ((Fr.refl (fun j => j = mb) w2).setOne 3 (.pointer (some ⟨hb, 0, none⟩))).obj HH2.out (by omega)
  rw [hW2] at T2' M2' F2' ⊢
  have hs2' : hb < W2.heap.size := lt_of_block O2
  have H3 := Lib.hid (HD.out _ T2'.out)
  obtain ⟨db, hdb⟩ : ∃ db, W2.heap.size = db := ⟨_, rfl⟩
  rw [hdb] at H3 hs2'
  have OH2 := Lib.hid O2
  clear c0 c1 c2 c3 c4 x3 z3 T2 M2 F2 O2 hW2
  go_wp2_with (go_at_call 121; (with_reducible refine H3.out.mono ?_); rintro e w3 ⟨rfl, hk3, hf3⟩; have F3 := Lib.hid (F2'.out.trans (pair_no hf3)); have M3 := Lib.hid (M2'.out.fr hf3 id); have T3 := Lib.hid (T2'.out.fr hf3 id id); have K3 := Lib.hid hk3; obtain ⟨c0, c1, c2, c3, c4⟩ := CF.out _ F3.out; have x1 := M3.out.cells.2.1; have z1 := M3.out.free 1; have OH3 := Lib.hid (hf3.obj OH2.out id); clear hk3 hf3)
  have T3' := Lib.hid (Mat.own T3.out HNE.out 1 (.pointer (some ⟨db, 0, none⟩)))
  have M3' := Lib.hid (M3.out.set1 (.pointer (some ⟨db, 0, none⟩)))
  have F3' := Lib.hid (Fr.own1 F3.out 1 (.pointer (some ⟨db, 0, none⟩)))
  have F1s := (Fr.refl (fun j => j = mb) w3).setOne 1 (.pointer (some ⟨db, 0, none⟩))
  have hs3 : db < w3.heap.size := lt_of_block K3.out
  obtain ⟨W3, hW3⟩ : ∃ W, w3.setCell ⟨mb, 1, none⟩ (.pointer (some ⟨db, 0, none⟩)) = W := ⟨_, rfl⟩
  rw [hW3] at T3' M3' F3' F1s ⊢
  have O3 := Lib.hid (F1s.obj OH3.out (by omega))
  have K3' := Lib.hid (K3.out.fr F1s (by omega))
  have hs3' : db < W3.heap.size := lt_of_block K3'.out
  have H4 := Lib.hid (HR.out _ T3'.out)
  obtain ⟨rb, hrb⟩ : ∃ rb, W3.heap.size = rb := ⟨_, rfl⟩
  rw [hrb] at H4 hs3'
  clear c0 c1 c2 c3 c4 x1 z1 T3 M3 F3 F1s hW3 K3 OH3 OH2 HH2
  go_wp2_with (go_at_call 121; (with_reducible refine H4.out.mono ?_); rintro e w4 ⟨rfl, hk4, hf4⟩; have F4 := Lib.hid (F3'.out.trans (pair_no hf4)); have M4 := Lib.hid (M3'.out.fr hf4 id); have T4 := Lib.hid (T3'.out.fr hf4 id id); have K4 := Lib.hid hk4; have KD4 := Lib.hid (K3'.out.fr hf4 id); obtain ⟨c0, c1, c2, c3, c4⟩ := CF.out _ F4.out; have x2 := M4.out.cells.2.2.1; have z2 := M4.out.free 2; have OH4 := Lib.hid (hf4.obj O3.out id); clear hk4 hf4)
  have T4' := Lib.hid (Mat.own T4.out HNE.out 2 (.pointer (some ⟨rb, 0, none⟩)))
  have M4' := Lib.hid (M4.out.set2 (.pointer (some ⟨rb, 0, none⟩)))
  have F4' := Lib.hid (Fr.own1 F4.out 2 (.pointer (some ⟨rb, 0, none⟩)))
  have F1s := (Fr.refl (fun j => j = mb) w4).setOne 2 (.pointer (some ⟨rb, 0, none⟩))
  have hs4 : rb < w4.heap.size := lt_of_block K4.out
  obtain ⟨W4, hW4⟩ : ∃ W, w4.setCell ⟨mb, 2, none⟩ (.pointer (some ⟨rb, 0, none⟩)) = W := ⟨_, rfl⟩
  rw [hW4] at T4' M4' F4' F1s ⊢
  have O4 := Lib.hid (F1s.obj OH4.out (by omega))
  have K4' := Lib.hid (K4.out.fr F1s (by omega))
  have KD4' := Lib.hid (KD4.out.fr F1s (by omega))
  have hs4' : rb < W4.heap.size := lt_of_block K4'.out
  have H5 := Lib.hid (HSN.out _ T4'.out)
  obtain ⟨sb, hsb⟩ : ∃ sb, W4.heap.size = sb := ⟨_, rfl⟩
  rw [hsb] at H5 hs4'
  clear c1 c2 c3 c4 x2 z2 T4 M4 F4 F1s hW4 K4 OH4 O3 K3' KD4
  go_wp2_with (go_at_call 122; (with_reducible refine H5.out.mono ?_); rintro e w5 ⟨rfl, hk5, hf5⟩; have F5 := Lib.hid (F4'.out.trans (pair_no hf5)); have M5 := Lib.hid (M4'.out.fr hf5 id); have S5 := Lib.hid hk5; have K5 := Lib.hid (K4'.out.fr hf5 id); have KD5 := Lib.hid (KD4'.out.fr hf5 id); have x0 := M5.out.cells.1; have z0 := M5.out.free 0; have OH5 := Lib.hid (hf5.obj O4.out id); clear hk5 hf5)
  go_ret
  have F1s := (Fr.refl (fun j => j = mb) w5).setOne 0 (.pointer (some ⟨sb, 0, none⟩))
  have e1 : ((di + da * 8 + re * 8 : Nat) : Int) = (di : Int) + (da : Int) * 8 + (re : Int) * 8 := by push_cast; rfl
  refine ⟨hb, db, rb, sb, rfl, M5.out.set0 _, ?_, KD5.out.fr F1s (by omega), K5.out.fr F1s (by omega), S5.out.fr F1s (by omega) (by omega) (by omega), by have := HL1.out; omega, (FA.out.mono fun _ _ e => e.elim).trans (Fr.own1 F5.out 0 _)⟩
  rw [e1]
  exact F1s.obj OH5.out (by omega)
end Go.Proofs.YthkmbnkkohomeaaGreatDoor.Mem
