/- Several texts in one: ScF, StA, RnA. -/
import Derived.Test.YthkmbnkkohomeaaGreatDoorSwaj
import Derived.Lib.Strings
import Derived.Test.YthkmbnkkohomeaaGreatDoorSwah
import Derived.Deep.RegionHeld3
set_option linter.unusedSimpArgs false
set_option linter.unusedVariables false
/- The script of a text, as a function: what both Parse give. -/
namespace Go.Proofs.YthkmbnkkohomeaaGreatDoor.Mem
open Go.RowKit

/-- Up to a byte, and what is behind. -/
def cutB (c : UInt8) : List UInt8 → List UInt8 × List UInt8 × Bool
  | [] => ([], [], false)
  | x :: l => if x = c then ([], l, true) else ((x :: (cutB c l).1), (cutB c l).2)

theorem cutB_len (c : UInt8) : ∀ l, (cutB c l).1.length ≤ l.length ∧ (cutB c l).2.1.length ≤ l.length
  | [] => ⟨Nat.le_refl _, Nat.le_refl _⟩
  | x :: l => by
    unfold cutB
    split
    · exact ⟨Nat.zero_le _, by simp⟩
    · have := cutB_len c l
      simp only [List.length_cons]
      omega
theorem cutB_less (c : UInt8) : ∀ l, (cutB c l).2.2 = true → (cutB c l).2.1.length < l.length
  | [], h => by simp [cutB] at h
  | x :: l, h => by
    unfold cutB at h ⊢
    split at h
    · rw [if_pos ‹_›]; simp
    · rw [if_neg ‹_›]
      have := cutB_less c l h
      simp only [List.length_cons]
      omega

/-- Which number a field is. -/
def fidx (x : List UInt8) : Option Nat :=
  if x = [100, 105, 99, 116] then some 0 else
  if x = [100, 97, 116, 97] then some 1 else
  if x = [114, 101, 116, 117, 114, 110] then some 2 else
  if x = [104, 101, 97, 112] then some 3 else
  if x = [115, 108, 111, 116, 115] then some 4 else
  if x = [102, 117, 101, 108] then some 5 else none

def pset (s : Scr) (i : Nat) : Option Int → Bool → Option Scr
  | some n, true => some (s.set i n)
  | _, _ => none
/-- A line: what it makes of a script, none if it is wrong. -/
def pline (s : Scr) (name value : List UInt8) (spaced : Bool) : Option Scr :=
  if name = [105, 110] then some { s with inn := ⟨value.toArray⟩ } else
  match fidx name with
  | none => none
  | some i => pset s i (pnum value) spaced

def scrZ : Scr := ⟨0, 0, 0, 0, 0, ⟨#[]⟩, ⟨#[]⟩, 0⟩
def scr0 : Scr := ⟨16384, 64, 64, 4096, 16, ⟨#[]⟩, ⟨#[]⟩, 10000⟩
/-- The script of a text that begins with line n, and 0, or which line is wrong; so many rounds at most. -/
def parseB : Nat → Scr → Nat → List UInt8 → Scr × Nat
  | 0, _, n, _ => (scrZ, n)
  | k + 1, s, n, t =>
    if (cutB 32 (cutB 10 t).1).1 = [116, 101, 120, 116] ∧ (cutB 32 (cutB 10 t).1).2.1 = [] then ({ s with tx := ⟨(cutB 10 t).2.1.toArray⟩ }, 0)
    else match pline s (cutB 32 (cutB 10 t).1).1 (cutB 32 (cutB 10 t).1).2.1 (cutB 32 (cutB 10 t).1).2.2 with
      | none => (scrZ, n)
      | some s' => if (cutB 10 t).2.2 = true then parseB k s' (n + 1) (cutB 10 t).2.1 else (scrZ, n + 1)

theorem cut_one (c : UInt8) : ∀ l : List UInt8, Lib.cut l [c] = cutB c l
  | [] => by simp [Lib.cut, Lib.index, cutB]
  | x :: l => by
    have ih := cut_one c l
    have hg := Lib.index_ge l [c]
    unfold Lib.cut at ih ⊢
    unfold Lib.index cutB
    by_cases hx : x = c
    · subst hx
      simp [List.isPrefixOf]
    · have hp : ([c].isPrefixOf (x :: l)) = false := by simp [List.isPrefixOf]; exact fun e => hx e.symm
      rw [hp, if_neg hx]
      by_cases h1 : Lib.index l [c] = -1
      · rw [h1] at ih ⊢
        simp at ih ⊢
        rw [← ih]
        exact ⟨rfl, rfl⟩
      · have h0 : 0 ≤ Lib.index l [c] := by omega
        rw [if_pos h0] at ih
        obtain ⟨k, hk⟩ : ∃ k : Nat, Lib.index l [c] = k := ⟨(Lib.index l [c]).toNat, by omega⟩
        rw [hk] at ih ⊢
        have hne : ((k : Int) == -1) = false := by simp
        rw [hne]
        have h2 : ((k : Int) + 1).toNat = k + 1 := by omega
        have h3 : (k : Int).toNat = k := by omega
        rw [h3] at ih
        simp only [Bool.false_eq_true, if_false]
        rw [if_pos (by omega), h2, ← ih]
        simp
end Go.Proofs.YthkmbnkkohomeaaGreatDoor.Mem

/- Contracts of package stack. -/
namespace Go.Proofs.YthkmbnkkohomeaaGreatDoor.Mem
open Go.RowKit
theorem wrap_i64_small2 (n : Int) (h0 : 0 ≤ n) (h1 : n < 9223372036854775808) : IntKind.i64.wrap n = n := by
  simp [IntKind.wrap, IntKind.bits, IntKind.signed]
  split <;> omega

/-- At s lies a stack in the memory at p: n cells from fr on, d of them in use. -/
def Stk (w : World) (s p fr n d : Nat) (ov un : Int) : Prop :=
  w.heap[s]? = some (.cells #[.pointer (some ⟨p, 0, none⟩), .int .i64 fr, .int .i64 n, .int .i64 d, .int .i64 ov, .int .i64 un] 175 (0, 0))
theorem six_cells {w : World} {b : Nat} {x0 x1 x2 x3 x4 x5 : Value} {t : TypeId} (h : w.heap[b]? = some (.cells #[x0, x1, x2, x3, x4, x5] t (0, 0))) :
    w.cell? ⟨b, 0, none⟩ = some x0 ∧ w.cell? ⟨b, 1, none⟩ = some x1 ∧ w.cell? ⟨b, 2, none⟩ = some x2 ∧ w.cell? ⟨b, 3, none⟩ = some x3 ∧ w.cell? ⟨b, 4, none⟩ = some x4 ∧ w.cell? ⟨b, 5, none⟩ = some x5 ∧ ∀ i, w.frozen? ⟨b, i, none⟩ = false :=
  ⟨by rw [cell_of_row w b _ _ _ _ h]; rfl, by rw [cell_of_row w b _ _ _ _ h]; rfl, by rw [cell_of_row w b _ _ _ _ h]; rfl, by rw [cell_of_row w b _ _ _ _ h]; rfl, by rw [cell_of_row w b _ _ _ _ h]; rfl, by rw [cell_of_row w b _ _ _ _ h]; rfl, fun i => frozen_of_row w b i _ _ h⟩
theorem Stk.move {w : World} {s p fr n d : Nat} {ov un : Int} (h : Stk w s p fr n d ov un) (d' : Nat) : Stk (w.setCell ⟨s, 3, none⟩ (.int .i64 d')) s p fr n d' ov un := by
  unfold Stk at h ⊢
  rw [heap_setCell_same w s 3 _ _ _ h]
  rfl
theorem Stk.fr {S : Nat → Prop} {w w' : World} {s p fr n d : Nat} {ov un : Int} (h : Stk w s p fr n d ov un) (f : Fr S w w') (hs : ¬ S s) : Stk w' s p fr n d ov un := f.obj h hs

set_option maxRecDepth 100000 in
set_option maxHeartbeats 1000000 in
theorem stnew_ok (p g fr n : Nat) (bs : List UInt8) (ov un : Int) (w : World) (h : Mat 221 w p g bs) (h8 : fr % 8 = 0) (hn : fr + 8 * n ≤ bs.length) :
    Calls Tryz.prog 121 #[.pointer (some ⟨p, 0, none⟩), .int .i64 fr, .int .i64 n, .int .i64 ov, .int .i64 un] w
      fun e w' => e = .returned (.tuple #[.pointer (some ⟨w.heap.size, 0, none⟩), .int .i64 0]) ∧ Stk w' w.heap.size p fr n 0 ov un ∧ Fr (fun _ => False) w w' := by
  have HS := Lib.hid (fun w h => size_any p g bs w h)
  have H := Lib.hid h
  have hl := h.2.2.2
  obtain ⟨nb, hnn⟩ : ∃ nb, bs.length = nb := ⟨_, rfl⟩
  rw [hnn] at HS hl hn
  have h8' : ((fr : Int) % 8 != 0) = false := by
    have : (fr : Int) % 8 = 0 := by omega
    simp [this]
  have h8n : (fr : Int) % 8 = 0 := by omega
  have hA := heap_alloc_last w (.cells #[.pointer (some ⟨p, 0, none⟩), .int .i64 fr, .int .i64 n, .int .i64 0, .int .i64 ov, .int .i64 un] 175)
  have HA := Lib.hid hA
  have hdv : (n : Int) ≤ ((nb : Int) - fr) / 8 := by omega
  have hdv' : ¬ ((nb : Int) - fr) / 8 < n := by omega
  have hfr : (fr : Int) ≤ nb := by omega
  clear h hnn hA
  go_enter Tryz.func121, Tryz.ntmps121
  go_wp2_with (go_at_call 120; refine (HS.out _ H.out).mono ?_; rintro e w' ⟨rfl, h0⟩; obtain rfl := h0.symm)
  go_ret2
  exact ⟨rfl, HA.out, Fr.alloc (Fr.refl _ _) _⟩

set_option maxRecDepth 100000 in
set_option maxHeartbeats 1000000 in
theorem depth_any (s p fr n d : Nat) (ov un : Int) (w : World) (h : Stk w s p fr n d ov un) :
    Calls Tryz.prog 99 #[.pointer (some ⟨s, 0, none⟩)] w fun e w' => e = .returned (.int .i64 d) ∧ w' = w := by
  obtain ⟨h0, h1, h2, h3, h4, h5, _⟩ := six_cells h
  clear h
  go_enter Tryz.func99, Tryz.ntmps99
  go_wp2
  go_ret
  exact ⟨rfl, rfl⟩

set_option maxRecDepth 100000 in
set_option maxHeartbeats 1000000 in
theorem stcell_any (s p fr n d i : Nat) (ov un : Int) (w : World) (h : Stk w s p fr n d ov un) (hfr : fr ≤ 1048576) (hi : i ≤ 1048576) :
    Calls Tryz.prog 101 #[.pointer (some ⟨s, 0, none⟩), .int .i64 i] w fun e w' => e = .returned (.int .i64 (fr + i * 8 : Nat)) ∧ w' = w := by
  obtain ⟨h0, h1, h2, h3, h4, h5, _⟩ := six_cells h
  clear h
  go_enter Tryz.func101, Tryz.ntmps101
  go_wp2
  go_ret
  exact ⟨rfl, rfl⟩

set_option maxRecDepth 100000 in
set_option maxHeartbeats 1000000 in
theorem at_ok (s p g fr n d i : Nat) (bs : List UInt8) (ov un : Int) (w : World) (h : Stk w s p fr n d ov un) (hm : Mat 221 w p g bs) (h8 : fr % 8 = 0) (hn : fr + n * 8 ≤ bs.length) (hd : d ≤ n) (hi : i < d) :
    Calls Tryz.prog 312 #[.pointer (some ⟨s, 0, none⟩), .int .i64 i] w fun e w' => e = .returned (.tuple #[.int .i64 (cellv bs (fr + (d - 1 - i) * 8)), .int .i64 0]) ∧ ∃ k, w' = w.drewN k := by
  obtain ⟨h0, h1, h2, h3, h4, h5, _⟩ := six_cells h
  have hbl := hm.2.2.2
  obtain ⟨j, hj⟩ : ∃ j, d - 1 - i = j := ⟨_, rfl⟩
  rw [hj]
  have hjd : j < d := by omega
  have hc : cell bs ((fr + j * 8 : Nat) : Int) = (cellv bs (fr + j * 8), 0) := by
    unfold cell
    rw [if_pos (code_of (by omega) (by omega) (by omega)), Int.toNat_natCast]
  have HC := Lib.hid (fun W (hW : Mat 221 W p g bs) => (by
    have h := cell_any p g bs ((fr + j * 8 : Nat) : Int) W hW
    rw [hc] at h
    exact h : Calls Tryz.prog 100 #[.pointer (some ⟨p, 0, none⟩), .int .i64 ((fr + j * 8 : Nat) : Int)] W fun e w' => e = .returned (.tuple #[.int .i64 (cellv bs (fr + j * 8)), .int .i64 0]) ∧ w' = W))
  have HK := Lib.hid (fun W (hW : Stk W s p fr n d ov un) => stcell_any s p fr n d j ov un W hW (by omega) (by omega))
  have HM := Lib.hid hm
  have HS := Lib.hid h
  obtain ⟨cv, hcv⟩ : ∃ cv, cellv bs (fr + j * 8) = cv := ⟨_, rfl⟩
  rw [hcv] at HC ⊢
  have hw1 : IntKind.i64.wrap ((d : Int) - 1) = (d : Int) - 1 := wrap_i64_small2 _ (by omega) (by omega)
  have hw2 : IntKind.i64.wrap ((d : Int) - 1 - (i : Int)) = (j : Int) := by rw [wrap_i64_small2 _ (by omega) (by omega)]; omega
  have hid : (i : Int) < d := by omega
  have hid' : ¬ (d : Int) ≤ i := by omega
  clear h hm hc hcv hj hn h8
  go_enter Tryz.func312, Tryz.ntmps312
  go_wp2_with fail
  go_quiet ((first | (go_at_call 101; exact Calls.quiet_of_same (HK.out _ HS.out)) | (go_at_call 100; exact Calls.quiet_of_same (HC.out _ HM.out))))
  clear hw1 hw2
  go_wp2_with fail
  go_ret2
  exact ⟨rfl, _, rfl⟩

set_option maxRecDepth 100000 in
set_option maxHeartbeats 1000000 in
theorem pop_ok (s p g fr n d : Nat) (bs : List UInt8) (ov un : Int) (w : World) (h : Stk w s p fr n (d + 1) ov un) (hm : Mat 221 w p g bs) (h8 : fr % 8 = 0) (hn : fr + n * 8 ≤ bs.length) (hd : d + 1 ≤ n) :
    Calls Tryz.prog 341 #[.pointer (some ⟨s, 0, none⟩)] w fun e w' => e = .returned (.tuple #[.int .i64 (cellv bs (fr + d * 8)), .int .i64 0]) ∧ Stk w' s p fr n d ov un ∧ Fr (fun j => j = s) w w' := by
  have HA := Lib.hid (at_ok s p g fr n (d + 1) 0 bs ov un w h hm h8 hn hd (by omega))
  rw [show d + 1 - 1 - 0 = d by omega] at HA
  obtain ⟨h0, h1, h2, h3, h4, h5, hz⟩ := six_cells h
  have hz3 := hz 3
  have HD := Lib.hid (fun W (hW : Stk W s p fr n (d + 1) ov un) => depth_any s p fr n (d + 1) ov un W hW)
  have HS := Lib.hid h
  have hbl := hm.2.2.2
  have hd0 : (0 : Int) < ((d + 1 : Nat) : Int) := by omega
  have hdN : d + 1 ≤ 1048576 := by omega
  obtain ⟨cv, hcv⟩ : ∃ cv, cellv bs (fr + d * 8) = cv := ⟨_, rfl⟩
  rw [hcv] at HA ⊢
  clear h hm hz h8 hn hcv
  go_enter Tryz.func341, Tryz.ntmps341
  go_wp2_with fail
  refine HA.out.mono ?_
  rintro e w1 ⟨rfl, k, rfl⟩
  go_wp2_with fail
  refine (HD.out (w.drewN k) (show Stk (w.drewN k) s p fr n (d + 1) ov un from HS.out)).mono ?_
  rintro e w1 ⟨rfl, rfl⟩
  go_wp2_with fail
  have he : Value.int .i64 (((d + 1 : Nat) : Int) - 1) = .int .i64 (d : Nat) := by congr 1; omega
  go_ret2
  refine ⟨rfl, ?_, Fr.setOne ((Fr.refl _ _).drewN k) _ _⟩
  have hmv := (show Stk (w.drewN k) s p fr n (d + 1) ov un from HS.out).move d
  first
    | exact hmv
    | (rw [← he] at hmv; exact hmv)
    | (simpa using hmv)

/-- Numbers put into cells one behind the other. -/
def spush (bs : List UInt8) (a : Nat) : List Int → List UInt8
  | [] => bs
  | n :: l => spush (setv bs a n) (a + 8) l
theorem spush_snoc (n : Int) : ∀ (l : List Int) (bs : List UInt8) (a : Nat), spush bs a (l ++ [n]) = setv (spush bs a l) (a + 8 * l.length) n
  | [], bs, a => by simp [spush]
  | m :: l, bs, a => by
    rw [List.cons_append, spush, spush, spush_snoc n l, List.length_cons]
    congr 1
    omega
theorem spush_length : ∀ (l : List Int) (bs : List UInt8) (a : Nat), (spush bs a l).length = bs.length
  | [], _, _ => rfl
  | n :: l, bs, a => by rw [spush, spush_length l, setv_length]

set_option maxRecDepth 100000 in
set_option maxHeartbeats 2000000 in
theorem push_ok (s p g fr n d q off c : Nat) (l : List Int) (bs : List UInt8) (ov un : Int) (w : World) (h : Stk w s p fr n d ov un) (hm : Mat 221 w p g bs) (h8 : fr % 8 = 0) (hn : fr + n * 8 ≤ bs.length) (hd : d + l.length ≤ n)
    (hl : ∀ i v, l[i]? = some v → w.cell? ⟨q, off + i, none⟩ = some (.int .i64 v)) (hq : q ≠ s ∧ q ≠ g ∧ s ≠ g ∧ s ≠ p) :
    Calls Tryz.prog 194 #[.pointer (some ⟨s, 0, none⟩), .slice (some ⟨q, off, none⟩) l.length c] w
      fun e w' => e = .returned (.int .i64 0) ∧ Mat 221 w' p g (spush bs (fr + d * 8) l) ∧ Stk w' s p fr n (d + l.length) ov un ∧ Fr (fun j => j = s ∨ j = g) w w' := by
  obtain ⟨h0, h1, h2, h3, h4, h5, hz⟩ := six_cells h
  have hbl := hm.2.2.2
  have HS := Lib.hid h
  have HM := Lib.hid hm
  have HL := Lib.hid hl
  have HQ := Lib.hid hq
  obtain ⟨m, hml⟩ : ∃ m, l.length = m := ⟨_, rfl⟩
  rw [hml] at hd ⊢
  have HML := Lib.hid hml
  have H8 := Lib.hid h8
  have HN := Lib.hid hn
  have hfr : fr ≤ 1048576 ∧ n ≤ 131072 := by omega
  have hroom : ¬ (n : Int) - (d : Int) < m := by omega
  have hroom' : (m : Int) ≤ (n : Int) - (d : Int) := by omega
  have hmb : m ≤ 131072 := by omega
  have hdb : d ≤ 131072 := by omega
  clear h hm hl hq hz hml h8 hn
  go_enter Tryz.func194, Tryz.ntmps194
  go_wp2_with fail
  go_quiet (fail)
  go_wp2_with fail
  go_loopw [27] (fun iv wr => ∃ i : Nat, i ≤ m ∧ iv = .int .i64 i ∧ Mat 221 wr p g (spush bs (fr + d * 8) (l.take i)) ∧ Stk wr s p fr n (d + i) ov un ∧ Fr (fun j => j = s ∨ j = g) w wr) (fun iv _ => m - (intOf iv).toNat)
  case atStart => exact ⟨0, Nat.zero_le _, rfl, HM.out, HS.out, (Fr.refl _ _).drewN _⟩
  case round =>
    obtain ⟨i, hi, rfl, hM, hS, hF⟩ := hrel
    by_cases hlt : i < m
    · obtain ⟨v, hv⟩ : ∃ v, l[i]? = some v := ⟨_, List.getElem?_eq_getElem (by have := HML.out; omega)⟩
      have hc := hF.cell (HL.out i v hv) (fun e => e.elim HQ.out.1 HQ.out.2.1)
      obtain ⟨j, hj⟩ : ∃ j, d + i = j := ⟨_, rfl⟩
      rw [hj] at hS
      have HJ := Lib.hid hj
      have hjb : j ≤ 131072 := by omega
      obtain ⟨g0, _, _, g3, _, _, gz⟩ := six_cells hS
      have gz3 := gz 3
      have hlt' : (i : Int) < m := by omega
      have hset := fun W hW => setCell_any p g (spush bs (fr + d * 8) (l.take i)) ((fr + j * 8 : Nat) : Int) v W hW
      have hcd : code (spush bs (fr + d * 8) (l.take i)).length ((fr + j * 8 : Nat) : Int) = 0 := code_of (by omega) (by rw [spush_length]; have := HN.out; have := HJ.out; omega) (by have := H8.out; omega)
      have hnx : setc (spush bs (fr + d * 8) (l.take i)) ((fr + j * 8 : Nat) : Int) v = spush bs (fr + d * 8) (l.take (i + 1)) := by
        unfold setc
        rw [if_pos hcd, Int.toNat_natCast, List.take_add_one, hv]
        rw [show (some v).toList = [v] from rfl, spush_snoc]
        congr 1
        rw [List.length_take]
        have := HML.out
        have := HJ.out
        omega
      rw [hcd, hnx] at hset
      have he8 : ((fr + j * 8 : Nat) : Int) = (fr : Int) + (j : Int) * 8 := by omega
      rw [he8] at hset
      have HSET := Lib.hid hset
      have HK := Lib.hid (fun W (hW : Stk W s p fr n j ov un) => stcell_any s p fr n j j ov un W hW (by omega) (by omega))
      have HM1 := Lib.hid hM
      have HS1 := Lib.hid hS
      have HF1 := Lib.hid hF
      clear hM hS hF gz hcd hnx hset hv hj he8
      go_wp2_with fail
      go_region_held3 (fun W => W.cell? ⟨s, 0, none⟩ = some (.pointer (some ⟨p, 0, none⟩)) ∧ W.cell? ⟨s, 3, none⟩ = some (.int .i64 (j : Int)) ∧ Fr (fun j => j = g) wr W)
        ((go_split_ands; refine (fun hF => ⟨Fr.cell hF g0 HQ.out.2.2.1, Fr.cell hF g3 HQ.out.2.2.1, hF⟩ : Fr (fun j => j = g) wr _ → _) ?_; repeat' first | exact Fr.refl _ _ | assumption | apply Fr.drew))
        (first | (go_at_call 101; go_split_ands; (with_reducible refine (HK.out _ ?_).mono ?_); exact (show Stk _ s p fr n j ov un from HS1.out); rintro e w8 ⟨rfl, h0⟩; obtain rfl := h0.symm) | (go_at_call 93; go_split_ands; (with_reducible refine (HSET.out _ ?_).mono ?_); (first | exact HM1.out | exact Mat.drew HM1.out); rintro e w9 ⟨rfl, hm9, hf9⟩; have hf9' := Fr.undrew hf9) | fail)
      obtain ⟨k0, _, _, k3, _, _, kz⟩ := six_cells (HS1.out.fr hf9' HQ.out.2.2.1)
      have kz3 := kz 3
      have HS2 := Lib.hid (HS1.out.fr hf9' HQ.out.2.2.1)
      have HM2 := Lib.hid hm9
      have HF2 := Lib.hid (HF1.out.trans (hf9'.mono fun _ _ e => .inr e))
      clear hm9 hf9 hf9' kz g0 g3 gz3
      go_wp2_with fail
      go_roundw
      case rel =>
        have hmv := HS2.out.move (d + (i + 1))
        refine ⟨i + 1, by omega, by go_num, HM2.out.fr (Fr.setOne (p := s) (Fr.refl _ _) _ _) (fun e => HQ.out.2.2.2 e.symm) (fun e => HQ.out.2.2.1 e.symm), ?_, HF2.out.trans (Fr.setCell (S := fun j => j = s ∨ j = g) (Fr.refl _ _) (.inr (.inl rfl)) _)⟩
        have he : ((d + (i + 1) : Nat) : Int) = (j : Int) + 1 := by have := HJ.out; omega
        rw [he] at hmv
        first
          | exact hmv
          | (simpa using hmv)
      case measure => simp only [intOf]; omega
    · obtain rfl : i = m := by omega
      have HM1 := Lib.hid hM
      have HS1 := Lib.hid hS
      have HF1 := Lib.hid hF
      clear hM hS hF
      go_wp2_with fail
      go_ret
      have hM := HM1.out
      rw [List.take_of_length_le (by have := HML.out; omega)] at hM
      exact ⟨rfl, hM, HS1.out, HF1.out⟩
end Go.Proofs.YthkmbnkkohomeaaGreatDoor.Mem

/- stack.All of an empty stack. -/
namespace Go.Proofs.YthkmbnkkohomeaaGreatDoor.Mem
open Go.RowKit

set_option maxRecDepth 100000 in
theorem all0_ok (s p fr n : Nat) (ov un : Int) (w : World) (h : Stk w s p fr n 0 ov un) :
    Calls Tryz.prog 60 #[.pointer (some ⟨s, 0, none⟩)] w fun e w' => e = .returned (.slice none 0 0) ∧ w' = w := by
  have HD := Lib.hid (depth_any s p fr n 0 ov un w h)
  clear h
  go_enter Tryz.func60, Tryz.ntmps60
  go_wp2_with (go_at_call 99; refine HD.out.mono ?_; rintro e w' ⟨rfl, h0⟩; obtain rfl := h0.symm; clear h0)
  go_loop [9, 3] (fun iv lv => iv = .int .i64 0 ∧ lv = .slice none 0 0) (fun _ _ => 0)
  case atStart => exact ⟨rfl, rfl⟩
  case round =>
    obtain ⟨rfl, rfl⟩ := hrel
    go_wp2_with fail
    go_ret
    exact ⟨rfl, rfl⟩
end Go.Proofs.YthkmbnkkohomeaaGreatDoor.Mem
