/- Contracts of package iface: the selectors of an interface; slices.Equal of numbers. -/
import Derived.Test.YtajeiccfgnpbpaaIfcA
import Derived.Deep.OwnRows
import Derived.Deep.QuietTactic
import Derived.BigQuiet
namespace Go.Proofs.Ytajeiccfgnpbpaa.Mem
open Go.RowKit

theorem cell_in {bs : List UInt8} {a : Nat} (h : a + 8 ≤ bs.length) (h8 : a % 8 = 0) : cell bs (a : Int) = (cellv bs a, 0) := by
  unfold cell
  rw [if_pos (code_of (by omega) (by omega) (by omega)), Int.toNat_natCast]

theorem Fr.row {S : Nat → Prop} {w w' : World} {b : Nat} {t : TypeId} {n : Nat} {f : Nat → Value} (h : w.rowIs b t n f) (k : Fr S w w') (hs : ¬ S b) : w'.rowIs b t n f := h.of_block (k.block b h.lt hs)

set_option maxRecDepth 100000 in
set_option maxHeartbeats 2000000 in
theorem sels_ok (p g at_ n : Nat) (bs : List UInt8) (w : World) (h : Mat 108 w p g bs) (h8 : at_ % 8 = 0) (hin : at_ + 8 * (n + 1) ≤ bs.length) (hv : cellv bs at_ = n) (hn : n ≤ 1024) :
    Calls Try.prog 31 #[.pointer (some ⟨p, 0, none⟩), .int .i64 at_] w
      fun e w' => e = .returned (.tuple #[.slice (some ⟨w.heap.size, 0, none⟩) n n, .bool true]) ∧ w'.rowIs w.heap.size 2 n (fun j => .int .i64 (cellv bs (at_ + 8 * (j + 1)))) ∧ Fr (fun _ => False) w w' := by
  have hmk := run_make_row' (P := Try.prog) 36 2 (.int .i64 0) 8 Try.underlying36 (by kernel_rfl) rfl .i64 .i64 n (by omega) (by omega)
  have HC := Lib.hid (fun (y : Nat) (W : World) (hy : y + 8 ≤ bs.length) (hy8 : y % 8 = 0) (hW : Mat 108 W p g bs) => (show Calls Try.prog 46 #[.pointer (some ⟨p, 0, none⟩), .int .i64 y] W fun e w' => e = .returned (.tuple #[.int .i64 (cellv bs y), .int .i64 0]) ∧ w' = W by
    have := cell_any p g bs y W hW
    rwa [cell_in hy hy8] at this))
  have hlen := h.2.2.2
  have HM := Lib.hid h
  have HV := Lib.hid hv
  have HIN := Lib.hid hin
  have hat : at_ ≤ 1048576 := by omega
  have HR := Lib.hid (World.rowIs_made w (.int .i64 0) n 2)
  have HF0 := Lib.hid ((Fr.refl (fun _ => False) w).alloc (.cells (madeCells #[.int .i64 0] n) 2))
  have c0 := HC.out at_ w (by omega) h8 h
  rw [hv] at c0
  have HC0 := Lib.hid c0
  clear h hv hin hlen c0
  go_enter Try.func31, Try.ntmps31
  go_wp2_with fail
  refine HC0.out.mono ?_
  rintro e w' ⟨rfl, h0⟩
  obtain rfl := h0.symm
  go_wp2_with fail
  obtain ⟨G, hG⟩ : ∃ G, w.heap.size = G := ⟨_, rfl⟩
  rw [hG] at HR ⊢
  obtain ⟨w1, hw1⟩ : ∃ w1, w.alloc (.cells (madeCells #[.int .i64 0] n) 2) = w1 := ⟨_, rfl⟩
  rw [hw1] at HR HF0 ⊢
  have HG := Lib.hid hG
  clear hw1 hG hmk
  go_loopw [30] (fun iv wr => ∃ k : Nat, k ≤ n ∧ iv = .int .i64 k ∧ wr.rowIs G 2 n (fun j => if j < k then .int .i64 (cellv bs (at_ + 8 * (j + 1))) else .int .i64 0) ∧ Fr (fun _ => False) w wr) (fun iv _ => n - (intOf iv).toNat)
  case atStart => exact ⟨0, by omega, rfl, HR.out.congr (fun i hi => by simp), HF0.out⟩
  case round =>
    obtain ⟨k, hk, rfl, hR, hF⟩ := hrel
    have HR1 := Lib.hid hR
    have HF1 := Lib.hid hF
    have hfz := hR.frozen k
    by_cases hlt : k < n
    · have hcell := hR.cell hlt
      rw [if_neg (Nat.lt_irrefl k)] at hcell
      have hc := HC.out (at_ + 8 * (k + 1)) wr (by have := HIN.out; omega) (by omega) (HM.out.fr hF id id)
      obtain ⟨v, hv⟩ : ∃ v, cellv bs (at_ + 8 * (k + 1)) = v := ⟨_, rfl⟩
      rw [hv, show ((at_ + 8 * (k + 1) : Nat) : Int) = (at_ : Int) + ((k : Int) + 1) * 8 by omega] at hc
      have HCK := Lib.hid hc
      have HVK := Lib.hid hv
      clear hR hF hc hv
      go_wp2_with fail
      refine HCK.out.mono ?_
      rintro e w' ⟨rfl, h0⟩
      obtain rfl := h0.symm
      go_wp2_with fail
      go_roundw
      case rel =>
        refine ⟨k + 1, by omega, by go_num, (HR1.out.set k (.int .i64 v)).congr (fun j hj => ?_), HF1.out.setCell (.inl (by rw [HG.out]; exact Nat.le_refl _)) _⟩
        by_cases hjk : j = k
        · subst hjk
          rw [if_pos rfl, if_pos (by omega), HVK.out]
        · rw [if_neg hjk]
          by_cases hj2 : j < k
          · rw [if_pos hj2, if_pos (by omega)]
          · rw [if_neg hj2, if_neg (by omega)]
      case measure => simp [intOf]; omega
    · obtain rfl : k = n := by omega
      clear hR hF
      go_wp2_with fail
      go_ret2
      have hg := HG.out
      subst hg
      exact ⟨rfl, HR1.out.congr (fun j hj => by rw [if_pos hj]), HF1.out⟩

set_option maxRecDepth 100000 in
set_option maxHeartbeats 1000000 in
theorem sels_bad (p g : Nat) (at_ : Int) (bs : List UInt8) (w : World) (h : Mat 108 w p g bs) (hc : (cell bs at_).2 ≠ 0) :
    Calls Try.prog 31 #[.pointer (some ⟨p, 0, none⟩), .int .i64 at_] w fun e w' => e = .returned (.tuple #[.slice none 0 0, .bool false]) ∧ w' = w := by
  have c0 := cell_any p g bs at_ w h
  obtain ⟨⟨v, d⟩, hv⟩ : ∃ r, cell bs at_ = r := ⟨_, rfl⟩
  rw [hv] at c0 hc
  dsimp only at c0 hc
  have hd : (d != 0) = true := by simp [hc]
  have HC0 := Lib.hid c0
  clear h hv hc c0
  go_enter Try.func31, Try.ntmps31
  go_wp2_with fail
  refine HC0.out.mono ?_
  rintro e w' ⟨rfl, h0⟩
  obtain rfl := h0.symm
  go_wp2_with fail
  go_ret2
  exact ⟨rfl, rfl⟩

theorem Ints.of_row {W : World} {S : Nat → Prop} {b : Nat} {t : TypeId} {l : List Int} (h : W.rowIs b t l.length (fun j => .int .i64 (l.getD j 0))) (hb : ∀ n ∈ l, -9223372036854775808 ≤ n ∧ n ≤ 9223372036854775807) (hs : ¬ S b) : Ints W S (.slice (some ⟨b, 0, none⟩) l.length l.length) l := by
  refine ⟨_, _, rfl, hb, .inr ⟨b, 0, rfl, h.lt, hs, fun j hj => ?_⟩⟩
  have := h.cell hj
  simpa [List.getD_eq_getElem?_getD, List.getElem?_eq_getElem hj] using this

set_option maxRecDepth 100000 in
set_option maxHeartbeats 2000000 in
theorem equalI_any (v1 v2 : Value) (l : List Int) (S1 S2 : Nat → Prop) (w : World) (h1 : Ints w S1 v1 l) (h2 : Ints w S2 v2 l) (hL : l.length ≤ 1048576) :
    Calls Try.prog 32 #[v1, v2] w fun e w' => e = .returned (.bool true) ∧ Fr (fun _ => False) w w' := by
  obtain ⟨o1, c1, rfl, _, k1⟩ := h1
  obtain ⟨o2, c2, rfl, _, k2⟩ := h2
  have K1 := Lib.hid k1
  have K2 := Lib.hid k2
  obtain ⟨n, hn⟩ : ∃ n, l.length = n := ⟨_, rfl⟩
  have HN := Lib.hid hn
  rw [hn] at hL ⊢
  clear k1 k2 hn
  go_enter Try.func32, Try.ntmps32
  go_wp2
  go_loopw [13] (fun iv wr => ∃ k : Nat, k ≤ n ∧ iv = .int .i64 k ∧ Fr (fun _ => False) w wr) (fun iv _ => n - (intOf iv).toNat)
  case atStart => exact ⟨0, by omega, rfl, Fr.refl _ _⟩
  case round =>
    obtain ⟨k, hk, rfl, hF⟩ := hrel
    have HF := Lib.hid hF
    clear hF
    by_cases hlt : k < n
    · have hkl : k < l.length := by rw [HN.out]; exact hlt
      obtain ⟨g1, f1, rfl, _, _, hc1⟩ := K1.out.resolve_left (by omega)
      obtain ⟨g2, f2, rfl, _, _, hc2⟩ := K2.out.resolve_left (by omega)
      have r1 := HF.out.cell (hc1 k hkl) id
      have r2 := HF.out.cell (hc2 k hkl) id
      obtain ⟨m, hm⟩ : ∃ m, l[k] = m := ⟨_, rfl⟩
      rw [hm] at r1 r2
      have hk0 : (0 : Int) ≤ k := by omega
      have hkn : (k : Int) < n := by omega
      clear hc1 hc2 hm hkl
      go_wp2
      go_quiet (fail)
      go_wp2
      go_roundw
      case rel => exact ⟨k + 1, by omega, by go_num, HF.out.drewN _⟩
      case measure => simp only [intOf]; omega
    · obtain rfl : k = n := by omega
      go_wp2
      go_ret
      exact ⟨rfl, HF.out⟩
end Go.Proofs.Ytajeiccfgnpbpaa.Mem
