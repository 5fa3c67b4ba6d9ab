/- Contracts of package iface: interfaces are laid into a memory. -/
import Derived.Test.YtajeiccfgnpbpaaQg
import Derived.Deep.OwnRows
import Derived.Deep.QuietTactic
import Derived.BigQuiet
set_option linter.unusedSimpArgs false
set_option linter.unusedVariables false

namespace Go.Proofs.Ytajeiccfgnpbpaa.Mem
open Go.RowKit

/-- A slice of numbers that is read, in a block of which S says nothing. -/
def Ints (W : World) (S : Nat → Prop) (v : Value) (l : List Int) : Prop :=
  ∃ o c, v = .slice o l.length c ∧ (∀ n ∈ l, -9223372036854775808 ≤ n ∧ n ≤ 9223372036854775807) ∧ (l.length = 0 ∨ ∃ bb off, o = some ⟨bb, off, none⟩ ∧ bb < W.heap.size ∧ ¬ S bb ∧ ∀ j (h : j < l.length), W.cell? ⟨bb, off + j, none⟩ = some (.int .i64 l[j]))

theorem Ints.fr {S T : Nat → Prop} {W W' : World} {v : Value} {l : List Int} (h : Ints W S v l) (f : Fr T W W') (hs : ∀ k, k < W.heap.size → T k → S k) : Ints W' S v l := by
  obtain ⟨o, c, hv, hb, hc⟩ := h
  refine ⟨o, c, hv, hb, hc.imp id fun ⟨bb, off, ho, hlt, hn, hcell⟩ => ⟨bb, off, ho, Nat.lt_of_lt_of_le hlt f.size, hn, fun j hj => f.cell (hcell j hj) (fun t => hn (hs bb hlt t))⟩⟩

/-- What the laying of an interface leaves. -/
def ilayv (z x : Nat) (bs : List UInt8) (l : List Int) : (Int × Int) × Nat × List UInt8 :=
  if (layl z ((l.length : Int) :: l) x bs).2.2 = true then ((x, 0), (layl z ((l.length : Int) :: l) x bs).1, (layl z ((l.length : Int) :: l) x bs).2.1) else ((0, -8), (layl z ((l.length : Int) :: l) x bs).1, (layl z ((l.length : Int) :: l) x bs).2.1)

set_option maxRecDepth 100000 in
set_option maxHeartbeats 2000000 in
theorem ilay_any (b p g a z x : Nat) (bs : List UInt8) (v : Value) (l : List Int) (w : World) (h : Sat w b p g a z x bs) (h8 : x % 8 = 0) (hl : Ints w (fun j => j = b ∨ j = g) v l) (hn : l.length ≤ 1024) :
    Calls Try.prog 81 #[.pointer (some ⟨b, 0, none⟩), v] w
      fun e w' => e = .returned (.tuple #[.int .i64 (ilayv z x bs l).1.1, .int .i64 (ilayv z x bs l).1.2]) ∧ Sat w' b p g a z (ilayv z x bs l).2.1 (ilayv z x bs l).2.2 ∧ Both b g w w' := by
  obtain ⟨o, c, rfl, hbd, hcell⟩ := hl
  obtain ⟨⟨⟨v1, v2⟩, vy, vcs⟩, hv⟩ : ∃ v, ilayv z x bs l = v := ⟨_, rfl⟩
  rw [hv]
  dsimp only
  unfold ilayv at hv
  obtain ⟨res, hres⟩ : ∃ r, layl z ((l.length : Int) :: l) x bs = r := ⟨_, rfl⟩
  rw [hres] at hv
  have HV := Lib.hid hv
  have HS0 := Lib.hid h
  have H8 := Lib.hid h8
  have HC := Lib.hid hcell
  have HAL := Lib.hid (align_ok b p g a z x bs w h h8)
  have HH := Lib.hid (here_any b p g a z x bs w h)
  have HCM := Lib.hid (fun y cs n W h h8 hz => comma_ok b p g a z y cs n W h h8 hz)
  have HFU := Lib.hid (fun y cs n W h hz => comma_full b p g a z y cs n W h hz)
  have hbx := h.bd
  have hx : x ≤ 1048576 := by omega
  have hd : b < w.heap.size ∧ g < w.heap.size := ⟨h.lt.1, h.lt.2.2⟩
  obtain ⟨n, hnn⟩ : ∃ n, l.length = n := ⟨_, rfl⟩
  have HL := Lib.hid hnn
  rw [hnn] at hn hres ⊢
  clear h h8 hcell hv hbx hnn hbd
  go_enter Try.func81, Try.ntmps81
  by_cases hfit : x + 8 ≤ z
  · rw [layl, if_pos hfit] at hres
    have HRES := Lib.hid hres
    clear hres
    go_wp2_with fail
    refine HAL.out.mono ?_
    rintro e w' ⟨rfl, h0⟩
    obtain rfl := h0.symm
    go_wp2_with fail
    refine HH.out.mono ?_
    rintro e w' ⟨rfl, h0⟩
    obtain rfl := h0.symm
    go_wp2_with fail
    refine (HCM.out _ _ _ _ HS0.out H8.out hfit).mono ?_
    rintro e w1 ⟨rfl, hs, hf⟩
    have HS1 := Lib.hid hs
    have HF1 := Lib.hid hf
    clear hs hf
    go_wp2_with fail
    go_loopw [28] (fun iv wr => ∃ k : Nat, k ≤ n ∧ iv = .int .i64 k ∧ ∃ y cs, Sat wr b p g a z y cs ∧ y % 8 = 0 ∧ layl z (l.drop k) y cs = res ∧ Both b g w wr) (fun iv _ => n - (intOf iv).toNat)
    case atStart => exact ⟨0, by omega, rfl, _, _, HS1.out, by have := H8.out; omega, HRES.out, HF1.out⟩
    case round =>
      obtain ⟨k, hk, rfl, y, cs, hS, hy8, hly, hF⟩ := hrel
      have HS := Lib.hid hS
      have HF := Lib.hid hF
      have HY8 := Lib.hid hy8
      clear hS hF hy8
      by_cases hlt : k < n
      · obtain ⟨bb, off, rfl, hbb, hns, hcell⟩ := HC.out.resolve_left (by rw [HL.out]; omega)
        have hkl : k < l.length := by rw [HL.out]; exact hlt
        have hc := HF.out.cell (hcell k hkl) hns
        rw [List.drop_eq_getElem_cons hkl] at hly
        obtain ⟨m, hm⟩ : ∃ m, l[k] = m := ⟨_, rfl⟩
        rw [hm] at hc hly
        clear hcell hm
        by_cases hfit2 : y + 8 ≤ z
        · rw [layl, if_pos hfit2] at hly
          have HLY := Lib.hid hly
          have HC2 := Lib.hid (HCM.out y cs m _ HS.out HY8.out hfit2)
          clear hly
          go_wp2_with fail
          refine HC2.out.mono ?_
          rintro e w2 ⟨rfl, hs, hf⟩
          have HS2 := Lib.hid hs
          have HF2 := Lib.hid (HF.out.trans hf)
          clear hs hf
          go_wp2_with fail
          go_roundw
          case rel => exact ⟨k + 1, by omega, by go_num, _, _, HS2.out, by have := HY8.out; omega, HLY.out, HF2.out⟩
          case measure => simp [intOf]; omega
        · rw [layl, if_neg hfit2] at hly
          have HLY := Lib.hid hly
          have HC2 := Lib.hid (HFU.out y cs m _ HS.out hfit2)
          clear hly
          go_wp2_with fail
          refine HC2.out.mono ?_
          rintro e w2 ⟨rfl, hs, hf⟩
          have HS2 := Lib.hid hs
          have HF2 := Lib.hid (HF.out.trans (Fr.some hf fun _ e => e.elim))
          clear hs hf
          go_wp2_with fail
          go_ret2
          have hv := HV.out
          rw [← HLY.out, if_neg (by simp)] at hv
          cases hv
          exact ⟨rfl, HS2.out, HF2.out⟩
      · obtain rfl : k = n := by omega
        rw [List.drop_eq_nil_of_le (by rw [HL.out]; omega), layl] at hly
        have HLY := Lib.hid hly
        clear hly
        go_wp2_with fail
        go_ret2
        have hv := HV.out
        rw [← HLY.out, if_pos rfl] at hv
        cases hv
        exact ⟨rfl, HS.out, HF.out⟩
  · rw [layl, if_neg hfit] at hres
    have HRES := Lib.hid hres
    clear hres
    go_wp2_with fail
    refine HAL.out.mono ?_
    rintro e w' ⟨rfl, h0⟩
    obtain rfl := h0.symm
    go_wp2_with fail
    refine HH.out.mono ?_
    rintro e w' ⟨rfl, h0⟩
    obtain rfl := h0.symm
    go_wp2_with fail
    refine (HFU.out _ _ _ _ HS0.out hfit).mono ?_
    rintro e w2 ⟨rfl, hs, hf⟩
    have HS2 := Lib.hid hs
    have HF2 := Lib.hid (Fr.some (T := fun j => j = b ∨ j = g) hf fun _ e => e.elim)
    clear hs hf
    go_wp2_with fail
    go_ret2
    have hv := HV.out
    rw [← HRES.out, if_neg (by simp)] at hv
    cases hv
    exact ⟨rfl, HS2.out, HF2.out⟩

/-- What New leaves. -/
def inewv (z x : Nat) (bs : List UInt8) (l : List Int) : (Int × Int) × Nat × List UInt8 :=
  if (ilayv z x bs l).1.2 = 0 then ilayv z x bs l else ((0, (ilayv z x bs l).1.2), x, (ilayv z x bs l).2.2)

theorem ilayv_inv (z x : Nat) (bs : List UInt8) (l : List Int) (h : x ≤ z) : x ≤ (ilayv z x bs l).2.1 ∧ (ilayv z x bs l).2.1 ≤ z ∧ (ilayv z x bs l).2.1 % 8 = x % 8 ∧ (ilayv z x bs l).2.2.length = bs.length := by
  have hl := layl_inv z ((l.length : Int) :: l) x bs h
  unfold ilayv
  split <;> exact hl

set_option maxRecDepth 100000 in
set_option maxHeartbeats 2000000 in
theorem inew_any (b p g a z x : Nat) (bs : List UInt8) (v : Value) (l : List Int) (w : World) (h : Sat w b p g a z x bs) (h8 : x % 8 = 0) (hl : Ints w (fun j => j = b ∨ j = g) v l) (hn : l.length ≤ 1024) :
    Calls Try.prog 30 #[.pointer (some ⟨b, 0, none⟩), v] w
      fun e w' => e = .returned (.tuple #[.int .i64 (inewv z x bs l).1.1, .int .i64 (inewv z x bs l).1.2]) ∧ Sat w' b p g a z (inewv z x bs l).2.1 (inewv z x bs l).2.2 ∧ Both b g w w' := by
  obtain ⟨⟨⟨v1, v2⟩, vy, vcs⟩, hv⟩ : ∃ v, inewv z x bs l = v := ⟨_, rfl⟩
  rw [hv]
  dsimp only
  have hla := ilay_any b p g a z x bs v l w h h8 hl hn
  have hinv := ilayv_inv z x bs l h.bd.2.1
  unfold inewv at hv
  obtain ⟨⟨⟨r1, r2⟩, ry, rcs⟩, hr⟩ : ∃ r, ilayv z x bs l = r := ⟨_, rfl⟩
  rw [hr] at hv hla hinv
  dsimp only at hv hla hinv
  have HV := Lib.hid hv
  have HLA := Lib.hid hla
  have HINV := Lib.hid hinv
  have HH := Lib.hid (here_any b p g a z x bs w h)
  have HBK := Lib.hid (fun y cs W h ha hx => back_ok b p g a z y x cs W h ha hx)
  have hax := h.bd.1
  obtain ⟨o, c, rfl, _, _⟩ := hl
  obtain ⟨n, hnn⟩ : ∃ n, l.length = n := ⟨_, rfl⟩
  rw [hnn] at hn HLA ⊢
  clear h h8 hla hinv hv hr hnn
  have hn' : ¬ ((n : Int) > 1024) := by omega
  go_enter Try.func30, Try.ntmps30
  by_cases he : r2 = 0
  · subst he
    go_wp2_with fail
    refine HH.out.mono ?_
    rintro e w' ⟨rfl, h0⟩
    obtain rfl := h0.symm
    go_wp2_with fail
    refine HLA.out.mono ?_
    rintro e w1 ⟨rfl, hs, hf⟩
    have HS1 := Lib.hid hs
    have HF1 := Lib.hid hf
    clear hs hf
    go_wp2_with fail
    go_ret2
    have hv := HV.out
    rw [if_pos (c := True) trivial] at hv
    cases hv
    exact ⟨rfl, HS1.out, HF1.out⟩
  · have he' : (r2 != 0) = true := by simp [he]
    have HE := Lib.hid he
    clear he
    go_wp2_with fail
    refine HH.out.mono ?_
    rintro e w' ⟨rfl, h0⟩
    obtain rfl := h0.symm
    go_wp2_with fail
    refine HLA.out.mono ?_
    rintro e w1 ⟨rfl, hs, hf⟩
    have HS1 := Lib.hid hs
    have HF1 := Lib.hid hf
    clear hs hf
    go_wp2_with fail
    refine (HBK.out _ _ _ HS1.out hax HINV.out.1).mono ?_
    rintro e w2 ⟨rfl, hs, hf⟩
    have HS2 := Lib.hid hs
    have HF2 := Lib.hid (HF1.out.trans (Fr.some (T := fun j => j = b ∨ j = g) hf fun _ e => .inl e))
    clear hs hf
    go_wp2_with fail
    go_ret2
    have hv := HV.out
    rw [if_neg HE.out] at hv
    cases hv
    exact ⟨rfl, HS2.out, HF2.out⟩

set_option maxRecDepth 100000 in
theorem inew_nil (v : Value) (w : World) : Calls Try.prog 30 #[.pointer none, v] w fun e w' => e = .returned (.tuple #[.int .i64 0, .int .i64 (-256)]) ∧ w' = w := by
  go_enter Try.func30, Try.ntmps30
  go_wp2
  go_ret2
  exact ⟨rfl, rfl⟩

set_option maxRecDepth 100000 in
theorem inew_many (b : Nat) (t : TypeId) (cs : Array Value) (fr : Nat × Nat) (o : Option Addr) (n c : Nat) (w : World) (hb : w.heap[b]? = some (.cells cs t fr)) (hn : 1024 < n) : Calls Try.prog 30 #[.pointer (some ⟨b, 0, none⟩), .slice o n c] w fun e w' => e = .returned (.tuple #[.int .i64 0, .int .i64 (-256)]) ∧ w' = w := by
  have hn' : ((n : Int) > 1024) := by omega
  have d1 : decide ((1024 : Int) < n) = true := by simp; omega
  go_enter Try.func30, Try.ntmps30
  go_wp2
  go_ret2
  exact ⟨rfl, rfl⟩
end Go.Proofs.Ytajeiccfgnpbpaa.Mem

namespace Go.Proofs.Ytajeiccfgnpbpaa.Mem
open Go.RowKit

theorem cell_in {bs : List UInt8} {a : Nat} (h : a + 8 ≤ bs.length) (h8 : a % 8 = 0) : cell bs (a : Int) = (cellv bs a, 0) := by
  unfold cell
  rw [if_pos (code_of (by omega) (by omega) (by omega)), Int.toNat_natCast]

theorem Fr.row {S : Nat → Prop} {w w' : World} {b : Nat} {t : TypeId} {n : Nat} {f : Nat → Value} (h : w.rowIs b t n f) (k : Fr S w w') (hs : ¬ S b) : w'.rowIs b t n f := h.of_block (k.block b h.lt hs)

set_option maxRecDepth 100000 in
set_option maxHeartbeats 2000000 in
theorem sels_ok (p g at_ n : Nat) (bs : List UInt8) (w : World) (h : Mat 108 w p g bs) (h8 : at_ % 8 = 0) (hin : at_ + 8 * (n + 1) ≤ bs.length) (hv : cellv bs at_ = n) (hn : n ≤ 1024) :
    Calls Try.prog 31 #[.pointer (some ⟨p, 0, none⟩), .int .i64 at_] w
      fun e w' => e = .returned (.tuple #[.slice (some ⟨w.heap.size, 0, none⟩) n n, .bool true]) ∧ w'.rowIs w.heap.size 2 n (fun j => .int .i64 (cellv bs (at_ + 8 * (j + 1)))) ∧ Fr (fun _ => False) w w' := by
  have hmk := run_make_row' (P := Try.prog) 36 2 (.int .i64 0) 8 Try.underlying36 (by kernel_rfl) rfl .i64 .i64 n (by omega) (by omega)
  have HC := Lib.hid (fun (y : Nat) (W : World) (hy : y + 8 ≤ bs.length) (hy8 : y % 8 = 0) (hW : Mat 108 W p g bs) => (show Calls Try.prog 46 #[.pointer (some ⟨p, 0, none⟩), .int .i64 y] W fun e w' => e = .returned (.tuple #[.int .i64 (cellv bs y), .int .i64 0]) ∧ w' = W by
    have := cell_any p g bs y W hW
    rwa [cell_in hy hy8] at this))
  have hlen := h.2.2.2
  have HM := Lib.hid h
  have HV := Lib.hid hv
  have HIN := Lib.hid hin
  have hat : at_ ≤ 1048576 := by omega
  have HR := Lib.hid (World.rowIs_made w (.int .i64 0) n 2)
  have HF0 := Lib.hid ((Fr.refl (fun _ => False) w).alloc (.cells (madeCells #[.int .i64 0] n) 2))
  have c0 := HC.out at_ w (by omega) h8 h
  rw [hv] at c0
  have HC0 := Lib.hid c0
  clear h hv hin hlen c0
  go_enter Try.func31, Try.ntmps31
  go_wp2_with fail
  refine HC0.out.mono ?_
  rintro e w' ⟨rfl, h0⟩
  obtain rfl := h0.symm
  go_wp2_with fail
  obtain ⟨G, hG⟩ : ∃ G, w.heap.size = G := ⟨_, rfl⟩
  rw [hG] at HR ⊢
  obtain ⟨w1, hw1⟩ : ∃ w1, w.alloc (.cells (madeCells #[.int .i64 0] n) 2) = w1 := ⟨_, rfl⟩
  rw [hw1] at HR HF0 ⊢
  have HG := Lib.hid hG
  clear hw1 hG hmk
  go_loopw [30] (fun iv wr => ∃ k : Nat, k ≤ n ∧ iv = .int .i64 k ∧ wr.rowIs G 2 n (fun j => if j < k then .int .i64 (cellv bs (at_ + 8 * (j + 1))) else .int .i64 0) ∧ Fr (fun _ => False) w wr) (fun iv _ => n - (intOf iv).toNat)
  case atStart => exact ⟨0, by omega, rfl, HR.out.congr (fun i hi => by simp), HF0.out⟩
  case round =>
    obtain ⟨k, hk, rfl, hR, hF⟩ := hrel
    have HR1 := Lib.hid hR
    have HF1 := Lib.hid hF
    have hfz := hR.frozen k
    by_cases hlt : k < n
    · have hcell := hR.cell hlt
      rw [if_neg (Nat.lt_irrefl k)] at hcell
      have hc := HC.out (at_ + 8 * (k + 1)) wr (by have := HIN.out; omega) (by omega) (HM.out.fr hF id id)
      obtain ⟨v, hv⟩ : ∃ v, cellv bs (at_ + 8 * (k + 1)) = v := ⟨_, rfl⟩
      rw [hv, show ((at_ + 8 * (k + 1) : Nat) : Int) = (at_ : Int) + ((k : Int) + 1) * 8 by omega] at hc
      have HCK := Lib.hid hc
      have HVK := Lib.hid hv
      clear hR hF hc hv
      go_wp2_with fail
      refine HCK.out.mono ?_
      rintro e w' ⟨rfl, h0⟩
      obtain rfl := h0.symm
      go_wp2_with fail
      go_roundw
      case rel =>
        refine ⟨k + 1, by omega, by go_num, (HR1.out.set k (.int .i64 v)).congr (fun j hj => ?_), HF1.out.setCell (.inl (by rw [HG.out]; exact Nat.le_refl _)) _⟩
        by_cases hjk : j = k
        · subst hjk
          rw [if_pos rfl, if_pos (by omega), HVK.out]
        · rw [if_neg hjk]
          by_cases hj2 : j < k
          · rw [if_pos hj2, if_pos (by omega)]
          · rw [if_neg hj2, if_neg (by omega)]
      case measure => simp [intOf]; omega
    · obtain rfl : k = n := by omega
      clear hR hF
      go_wp2_with fail
      go_ret2
      have hg := HG.out
      subst hg
      exact ⟨rfl, HR1.out.congr (fun j hj => by rw [if_pos hj]), HF1.out⟩

set_option maxRecDepth 100000 in
set_option maxHeartbeats 1000000 in
theorem sels_bad (p g : Nat) (at_ : Int) (bs : List UInt8) (w : World) (h : Mat 108 w p g bs) (hc : (cell bs at_).2 ≠ 0) :
    Calls Try.prog 31 #[.pointer (some ⟨p, 0, none⟩), .int .i64 at_] w fun e w' => e = .returned (.tuple #[.slice none 0 0, .bool false]) ∧ w' = w := by
  have c0 := cell_any p g bs at_ w h
  obtain ⟨⟨v, d⟩, hv⟩ : ∃ r, cell bs at_ = r := ⟨_, rfl⟩
  rw [hv] at c0 hc
  dsimp only at c0 hc
  have hd : (d != 0) = true := by simp [hc]
  have HC0 := Lib.hid c0
  clear h hv hc c0
  go_enter Try.func31, Try.ntmps31
  go_wp2_with fail
  refine HC0.out.mono ?_
  rintro e w' ⟨rfl, h0⟩
  obtain rfl := h0.symm
  go_wp2_with fail
  go_ret2
  exact ⟨rfl, rfl⟩

theorem Ints.of_row {W : World} {S : Nat → Prop} {b : Nat} {t : TypeId} {l : List Int} (h : W.rowIs b t l.length (fun j => .int .i64 (l.getD j 0))) (hb : ∀ n ∈ l, -9223372036854775808 ≤ n ∧ n ≤ 9223372036854775807) (hs : ¬ S b) : Ints W S (.slice (some ⟨b, 0, none⟩) l.length l.length) l := by
  refine ⟨_, _, rfl, hb, .inr ⟨b, 0, rfl, h.lt, hs, fun j hj => ?_⟩⟩
  have := h.cell hj
  simpa [List.getD_eq_getElem?_getD, List.getElem?_eq_getElem hj] using this

set_option maxRecDepth 100000 in
set_option maxHeartbeats 2000000 in
theorem equalI_any (v1 v2 : Value) (l : List Int) (S1 S2 : Nat → Prop) (w : World) (h1 : Ints w S1 v1 l) (h2 : Ints w S2 v2 l) (hL : l.length ≤ 1048576) :
    Calls Try.prog 32 #[v1, v2] w fun e w' => e = .returned (.bool true) ∧ Fr (fun _ => False) w w' := by
  obtain ⟨o1, c1, rfl, _, k1⟩ := h1
  obtain ⟨o2, c2, rfl, _, k2⟩ := h2
  have K1 := Lib.hid k1
  have K2 := Lib.hid k2
  obtain ⟨n, hn⟩ : ∃ n, l.length = n := ⟨_, rfl⟩
  have HN := Lib.hid hn
  rw [hn] at hL ⊢
  clear k1 k2 hn
  go_enter Try.func32, Try.ntmps32
  go_wp2
  go_loopw [13] (fun iv wr => ∃ k : Nat, k ≤ n ∧ iv = .int .i64 k ∧ Fr (fun _ => False) w wr) (fun iv _ => n - (intOf iv).toNat)
  case atStart => exact ⟨0, by omega, rfl, Fr.refl _ _⟩
  case round =>
    obtain ⟨k, hk, rfl, hF⟩ := hrel
    have HF := Lib.hid hF
    clear hF
    by_cases hlt : k < n
    · have hkl : k < l.length := by rw [HN.out]; exact hlt
      obtain ⟨g1, f1, rfl, _, _, hc1⟩ := K1.out.resolve_left (by omega)
      obtain ⟨g2, f2, rfl, _, _, hc2⟩ := K2.out.resolve_left (by omega)
      have r1 := HF.out.cell (hc1 k hkl) id
      have r2 := HF.out.cell (hc2 k hkl) id
      obtain ⟨m, hm⟩ : ∃ m, l[k] = m := ⟨_, rfl⟩
      rw [hm] at r1 r2
      have hk0 : (0 : Int) ≤ k := by omega
      have hkn : (k : Int) < n := by omega
      clear hc1 hc2 hm hkl
      go_wp2
      go_quiet (fail)
      go_wp2
      go_roundw
      case rel => exact ⟨k + 1, by omega, by go_num, HF.out.drewN _⟩
      case measure => simp only [intOf]; omega
    · obtain rfl : k = n := by omega
      go_wp2
      go_ret
      exact ⟨rfl, HF.out⟩
end Go.Proofs.Ytajeiccfgnpbpaa.Mem

namespace Go.Proofs.Ytajeiccfgnpbpaa.Mem
open Go.RowKit

set_option maxRecDepth 100000 in
theorem missing_bad (p g : Nat) (at_ c : Int) (bs : List UInt8) (w : World) (h : Mat 108 w p g bs) (hc : (cell bs at_).2 ≠ 0) :
    Calls Try.prog 33 #[.pointer (some ⟨p, 0, none⟩), .int .i64 at_, .int .i64 c] w fun e w' => e = .returned (.tuple #[.int .i64 0, .int .i64 (-256)]) ∧ w' = w := by
  have HC := Lib.hid (sels_bad p g at_ bs w h hc)
  clear h hc
  go_enter Try.func33, Try.ntmps33
  go_wp2_with fail
  refine HC.out.mono ?_
  rintro e w' ⟨rfl, h0⟩
  obtain rfl := h0.symm
  go_wp2_with fail
  go_ret2
  exact ⟨rfl, rfl⟩

/-- The selectors of the interface at a place. -/
def selsl (bs : List UInt8) (at_ n : Nat) : List Int := (List.range n).map fun j => cellv bs (at_ + 8 * (j + 1))
theorem selsl_get (bs : List UInt8) (at_ n k : Nat) (h : k < n) : (selsl bs at_ n)[k]? = some (cellv bs (at_ + 8 * (k + 1))) := by
  simp [selsl, h]

/-- The first one that a class doesn't know. -/
def missv (bs : List UInt8) (c : Int) : List Int → Int × Int
  | [] => (0, 0)
  | s :: l => if (lookv bs c s).2.2 = true then missv bs c l else (s, -2050)

set_option maxRecDepth 100000 in
set_option maxHeartbeats 2000000 in
theorem missing_ok (p g at_ n : Nat) (c : Int) (bs : List UInt8) (w : World) (h : Mat 108 w p g bs) (h8 : at_ % 8 = 0) (hin : at_ + 8 * (n + 1) ≤ bs.length) (hv : cellv bs at_ = n) (hn : n ≤ 1024)
    (hc : -9223372036854775808 ≤ c ∧ c ≤ 9223372036854775807) (hI : isCl bs c = true) :
    Calls Try.prog 33 #[.pointer (some ⟨p, 0, none⟩), .int .i64 at_, .int .i64 c] w
      fun e w' => e = .returned (.tuple #[.int .i64 (missv bs c (selsl bs at_ n)).1, .int .i64 (missv bs c (selsl bs at_ n)).2]) ∧ Fr (fun _ => False) w w' := by
  obtain ⟨res, hres⟩ : ∃ r, missv bs c (selsl bs at_ n) = r := ⟨_, rfl⟩
  have HRES := Lib.hid hres
  rw [hres]
  obtain ⟨r1, r2⟩ := res
  dsimp only
  have HS := Lib.hid (sels_ok p g at_ n bs w h h8 hin hv hn)
  have hr := fun W h => cread_any p g bs c W h hc
  rw [hI] at hr
  obtain ⟨⟨k0, k1, k2, k3, k4⟩, hk⟩ : ∃ r, clv bs c = r := ⟨_, rfl⟩
  rw [hk] at hr
  simp only [clval] at hr
  have HR := Lib.hid hr
  have HLK := Lib.hid (fun s W h => clookup_any p g bs c s W h hc)
  have HM := Lib.hid h
  have HLN := Lib.hid (fun (k : Nat) (hk : k < n) => selsl_get bs at_ n k hk)
  have hll : (selsl bs at_ n).length = n := by simp [selsl]
  have HLL := Lib.hid hll
  clear h h8 hin hv hr hk hI hres hll hc
  go_enter Try.func33, Try.ntmps33
  go_wp2_with fail
  refine HS.out.mono ?_
  rintro e w1 ⟨rfl, hrow, hf⟩
  have HROW := Lib.hid hrow
  have HF1 := Lib.hid hf
  obtain ⟨G, hG⟩ : ∃ G, w.heap.size = G := ⟨_, rfl⟩
  rw [hG] at HROW ⊢
  clear hrow hf hG
  go_wp2_with fail
  refine (HR.out _ (HM.out.fr HF1.out id id)).mono ?_
  rintro e w2 ⟨rfl, hf⟩
  have HROW2 := Lib.hid (Fr.row HROW.out hf id)
  have HF2 := Lib.hid (HF1.out.trans hf)
  clear hf
  go_wp2_with fail
  have HROW3 := Lib.hid (HROW2.out.alloc (.cells #[.int .i64 k0, .int .i64 k1, .int .i64 k2, .int .i64 k3, .int .i64 k4] 142))
  have HF3 := Lib.hid (HF2.out.alloc (.cells #[.int .i64 k0, .int .i64 k1, .int .i64 k2, .int .i64 k3, .int .i64 k4] 142))
  obtain ⟨w3, hw3⟩ : ∃ w3, w2.alloc (.cells #[.int .i64 k0, .int .i64 k1, .int .i64 k2, .int .i64 k3, .int .i64 k4] 142) = w3 := ⟨_, rfl⟩
  rw [hw3] at HROW3 HF3 ⊢
  clear hw3
  go_loopw [35] (fun iv wr => ∃ k : Nat, k ≤ n ∧ iv = .int .i64 k ∧ missv bs c ((selsl bs at_ n).drop k) = (r1, r2) ∧ Fr (fun _ => False) w3 wr) (fun iv _ => n - (intOf iv).toNat)
  case atStart => exact ⟨0, by omega, rfl, HRES.out, Fr.refl _ _⟩
  case round =>
    obtain ⟨k, hk, rfl, hm, hF⟩ := hrel
    have HF := Lib.hid (HF3.out.trans hF)
    have HFF := Lib.hid hF
    have HMS := Lib.hid hm
    have HRW := Lib.hid (Fr.row HROW3.out hF id)
    clear hF hm
    by_cases hlt : k < n
    · have hkl : k < (selsl bs at_ n).length := by rw [HLL.out]; exact hlt
      have hcell := HRW.out.cell hlt
      have hg := HLN.out k hlt
      have hms := HMS.out
      rw [List.drop_eq_getElem_cons hkl, missv] at hms
      rw [List.getElem?_eq_getElem hkl, Option.some.injEq] at hg
      rw [hg] at hms
      obtain ⟨s, hs⟩ : ∃ s, cellv bs (at_ + 8 * (k + 1)) = s := ⟨_, rfl⟩
      rw [hs] at hcell hms
      have hlk := HLK.out s
      obtain ⟨⟨⟨e0, e1, e2⟩, nn, ok⟩, hlv⟩ : ∃ r, lookv bs c s = r := ⟨_, rfl⟩
      rw [hlv] at hlk hms
      simp only [entv] at hlk
      dsimp only at hms
      have HK2 := Lib.hid hlk
      clear hkl hg hs hlk hlv
      cases ok with
      | true =>
        rw [if_pos rfl] at hms
        have HMS2 := Lib.hid hms
        clear hms
        go_wp2_with fail
        refine (HK2.out _ (HM.out.fr HF.out id id)).mono ?_
        rintro e w4 ⟨rfl, hf⟩
        have HF4 := Lib.hid (HFF.out.trans hf)
        clear hf
        go_wp2_with fail
        go_roundw
        case rel => exact ⟨k + 1, by omega, by go_num, HMS2.out, HF4.out.alloc _⟩
        case measure => simp only [intOf]; omega
      | false =>
        rw [if_neg (by simp)] at hms
        have HMS2 := Lib.hid hms
        clear hms
        go_wp2_with fail
        refine (HK2.out _ (HM.out.fr HF.out id id)).mono ?_
        rintro e w4 ⟨rfl, hf⟩
        have HF4 := Lib.hid (HF.out.trans hf)
        clear hf
        go_wp2_with fail
        go_ret2
        have hms := HMS2.out
        cases hms
        exact ⟨rfl, HF4.out.alloc _⟩
    · obtain rfl : k = n := by omega
      have hms := HMS.out
      rw [List.drop_eq_nil_of_le (by rw [HLL.out]; omega), missv] at hms
      have HMS2 := Lib.hid hms
      clear hms
      go_wp2_with fail
      go_ret2
      have hms := HMS2.out
      cases hms
      exact ⟨rfl, HF.out⟩

set_option maxRecDepth 100000 in
set_option maxHeartbeats 2000000 in
theorem missing_none (p g at_ n : Nat) (c : Int) (bs : List UInt8) (w : World) (h : Mat 108 w p g bs) (h8 : at_ % 8 = 0) (hin : at_ + 8 * (n + 1) ≤ bs.length) (hv : cellv bs at_ = n) (hn : n ≤ 1024)
    (hc : -9223372036854775808 ≤ c ∧ c ≤ 9223372036854775807) (hI : isCl bs c = false) :
    Calls Try.prog 33 #[.pointer (some ⟨p, 0, none⟩), .int .i64 at_, .int .i64 c] w
      fun e w' => e = .returned (.tuple #[.int .i64 0, .int .i64 (-2048)]) ∧ Fr (fun _ => False) w w' := by
  have HS := Lib.hid (sels_ok p g at_ n bs w h h8 hin hv hn)
  have hr := fun W h => cread_any p g bs c W h hc
  rw [hI, clv_none hI] at hr
  simp only [clval] at hr
  have HR := Lib.hid hr
  have HM := Lib.hid h
  clear h h8 hin hv hr hI hc
  go_enter Try.func33, Try.ntmps33
  go_wp2_with fail
  refine HS.out.mono ?_
  rintro e w1 ⟨rfl, hrow, hf⟩
  have HF1 := Lib.hid hf
  clear hrow hf
  go_wp2_with fail
  refine (HR.out _ (HM.out.fr HF1.out id id)).mono ?_
  rintro e w2 ⟨rfl, hf⟩
  have HF2 := Lib.hid (HF1.out.trans hf)
  clear hf
  go_wp2_with fail
  go_ret2
  exact ⟨rfl, HF2.out.alloc _⟩
end Go.Proofs.Ytajeiccfgnpbpaa.Mem
