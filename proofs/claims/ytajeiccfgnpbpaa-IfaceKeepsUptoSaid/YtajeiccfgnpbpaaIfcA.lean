/- Contracts of package iface: interfaces are laid into a memory. -/
import Derived.Test.YtajeiccfgnpbpaaClsD
namespace Go.Proofs.Ytajeiccfgnpbpaa.Mem
open Go.RowKit

/-- A slice of numbers that is read, in a block of which S says nothing. -/
def Ints (W : World) (S : Nat → Prop) (v : Value) (l : List Int) : Prop :=
  ∃ o c, v = .slice o l.length c ∧ (∀ n ∈ l, -9223372036854775808 ≤ n ∧ n ≤ 9223372036854775807) ∧ (l.length = 0 ∨ ∃ bb off, o = some ⟨bb, off, none⟩ ∧ bb < W.heap.size ∧ ¬ S bb ∧ ∀ j (h : j < l.length), W.cell? ⟨bb, off + j, none⟩ = some (.int .i64 l[j]))

theorem Ints.fr {S T : Nat → Prop} {W W' : World} {v : Value} {l : List Int} (h : Ints W S v l) (f : Fr T W W') (hs : ∀ k, k < W.heap.size → T k → S k) : Ints W' S v l := by
  obtain ⟨o, c, hv, hb, hc⟩ := h
  refine ⟨o, c, hv, hb, hc.imp id fun ⟨bb, off, ho, hlt, hn, hcell⟩ => ⟨bb, off, ho, Nat.lt_of_lt_of_le hlt f.size, hn, fun j hj => f.cell (hcell j hj) (fun t => hn (hs bb hlt t))⟩⟩

/-- What the laying of an interface leaves. -/
def ilayv (z x : Nat) (bs : List UInt8) (l : List Int) : (Int × Int) × Nat × List UInt8 :=
  if (layl z ((l.length : Int) :: l) x bs).2.2 = true then ((x, 0), (layl z ((l.length : Int) :: l) x bs).1, (layl z ((l.length : Int) :: l) x bs).2.1) else ((0, -8), (layl z ((l.length : Int) :: l) x bs).1, (layl z ((l.length : Int) :: l) x bs).2.1)

set_option maxRecDepth 100000 in
set_option maxHeartbeats 2000000 in
theorem ilay_any (b p g a z x : Nat) (bs : List UInt8) (v : Value) (l : List Int) (w : World) (h : Sat w b p g a z x bs) (h8 : x % 8 = 0) (hl : Ints w (fun j => j = b ∨ j = g) v l) (hn : l.length ≤ 1024) :
    Calls Try.prog 81 #[.pointer (some ⟨b, 0, none⟩), v] w
      fun e w' => e = .returned (.tuple #[.int .i64 (ilayv z x bs l).1.1, .int .i64 (ilayv z x bs l).1.2]) ∧ Sat w' b p g a z (ilayv z x bs l).2.1 (ilayv z x bs l).2.2 ∧ Both b g w w' := by
  obtain ⟨o, c, rfl, hbd, hcell⟩ := hl
  obtain ⟨⟨⟨v1, v2⟩, vy, vcs⟩, hv⟩ : ∃ v, ilayv z x bs l = v := ⟨_, rfl⟩
  rw [hv]
  dsimp only
  unfold ilayv at hv
  obtain ⟨res, hres⟩ : ∃ r, layl z ((l.length : Int) :: l) x bs = r := ⟨_, rfl⟩
  rw [hres] at hv
  have HV := Lib.hid hv
  have HS0 := Lib.hid h
  have H8 := Lib.hid h8
  have HC := Lib.hid hcell
  have HAL := Lib.hid (align_ok b p g a z x bs w h h8)
  have HH := Lib.hid (here_any b p g a z x bs w h)
  have HCM := Lib.hid (fun y cs n W h h8 hz => comma_ok b p g a z y cs n W h h8 hz)
  have HFU := Lib.hid (fun y cs n W h hz => comma_full b p g a z y cs n W h hz)
  have hbx := h.bd
  have hx : x ≤ 1048576 := by omega
  have hd : b < w.heap.size ∧ g < w.heap.size := ⟨h.lt.1, h.lt.2.2⟩
  obtain ⟨n, hnn⟩ : ∃ n, l.length = n := ⟨_, rfl⟩
  have HL := Lib.hid hnn
  rw [hnn] at hn hres ⊢
  clear h h8 hcell hv hbx hnn hbd
  go_enter Try.func81, Try.ntmps81
  by_cases hfit : x + 8 ≤ z
  · rw [layl, if_pos hfit] at hres
    have HRES := Lib.hid hres
    clear hres
    go_wp2_with fail
    refine HAL.out.mono ?_
    rintro e w' ⟨rfl, h0⟩
    obtain rfl := h0.symm
    go_wp2_with fail
    refine HH.out.mono ?_
    rintro e w' ⟨rfl, h0⟩
    obtain rfl := h0.symm
    go_wp2_with fail
    refine (HCM.out _ _ _ _ HS0.out H8.out hfit).mono ?_
    rintro e w1 ⟨rfl, hs, hf⟩
    have HS1 := Lib.hid hs
    have HF1 := Lib.hid hf
    clear hs hf
    go_wp2_with fail
    go_loopw [28] (fun iv wr => ∃ k : Nat, k ≤ n ∧ iv = .int .i64 k ∧ ∃ y cs, Sat wr b p g a z y cs ∧ y % 8 = 0 ∧ layl z (l.drop k) y cs = res ∧ Both b g w wr) (fun iv _ => n - (intOf iv).toNat)
    case atStart => exact ⟨0, by omega, rfl, _, _, HS1.out, by have := H8.out; omega, HRES.out, HF1.out⟩
    case round =>
      obtain ⟨k, hk, rfl, y, cs, hS, hy8, hly, hF⟩ := hrel
      have HS := Lib.hid hS
      have HF := Lib.hid hF
      have HY8 := Lib.hid hy8
      clear hS hF hy8
      by_cases hlt : k < n
      · obtain ⟨bb, off, rfl, hbb, hns, hcell⟩ := HC.out.resolve_left (by rw [HL.out]; omega)
        have hkl : k < l.length := by rw [HL.out]; exact hlt
        have hc := HF.out.cell (hcell k hkl) hns
        rw [List.drop_eq_getElem_cons hkl] at hly
        obtain ⟨m, hm⟩ : ∃ m, l[k] = m := ⟨_, rfl⟩
        rw [hm] at hc hly
        clear hcell hm
        by_cases hfit2 : y + 8 ≤ z
        · rw [layl, if_pos hfit2] at hly
          have HLY := Lib.hid hly
          have HC2 := Lib.hid (HCM.out y cs m _ HS.out HY8.out hfit2)
          clear hly
          go_wp2_with fail
          refine HC2.out.mono ?_
          rintro e w2 ⟨rfl, hs, hf⟩
          have HS2 := Lib.hid hs
          have HF2 := Lib.hid (HF.out.trans hf)
          clear hs hf
          go_wp2_with fail
          go_roundw
          case rel => exact ⟨k + 1, by omega, by go_num, _, _, HS2.out, by have := HY8.out; omega, HLY.out, HF2.out⟩
          case measure => simp [intOf]; omega
        · rw [layl, if_neg hfit2] at hly
          have HLY := Lib.hid hly
          have HC2 := Lib.hid (HFU.out y cs m _ HS.out hfit2)
          clear hly
          go_wp2_with fail
          refine HC2.out.mono ?_
          rintro e w2 ⟨rfl, hs, hf⟩
          have HS2 := Lib.hid hs
          have HF2 := Lib.hid (HF.out.trans (Fr.some hf fun _ e => e.elim))
          clear hs hf
          go_wp2_with fail
          go_ret2
          have hv := HV.out
          rw [← HLY.out, if_neg (by simp)] at hv
          cases hv
          exact ⟨rfl, HS2.out, HF2.out⟩
      · obtain rfl : k = n := by omega
        rw [List.drop_eq_nil_of_le (by rw [HL.out]; omega), layl] at hly
        have HLY := Lib.hid hly
        clear hly
        go_wp2_with fail
        go_ret2
        have hv := HV.out
        rw [← HLY.out, if_pos rfl] at hv
        cases hv
        exact ⟨rfl, HS.out, HF.out⟩
  · rw [layl, if_neg hfit] at hres
    have HRES := Lib.hid hres
    clear hres
    go_wp2_with fail
    refine HAL.out.mono ?_
    rintro e w' ⟨rfl, h0⟩
    obtain rfl := h0.symm
    go_wp2_with fail
    refine HH.out.mono ?_
    rintro e w' ⟨rfl, h0⟩
    obtain rfl := h0.symm
    go_wp2_with fail
    refine (HFU.out _ _ _ _ HS0.out hfit).mono ?_
    rintro e w2 ⟨rfl, hs, hf⟩
    have HS2 := Lib.hid hs
    have HF2 := Lib.hid (Fr.some (T := fun j => j = b ∨ j = g) hf fun _ e => e.elim)
    clear hs hf
    go_wp2_with fail
    go_ret2
    have hv := HV.out
    rw [← HRES.out, if_neg (by simp)] at hv
    cases hv
    exact ⟨rfl, HS2.out, HF2.out⟩

/-- What New leaves. -/
def inewv (z x : Nat) (bs : List UInt8) (l : List Int) : (Int × Int) × Nat × List UInt8 :=
  if (ilayv z x bs l).1.2 = 0 then ilayv z x bs l else ((0, (ilayv z x bs l).1.2), x, (ilayv z x bs l).2.2)

theorem ilayv_inv (z x : Nat) (bs : List UInt8) (l : List Int) (h : x ≤ z) : x ≤ (ilayv z x bs l).2.1 ∧ (ilayv z x bs l).2.1 ≤ z ∧ (ilayv z x bs l).2.1 % 8 = x % 8 ∧ (ilayv z x bs l).2.2.length = bs.length := by
  have hl := layl_inv z ((l.length : Int) :: l) x bs h
  unfold ilayv
  split <;> exact hl

set_option maxRecDepth 100000 in
set_option maxHeartbeats 2000000 in
theorem inew_any (b p g a z x : Nat) (bs : List UInt8) (v : Value) (l : List Int) (w : World) (h : Sat w b p g a z x bs) (h8 : x % 8 = 0) (hl : Ints w (fun j => j = b ∨ j = g) v l) (hn : l.length ≤ 1024) :
    Calls Try.prog 30 #[.pointer (some ⟨b, 0, none⟩), v] w
      fun e w' => e = .returned (.tuple #[.int .i64 (inewv z x bs l).1.1, .int .i64 (inewv z x bs l).1.2]) ∧ Sat w' b p g a z (inewv z x bs l).2.1 (inewv z x bs l).2.2 ∧ Both b g w w' := by
  obtain ⟨⟨⟨v1, v2⟩, vy, vcs⟩, hv⟩ : ∃ v, inewv z x bs l = v := ⟨_, rfl⟩
  rw [hv]
  dsimp only
  have hla := ilay_any b p g a z x bs v l w h h8 hl hn
  have hinv := ilayv_inv z x bs l h.bd.2.1
  unfold inewv at hv
  obtain ⟨⟨⟨r1, r2⟩, ry, rcs⟩, hr⟩ : ∃ r, ilayv z x bs l = r := ⟨_, rfl⟩
  rw [hr] at hv hla hinv
  dsimp only at hv hla hinv
  have HV := Lib.hid hv
  have HLA := Lib.hid hla
  have HINV := Lib.hid hinv
  have HH := Lib.hid (here_any b p g a z x bs w h)
  have HBK := Lib.hid (fun y cs W h ha hx => back_ok b p g a z y x cs W h ha hx)
  have hax := h.bd.1
  obtain ⟨o, c, rfl, _, _⟩ := hl
  obtain ⟨n, hnn⟩ : ∃ n, l.length = n := ⟨_, rfl⟩
  rw [hnn] at hn HLA ⊢
  clear h h8 hla hinv hv hr hnn
  have hn' : ¬ ((n : Int) > 1024) := by omega
  go_enter Try.func30, Try.ntmps30
  by_cases he : r2 = 0
  · subst he
    go_wp2_with fail
    refine HH.out.mono ?_
    rintro e w' ⟨rfl, h0⟩
    obtain rfl := h0.symm
    go_wp2_with fail
    refine HLA.out.mono ?_
    rintro e w1 ⟨rfl, hs, hf⟩
    have HS1 := Lib.hid hs
    have HF1 := Lib.hid hf
    clear hs hf
    go_wp2_with fail
    go_ret2
    have hv := HV.out
    rw [if_pos (c := True) trivial] at hv
    cases hv
    exact ⟨rfl, HS1.out, HF1.out⟩
  · have he' : (r2 != 0) = true := by simp [he]
    have HE := Lib.hid he
    clear he
    go_wp2_with fail
    refine HH.out.mono ?_
    rintro e w' ⟨rfl, h0⟩
    obtain rfl := h0.symm
    go_wp2_with fail
    refine HLA.out.mono ?_
    rintro e w1 ⟨rfl, hs, hf⟩
    have HS1 := Lib.hid hs
    have HF1 := Lib.hid hf
    clear hs hf
    go_wp2_with fail
    refine (HBK.out _ _ _ HS1.out hax HINV.out.1).mono ?_
    rintro e w2 ⟨rfl, hs, hf⟩
    have HS2 := Lib.hid hs
    have HF2 := Lib.hid (HF1.out.trans (Fr.some (T := fun j => j = b ∨ j = g) hf fun _ e => .inl e))
    clear hs hf
    go_wp2_with fail
    go_ret2
    have hv := HV.out
    rw [if_neg HE.out] at hv
    cases hv
    exact ⟨rfl, HS2.out, HF2.out⟩

set_option maxRecDepth 100000 in
theorem inew_nil (v : Value) (w : World) : Calls Try.prog 30 #[.pointer none, v] w fun e w' => e = .returned (.tuple #[.int .i64 0, .int .i64 (-256)]) ∧ w' = w := by
  go_enter Try.func30, Try.ntmps30
  go_wp2
  go_ret2
  exact ⟨rfl, rfl⟩

set_option maxRecDepth 100000 in
theorem inew_many (b : Nat) (t : TypeId) (cs : Array Value) (fr : Nat × Nat) (o : Option Addr) (n c : Nat) (w : World) (hb : w.heap[b]? = some (.cells cs t fr)) (hn : 1024 < n) : Calls Try.prog 30 #[.pointer (some ⟨b, 0, none⟩), .slice o n c] w fun e w' => e = .returned (.tuple #[.int .i64 0, .int .i64 (-256)]) ∧ w' = w := by
  have hn' : ((n : Int) > 1024) := by omega
  have d1 : decide ((1024 : Int) < n) = true := by simp; omega
  go_enter Try.func30, Try.ntmps30
  go_wp2
  go_ret2
  exact ⟨rfl, rfl⟩
end Go.Proofs.Ytajeiccfgnpbpaa.Mem
