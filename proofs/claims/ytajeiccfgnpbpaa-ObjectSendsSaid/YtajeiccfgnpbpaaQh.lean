/- Several texts in one: ObjB, ClsE, ClsF, ClsH, ClsI. -/
import Derived.Test.YtajeiccfgnpbpaaQg
import Derived.Test.YtajeiccfgnpbpaaShl
import Derived.Laws.OwnMore
import Derived.Deep.RegionHeld3
import Derived.Deep.AppendLies
import Derived.Maps.Own
import Derived.Maps.OwnOps
import Derived.Maps.OwnSet
import Derived.Maps.Keyed
set_option linter.unusedSimpArgs false
set_option linter.unusedVariables false
/- Contracts of package object: lay, Make. -/
namespace Go.Proofs.Ytajeiccfgnpbpaa.Mem
open Go.RowKit

theorem repeatL_zero : ∀ k, Lib.repeatL [0] k = List.replicate k 0
  | 0 => rfl
  | k + 1 => by rw [Lib.repeatL, repeatL_zero k]; rfl

/-- What laying an object tells, and leaves. -/
def olay (bs : List UInt8) (a c size : Int) : Int × List UInt8 :=
  if (cell bs a).2 = 0 then (if (txt bs a size).2 = 0 then (0, sett (setc bs a c) (a + 8) (List.replicate (size - 8).toNat 0)) else ((txt bs a size).2, bs)) else ((cell bs a).2, bs)

theorem olay_length (bs : List UInt8) (a c size : Int) : (olay bs a c size).2.length = bs.length := by
  unfold olay
  split
  · split
    · rw [sett_length, setc_length]
    · rfl
  · rfl

set_option maxRecDepth 100000 in
set_option maxHeartbeats 2000000 in
theorem olay_any (p g : Nat) (bs : List UInt8) (a c size : Int) (w : World) (h : Mat 108 w p g bs) (hs : 8 ≤ size ∧ size ≤ 1048576) :
    Calls Try.prog 90 #[.pointer (some ⟨p, 0, none⟩), .int .i64 a, .int .i64 c, .int .i64 size] w fun e w' => e = .returned (.int .i64 (olay bs a c size).1) ∧ Mat 108 w' p g (olay bs a c size).2 ∧ Only g w w' := by
  have hc := cell_any p g bs a w h
  have ht := text_any p g bs a size w h (by omega) (by omega)
  have H := Lib.hid h
  have hbl := h.2.2.2
  have hcd := @cell_code bs a
  have htx : (txt bs a size).2 = 0 → 0 ≤ a ∧ a + size ≤ bs.length := fun e => by
    unfold txt at e
    split at e
    · rename_i hh; simp [has] at hh; omega
    · cases e
  unfold olay
  obtain ⟨⟨v, d⟩, hv⟩ : ∃ r, cell bs a = r := ⟨_, rfl⟩
  rw [hv] at hc hcd ⊢
  dsimp only at hc hcd ⊢
  obtain ⟨⟨tx, d2⟩, htv⟩ : ∃ r, txt bs a size = r := ⟨_, rfl⟩
  rw [htv] at ht htx ⊢
  dsimp only at ht htx ⊢
  obtain ⟨st, hst⟩ : ∃ st : ByteArray, ⟨tx.toArray⟩ = st := ⟨_, rfl⟩
  rw [hst] at ht
  have HC := Lib.hid hc
  have HT := Lib.hid ht
  clear h hv htv hst hc ht
  by_cases hd : d = 0
  · subst hd
    rw [if_pos rfl]
    by_cases hd2 : d2 = 0
    · subst hd2
      rw [if_pos rfl]
      obtain ⟨ha0, ha1, ha8⟩ := hcd rfl
      have hts := htx rfl
      have HX := Lib.hid (fun w h => setCell_any p g bs a c w h)
      obtain ⟨k, hk⟩ : ∃ k : Nat, size - 8 = k := ⟨(size - 8).toNat, by omega⟩
      have hr := fun w => Try.strings_Repeat ⟨#[0]⟩ k w (by omega) (by show 1 * k ≤ _; omega)
      have hrl : Lib.repeatL (ByteArray.mk #[0]).data.toList k = List.replicate k 0 := repeatL_zero k
      rw [hrl] at hr
      have hlen : (ByteArray.mk (List.replicate k (0 : UInt8)).toArray).size = k := by simp [ByteArray.size]
      have hY := fun w h => setText_any p g (setc bs a c) (a + 8) ⟨(List.replicate k 0).toArray⟩ w h (by rw [hlen]; omega)
      have hdl : (ByteArray.mk (List.replicate k (0 : UInt8)).toArray).data.toList = List.replicate k 0 := by simp
      rw [hdl] at hY
      have hco : codet (setc bs a c) (a + 8) (List.replicate k 0) = 0 := by
        unfold codet
        rw [if_pos (by rw [setc_length, List.length_replicate]; simp [has]; omega)]
      rw [hco] at hY
      rw [show (size - 8).toNat = k by omega]
      obtain ⟨st, hst⟩ : ∃ st : ByteArray, ⟨(List.replicate k 0).toArray⟩ = st := ⟨_, rfl⟩
      rw [hst] at hr hY
      have HR := Lib.hid hr
      have HY := Lib.hid hY
      have HK := Lib.hid hk
      have hab : 0 ≤ a ∧ a ≤ 1048576 := by omega
      clear hrl hlen hdl hco hst hr hY hcd htx ha1 ha8 hts
      go_enter Try.func90, Try.ntmps90
      go_wp2_with (first | (go_at_call 46; refine HC.out.mono ?_; rintro e w' ⟨rfl, h0⟩; obtain rfl := h0.symm) | (go_at_call 52; refine HT.out.mono ?_; rintro e w' ⟨rfl, h0⟩; obtain rfl := h0.symm) | (go_at_call 15; refine (HX.out _ H.out).mono ?_; rintro e w1 ⟨rfl, hm, hf⟩; have M1 := Lib.hid hm; have F1 := Lib.hid hf; clear hm hf))
      refine (HR.out _).mono ?_
      rintro e w2 ⟨rfl, hb⟩
      have F2 := Lib.hid (Fr.of_below hb (fun _ => False))
      clear hb
      go_wp2_with fail
      refine (HY.out _ (M1.out.fr F2.out id id)).mono ?_
      rintro e w3 ⟨rfl, hm, hf⟩
      have M3 := Lib.hid hm
      have F3 := Lib.hid ((F1.out.trans (Fr.some F2.out fun _ e => e.elim)).trans hf)
      clear hm hf
      go_wp2_with fail
      go_ret
      exact ⟨rfl, M3.out, F3.out⟩
    · rw [if_neg hd2]
      have hd2' : (d2 != 0) = true := by simp [hd2]
      clear hd2 hcd htx
      go_enter Try.func90, Try.ntmps90
      go_wp2_with (first | (go_at_call 46; refine HC.out.mono ?_; rintro e w' ⟨rfl, h0⟩; obtain rfl := h0.symm) | (go_at_call 52; refine HT.out.mono ?_; rintro e w' ⟨rfl, h0⟩; obtain rfl := h0.symm))
      go_ret
      exact ⟨rfl, H.out, Fr.refl _ _⟩
  · rw [if_neg hd]
    have hd' : (d != 0) = true := by simp [hd]
    clear hd hcd htx
    go_enter Try.func90, Try.ntmps90
    go_wp2_with (go_at_call 46; refine HC.out.mono ?_; rintro e w' ⟨rfl, h0⟩; obtain rfl := h0.symm)
    go_ret
    exact ⟨rfl, H.out, Fr.refl _ _⟩

/-- What Make tells, and leaves. -/
def omake (bs : List UInt8) (a c : Int) : Int × List UInt8 := if (sizev bs c).2 = 0 then olay bs a c (sizev bs c).1 else ((sizev bs c).2, bs)
theorem sizev_bd {bs : List UInt8} {c : Int} (h : (sizev bs c).2 = 0) : 8 ≤ (sizev bs c).1 ∧ (sizev bs c).1 ≤ 1048576 := by
  unfold sizev at *
  split at h
  · split at h
    · cases h
    · rename_i h1 h2
      rw [if_pos h1, if_neg h2]
      dsimp only
      omega
  · cases h

set_option maxRecDepth 100000 in
set_option maxHeartbeats 2000000 in
theorem omake_any (p g : Nat) (bs : List UInt8) (a c : Int) (w : World) (h : Mat 108 w p g bs) (hc : -9223372036854775808 ≤ c ∧ c ≤ 9223372036854775807) :
    Calls Try.prog 49 #[.pointer (some ⟨p, 0, none⟩), .int .i64 a, .int .i64 c] w fun e w' => e = .returned (.int .i64 (omake bs a c).1) ∧ Mat 108 w' p g (omake bs a c).2 ∧ Only g w w' := by
  have hs := sizeOf_any p g bs c w h hc
  have hb := @sizev_bd bs c
  have H := Lib.hid h
  unfold omake
  obtain ⟨⟨sz, d⟩, hv⟩ : ∃ r, sizev bs c = r := ⟨_, rfl⟩
  rw [hv] at hs hb ⊢
  dsimp only at hs hb ⊢
  have HS := Lib.hid hs
  clear h hv hs
  by_cases hd : d = 0
  · subst hd
    rw [if_pos rfl]
    have HL := Lib.hid (fun w h => olay_any p g bs a c sz w h (hb rfl))
    clear hb
    go_enter Try.func49, Try.ntmps49
    go_wp2_with (first | (go_at_call 88; refine HS.out.mono ?_; rintro e w1 ⟨rfl, hf⟩; have F1 := Lib.hid hf; clear hf) | (go_at_call 90; refine (HL.out _ (H.out.fr F1.out id id)).mono ?_; rintro e w2 ⟨rfl, hm, hf⟩; have M2 := Lib.hid hm; have F2 := Lib.hid ((Fr.some F1.out fun _ e => e.elim).trans hf); clear hm hf))
    go_ret
    exact ⟨rfl, M2.out, F2.out⟩
  · rw [if_neg hd]
    have hd' : (d != 0) = true := by simp [hd]
    clear hd hb
    go_enter Try.func49, Try.ntmps49
    go_wp2_with (go_at_call 88; refine HS.out.mono ?_; rintro e w1 ⟨rfl, hf⟩; have F1 := Lib.hid hf; clear hf)
    go_ret
    exact ⟨rfl, H.out.fr F1.out id id, Fr.some F1.out fun _ e => e.elim⟩

/-! What the statement asks of Dict and Heap besides. -/
set_option maxRecDepth 100000 in
set_option maxHeartbeats 1000000 in
theorem odict_nil (c : Int) (w : World) : Calls Try.prog 42 #[.pointer none, .int .i64 c] w fun e w' => e = .returned (.tuple #[.int .i64 0, .int .i64 (-256)]) ∧ w' = w := by
  go_enter Try.func42, Try.ntmps42
  go_wp2
  go_ret2
  exact ⟨rfl, rfl⟩

set_option maxRecDepth 100000 in
set_option maxHeartbeats 1000000 in
theorem odict_none (b p g a z x : Nat) (bs : List UInt8) (c : Int) (w : World) (h : Sat w b p g a z x bs) (hc : -9223372036854775808 ≤ c ∧ c ≤ 9223372036854775807) (hd : (sizev bs c).2 = -2048) :
    Calls Try.prog 42 #[.pointer (some ⟨b, 0, none⟩), .int .i64 c] w fun e w' => e = .returned (.tuple #[.int .i64 0, .int .i64 (-2048)]) ∧ Fr (fun _ => False) w w' := by
  obtain ⟨q0, q1, q2, q3⟩ := h.cells
  have hs := sizeOf_any p g bs c w h.mat hc
  rw [hd] at hs
  have HS := Lib.hid hs
  clear h hs hd
  go_enter Try.func42, Try.ntmps42
  go_wp2_with (go_at_call 88; refine HS.out.mono ?_; rintro e w1 ⟨rfl, hf⟩; have F1 := Lib.hid hf; clear hf)
  go_ret2
  exact ⟨rfl, F1.out⟩

set_option maxRecDepth 100000 in
set_option maxHeartbeats 1000000 in
theorem alloc_nil (n : Int) (w : World) : Calls Try.prog 89 #[.pointer none, .int .i64 n] w fun e w' => e = .returned (.tuple #[.int .i64 0, .int .i64 (-256)]) ∧ w' = w := by
  go_enter Try.func89, Try.ntmps89
  go_wp2
  go_ret2
  exact ⟨rfl, rfl⟩

set_option maxRecDepth 100000 in
set_option maxHeartbeats 1000000 in
theorem oheap_nil (p g : Nat) (bs : List UInt8) (c : Int) (w : World) (h : Mat 108 w p g bs) (hc : -9223372036854775808 ≤ c ∧ c ≤ 9223372036854775807) (hd : (sizev bs c).2 = 0) :
    Calls Try.prog 40 #[.pointer none, .pointer (some ⟨p, 0, none⟩), .int .i64 c] w fun e w' => e = .returned (.tuple #[.int .i64 0, .int .i64 (-256)]) ∧ Fr (fun _ => False) w w' := by
  have hs := sizeOf_any p g bs c w h hc
  rw [hd] at hs
  have HS := Lib.hid hs
  clear h hs hd
  go_enter Try.func40, Try.ntmps40
  go_wp2_with (first | (go_at_call 88; refine HS.out.mono ?_; rintro e w1 ⟨rfl, hf⟩; have F1 := Lib.hid hf; clear hf) | (go_at_call 89; refine (alloc_nil _ _).mono ?_; rintro e w' ⟨rfl, h0⟩; obtain rfl := h0.symm))
  go_ret2
  exact ⟨rfl, F1.out⟩
end Go.Proofs.Ytajeiccfgnpbpaa.Mem

/- Contracts: Grow, and a new world of the statements. -/
namespace Go.Proofs.Ytajeiccfgnpbpaa.Mem
open Go.RowKit

/-- What Grow tells, and leaves. -/
def growv (bs : List UInt8) (c n : Int) : (Int × Int) × List UInt8 :=
  if isCl bs c = true then (if n < 0 ∨ 1048576 < n ∨ (clv bs c).size < 0 ∨ 1048576 < (clv bs c).size then ((0, -256), bs) else (((clv bs c).size, 0), setc bs (c + 16) (((clv bs c).size + n + 8 - 1) / 8 * 8))) else ((0, -2048), bs)

set_option maxRecDepth 100000 in
set_option maxHeartbeats 2000000 in
/-- Grow of a class that is there, by a number that may be. -/
theorem cgrow_ok (p g : Nat) (bs : List UInt8) (c n : Int) (w : World) (h : Mat 108 w p g bs) (hi : isCl bs c = true) (hn : 0 ≤ n ∧ n ≤ 1048576) (hs : 0 ≤ (clv bs c).size ∧ (clv bs c).size ≤ 1048576) :
    Calls Try.prog 39 #[.pointer (some ⟨p, 0, none⟩), .int .i64 c, .int .i64 n] w
      fun e w' => e = .returned (.tuple #[.int .i64 (clv bs c).size, .int .i64 0]) ∧ Mat 108 w' p g (setc bs (c + 16) (((clv bs c).size + n + 8 - 1) / 8 * 8)) ∧ Only g w w' := by
  have hin := isCl_in hi
  have hbl := h.2.2.2
  have hr := cread_any p g bs c w h (by omega)
  rw [hi] at hr
  have H := Lib.hid h
  obtain ⟨⟨k0, k1, k2, k3, k4⟩, hk⟩ : ∃ r, clv bs c = r := ⟨_, rfl⟩
  rw [hk] at hr hs ⊢
  dsimp only at hs ⊢
  simp only [clval] at hr
  have HR := Lib.hid hr
  have HX := Lib.hid (fun v w h => setCell_any p g bs (c + 16) v w h)
  have hco : code bs.length (c + 16) = 0 := code_of (by omega) (by omega) (by omega)
  have hcb : 0 ≤ c ∧ c ≤ 1048576 := by omega
  have HCO := Lib.hid hco
  clear h hi hr hk hin hbl hco
  go_enter Try.func39, Try.ntmps39
  go_wp2_with fail
  refine HR.out.mono ?_
  rintro e w1 ⟨rfl, hf⟩
  have F1 := Lib.hid (hf.alloc (.cells #[.int .i64 k0, .int .i64 k1, .int .i64 k2, .int .i64 k3, .int .i64 k4] 142))
  have O1 := Lib.hid (heap_alloc_last w1 (.cells #[.int .i64 k0, .int .i64 k1, .int .i64 k2, .int .i64 k3, .int .i64 k4] 142))
  have HG := Lib.hid (show w1.heap.size ≠ g by have := H.out.lt.2; have := hf.size; omega)
  clear hf
  go_wp2_with fail
  refine (HX.out _ _ (H.out.fr F1.out id id)).mono ?_
  rintro e w2 ⟨rfl, hm, hf⟩
  have M2 := Lib.hid hm
  obtain ⟨q0, q1, q2, q3, q4, _, _, _, _, _, _⟩ := five_cells (hf.obj O1.out HG.out)
  have F2 := Lib.hid ((Fr.some F1.out fun _ e => e.elim).trans hf)
  clear hm hf
  go_wp2_with fail
  go_ret2
  exact ⟨rfl, M2.out, F2.out⟩

/-- A struct in a variable is handed back. -/
theorem results_cell0 {P : Program} {fn : Func} {p : Tmp} {ty : TypeId} (h : fn.results = #[.cell p ty]) (tmps : Array Value) (w : World) (g : Nat) (t : TypeId) (cs : Array Value) (fr : Nat × Nat) (d : TypeDesc)
    (hp : tmps.getD p undef = .pointer (some ⟨g, 0, none⟩)) (hg : w.heap[g]? = some (.cells cs t fr))
    (hu : P.underlying ty = some d) (hd : (match d with | .struct _ | .array _ _ => true | _ => false) = true) (hi : (P.info? ty).map (·.size) = some cs.size) :
    (results fn tmps).run P w = .ok (.agg cs) w := by
  have hp' : tmps[p]?.getD undef = .pointer (some ⟨g, 0, none⟩) := by simpa using hp
  simp [results, h, hp', asAddr, run_loadVar_row w g t ty cs fr d hg hu hd hi]

/-- A world that is new: its memory, its space, its root, no classes. -/
def NewWorld (n : Nat) (w : World) (e : Ending) (w' : World) : Prop :=
  ∃ p g b : Nat, e = .returned (.agg #[.pointer (some ⟨p, 0, none⟩), .pointer (some ⟨b, 0, none⟩), .int .i64 8, .slice none 0 0, .slice none 0 0]) ∧ w.heap.size ≤ p ∧ w.heap.size ≤ g ∧ w.heap.size ≤ b ∧
    Sat w' b p g 8 n 16 (setv (List.replicate n 0) 8 0) ∧ Fr (fun _ => False) w w'

set_option maxRecDepth 100000 in
set_option maxHeartbeats 2000000 in
theorem wnew_ok (n : Nat) (w : World) (hn : n ≤ 1048576) (h8 : n % 8 = 0) (h16 : 16 ≤ n) :
    Calls Try.prog 25 #[.int .i64 n] w (NewWorld n w) := by
  have FA := Lib.hid ((Fr.refl (fun _ => False) w).alloc (.cells #[.pointer none, .pointer none, .int .i64 0, .slice none 0 0, .slice none 0 0] 56))
  have OA := Lib.hid (heap_alloc_last w (.cells #[.pointer none, .pointer none, .int .i64 0, .slice none 0 0, .slice none 0 0] 56))
  have hn2 := new_ok n (w.alloc (.cells #[.pointer none, .pointer none, .int .i64 0, .slice none 0 0, .slice none 0 0] 56)) hn h8
  have HN := Lib.hid hn2
  clear hn2
  go_enter Try.func25, Try.ntmps25
  go_wp2_with fail
  refine HN.out.mono ?_
  rintro e w1 ⟨rfl, hm, hf⟩
  have M1 := Lib.hid hm
  have F1 := Lib.hid (FA.out.trans hf)
  have O1 := Lib.hid (hf.obj OA.out id)
  have hsz : (w.alloc (.cells #[.pointer none, .pointer none, .int .i64 0, .slice none 0 0, .slice none 0 0] 56)).heap.size = w.heap.size + 1 := by simp
  rw [hsz] at M1 ⊢
  clear hm hf hsz
  go_wp2_with fail
  refine (snew_ok (w.heap.size + 1 + 1) (w.heap.size + 1) 8 n _ _ M1.out (by omega) (by simp)).mono ?_
  rintro e w2 ⟨rfl, hs, hf⟩
  have S2 := Lib.hid hs
  have F2 := Lib.hid (F1.out.trans hf)
  have O2 := Lib.hid (hf.obj O1.out id)
  have hb1 : w.heap.size + 1 < w1.heap.size := M1.out.lt.2
  obtain ⟨b, hb⟩ : ∃ b, w1.heap.size = b := ⟨_, rfl⟩
  rw [hb] at S2 hb1 ⊢
  clear hs hf hb
  go_wp2_with fail
  refine (croot_ok b (w.heap.size + 1 + 1) (w.heap.size + 1) 8 n 8 _ _ S2.out (by omega) (by omega)).mono ?_
  rintro e w3 ⟨rfl, hs, hf⟩
  have S3 := Lib.hid hs
  have O3 := hf.obj O2.out (by omega)
  have F3 := Lib.hid (F2.out.after hf (S := fun _ => False) (fun k hk e => by omega))
  obtain ⟨q0, q1, q2, q3, q4, y0, y1, y2, y3, y4, yl⟩ := five_cells O3
  have HO3 := Lib.hid O3
  clear hs hf O3
  go_wp2_with fail
  refine bodyPost_ret (results_cell0 rfl _ _ w.heap.size 56 _ (0, 0) _ rfl (five_set HO3.out _ _ _ _ _) Try.underlying56 rfl (by kernel_rfl)) rfl ?_
  have FS := Fr.set5 (S := fun j => j = w.heap.size) (Fr.refl _ w3) (p := w.heap.size) (.inr rfl) (.pointer (some ⟨w.heap.size + 1 + 1, 0, none⟩)) (.pointer (some ⟨b, 0, none⟩)) (.int .i64 8) (.slice none 0 0) (.slice none 0 0)
  exact ⟨w.heap.size + 1 + 1, w.heap.size + 1, b, rfl, by omega, by omega, by omega, S3.out.fr FS (by omega) (by omega) (by omega), Fr.set5 F3.out (.inl (Nat.le_refl _)) _ _ _ _ _⟩
end Go.Proofs.Ytajeiccfgnpbpaa.Mem

/- Contracts: the document's list of classes, with its first class. -/
namespace Go.Proofs.Ytajeiccfgnpbpaa.Mem
open Go.RowKit

/-- append on a slice of the call's own, as one step of a region that draws its order. -/
theorem step_append_own {P : Program} {ops : Array Oper} {o : Oper} {a : Act} {w : World} {K : Act → World → Prop} {Q : Exit → Act → World → Prop} {E : Prop}
    (hg : o.guard = none) (s x : Operand) (t : TypeId) (hop : o.op = Op.call { callee := Callee.builtin Builtin.append, args := #[s, x], argTypes := #[t, t] })
    (base : Nat) (e : TypeId) (i : TypeInfo) (z : Value) (size bytes : Nat) (ht : P.underlying t = some (.slice e)) (hi : P.info? e = some i) (hz : i.zero = some z)
    (hsize : i.size = size) (hby : i.bytes = bytes) (hzs : z.cells.size = size) (hsz : 0 < size)
    (v : Value) (n : Nat) (xs : List Value) (hs : a.eval s = v) (hown : w.ownsRow base e size v n xs)
    (ad : Addr) (m c : Nat) (news : List Value) (hx : a.eval x = .slice (some ad) m c) (hl : news.length = m * size) (hnews : ∀ j u, news[j]? = some u → w.cell? (ad.add j) = some u) (h1 : ∀ u ∈ news, u.oneCell' = true)
    (h63 : n + m ≤ maxLen) (hbytes : (n + m) * bytes ≤ 140737488355328) (hbase : base ≤ w.heap.size)
    (h : ∀ v' w', w'.ownsRow base e size v' (n + m) (xs ++ news) → w.grownBy w' v.ownBlock → K (a.put o.dst v') w') :
    if Region.wanted o (yielded ops a.tmps) = true then Oper.wp P o a w K Q else E := by
  have hw : Region.wanted o (yielded ops a.tmps) = true := by simp [Region.wanted, hg]
  rw [if_pos hw]
  exact wp_append_own w s x t hop base e i z size bytes ht hi hz hsize hby hzs hsz v n xs hs hown ad m c news hx hl hnews h1 h63 hbytes hbase (fun v' w' h2 h3 _ => h v' w' h2 h3)

/-- append of nothing. -/
theorem step_append_nil {P : Program} {ops : Array Oper} {o : Oper} {a : Act} {w : World} {K : Act → World → Prop} {Q : Exit → Act → World → Prop} {E : Prop}
    (hg : o.guard = none) (s x : Operand) (t : TypeId) (hop : o.op = Op.call { callee := Callee.builtin Builtin.append, args := #[s, x], argTypes := #[t, t] })
    (base : Nat) (e : TypeId) (i : TypeInfo) (size : Nat) (ht : P.underlying t = some (.slice e)) (hi : P.info? e = some i)
    (v : Value) (n : Nat) (xs : List Value) (hs : a.eval s = v) (hown : w.ownsRow base e size v n xs) (hx : a.eval x = .slice none 0 0)
    (h : K (a.put o.dst v) w) :
    if Region.wanted o (yielded ops a.tmps) = true then Oper.wp P o a w K Q else E := by
  have hw : Region.wanted o (yielded ops a.tmps) = true := by simp [Region.wanted, hg]
  rw [if_pos hw]
  unfold Oper.wp execOp
  simp only [hop, resolve, invoke, builtin, Sem.run_bind, Sem.run_pure, Result.andThen_ok, List.map_toArray, List.map_cons, List.map_nil, hs, hx, run_append_owned_none (P := P) (w := w) base t o.type e i size ht hi v n xs hown]
  exact h

theorem infoRCl : (Try.prog.info? 90).map (fun i => (i.zero, i.size, i.bytes)) = some (some (.agg #[.int .i64 0, .int .i64 0, .int .i64 0, .slice none 0 0]), 4, 48) := by kernel_rfl

theorem four_cells {w : World} {b : Nat} {x0 x1 x2 x3 : Value} {t : TypeId} (h : w.heap[b]? = some (.cells #[x0, x1, x2, x3] t (0, 0))) :
    w.cell? ⟨b, 0, none⟩ = some x0 ∧ w.cell? ⟨b, 1, none⟩ = some x1 ∧ w.cell? ⟨b, 2, none⟩ = some x2 ∧ w.cell? ⟨b, 3, none⟩ = some x3 ∧ b < w.heap.size :=
  ⟨by rw [cell_of_row w b _ _ _ _ h]; rfl, by rw [cell_of_row w b _ _ _ _ h]; rfl, by rw [cell_of_row w b _ _ _ _ h]; rfl, by rw [cell_of_row w b _ _ _ _ h]; rfl, lt_of_block h⟩
theorem cell_four_new (w : World) (x0 x1 x2 x3 : Value) (t : TypeId) (b : Nat) (h : w.heap[b]? = some (.cells #[x0, x1, x2, x3] t (0, 0))) : ∀ j u, [x0, x1, x2, x3][j]? = some u → w.cell? ((⟨b, 0, none⟩ : Addr).add j) = some u := by
  intro j u hu
  obtain ⟨h0, h1, h2, h3, _⟩ := four_cells h
  have hp : ((⟨b, 0, none⟩ : Addr).add j) = ⟨b, j, none⟩ := by unfold Addr.add; split <;> simp_all
  rw [hp]
  match j, hu with
  | 0, hu => rw [h0]; exact hu
  | 1, hu => rw [h1]; exact hu
  | 2, hu => rw [h2]; exact hu
  | 3, hu => rw [h3]; exact hu

set_option maxRecDepth 100000 in
set_option maxHeartbeats 1000000 in
theorem rcnew_nil (slots : Int) (w : World) :
    Calls Try.prog 78 #[.slice none 0 0, .int .i64 (-1), .int .i64 slots] w
      fun e w' => (∃ o c, e = .returned (.slice o 1 c)) ∧ Fr (fun _ => False) w w' := by
  obtain ⟨i0, hi, hz0, hz1, hz2⟩ := info_parts infoRCl
  have HI := Lib.hid hi
  have HZ := Lib.hid (And.intro hz0 (And.intro hz1 hz2))
  clear hi hz0 hz1 hz2
  go_enter Try.func78, Try.ntmps78
  go_wp2_with fail
  have FX := Lib.hid ((Fr.refl (fun _ => False) w).alloc (.cells #[.int .i64 (-1), .int .i64 8, .int .i64 slots, .slice none 0 0] 90))
  have OX := heap_alloc_last w (.cells #[.int .i64 (-1), .int .i64 8, .int .i64 slots, .slice none 0 0] 90)
  obtain ⟨wX, hwX⟩ : ∃ wX, w.alloc (.cells #[.int .i64 (-1), .int .i64 8, .int .i64 slots, .slice none 0 0] 90) = wX := ⟨_, rfl⟩
  rw [hwX] at FX OX ⊢
  obtain ⟨p0, p1, p2, p3, pl⟩ := four_cells OX
  clear hwX OX
  go_region_held3 (fun W => W.cell? ⟨w.heap.size, 0, none⟩ = some (.int .i64 (-1)) ∧ W.cell? ⟨w.heap.size, 1, none⟩ = some (.int .i64 8) ∧ W.cell? ⟨w.heap.size, 2, none⟩ = some (.int .i64 slots) ∧ W.cell? ⟨w.heap.size, 3, none⟩ = some (.slice none 0 0) ∧ Fr (fun _ => False) wX W)
    ((go_split_ands; refine (fun hF => ⟨Fr.cell hF p0 id, Fr.cell hF p1 id, Fr.cell hF p2 id, Fr.cell hF p3 id, hF⟩ : Fr (fun _ => False) wX _ → _) ?_; repeat' first | exact Fr.refl _ _ | assumption | apply Fr.drew | apply Fr.alloc))
    (fail)
  all_goals
    go_wp2_with fail
    go_ret
    refine ⟨⟨_, _, rfl⟩, FX.out.trans ?_⟩
    repeat' first | exact Fr.refl _ _ | assumption | apply Fr.drew | apply Fr.alloc
end Go.Proofs.Ytajeiccfgnpbpaa.Mem

/- Contracts of package class: All. -/
namespace Go.Proofs.Ytajeiccfgnpbpaa.Mem
open Go.RowKit

/-- The classes from x downwards (below lim). -/
def chain (bs : List UInt8) : Nat → Int → Int → List Cl
  | 0, _, _ => []
  | f + 1, lim, x => if 0 < x ∧ x < lim ∧ isCl bs x = true then clv bs x :: chain bs f x (clv bs x).prev else []
theorem chain_end (bs : List UInt8) (f : Nat) (lim x : Int) (h : ¬ (0 < x ∧ x < lim ∧ isCl bs x = true)) : chain bs f lim x = [] := by
  cases f with
  | zero => rfl
  | succ f => rw [chain, if_neg h]
theorem chain_length (bs : List UInt8) : ∀ f lim x, (chain bs f lim x).length ≤ f
  | 0, _, _ => Nat.le_refl _
  | f + 1, lim, x => by
    rw [chain]
    split
    · have := chain_length bs f x (clv bs x).prev
      simp; omega
    · simp
/-- A root's classes, the last one first. -/
def visited (bs : List UInt8) (root : Int) : List Cl := chain bs (bs.length + 1) bs.length (cell bs root).1

/-- The cells of classes. -/
def clcells (l : List Cl) : List Value := l.flatMap fun c => [.int .i64 c.a, .int .i64 c.par, .int .i64 c.size, .int .i64 c.tab, .int .i64 c.prev]
theorem clcells_snoc (l : List Cl) (c : Cl) : clcells (l ++ [c]) = clcells l ++ [.int .i64 c.a, .int .i64 c.par, .int .i64 c.size, .int .i64 c.tab, .int .i64 c.prev] := by simp [clcells]

theorem infoCl : (Try.prog.info? 142).map (fun i => (i.zero, i.size, i.bytes)) = some (some (.agg #[.int .i64 0, .int .i64 0, .int .i64 0, .int .i64 0, .int .i64 0]), 5, 40) := by kernel_rfl

theorem cell_five_new (w : World) (x0 x1 x2 x3 x4 : Value) (t : TypeId) (b : Nat) (h : w.heap[b]? = some (.cells #[x0, x1, x2, x3, x4] t (0, 0))) : ∀ j u, [x0, x1, x2, x3, x4][j]? = some u → w.cell? ((⟨b, 0, none⟩ : Addr).add j) = some u := by
  intro j u hu
  obtain ⟨h0, h1, h2, h3, h4, _⟩ := five_cells h
  have hp : ((⟨b, 0, none⟩ : Addr).add j) = ⟨b, j, none⟩ := by unfold Addr.add; split <;> simp_all
  rw [hp]
  match j, hu with
  | 0, hu => rw [h0]; exact hu
  | 1, hu => rw [h1]; exact hu
  | 2, hu => rw [h2]; exact hu
  | 3, hu => rw [h3]; exact hu
  | 4, hu => rw [h4]; exact hu

/-- Classes in a variable. -/
def InVar (w : World) (vb : Nat) (t : TypeId) (L : List Cl) : Prop := ∃ v, w.heap[vb]? = some (.cells #[v] t (0, 0)) ∧ w.ownsRow (vb + 1) 142 5 v L.length (clcells L)

set_option maxRecDepth 100000 in
set_option maxHeartbeats 1000000 in
/-- The closure of All: one more class. -/
theorem all1_any (vb : Nat) (L : List Cl) (c : Cl) (t : TypeId) (w : World) (hv : InVar w vb t L) (hL : L.length ≤ 1048577) :
    Calls Try.prog 123 #[clval c, .pointer (some ⟨vb, 0, none⟩)] w fun e w' => e = .returned (.bool true) ∧ InVar w' vb t (L ++ [c]) ∧ ∀ v, w.heap[vb]? = some (.cells #[v] t (0, 0)) → Fr (fun j => j = vb ∨ v.ownBlock = some j) w w' := by
  obtain ⟨v, hv, ho⟩ := hv
  obtain ⟨o, cc, rfl, hw1, hw2, hw3, hw4⟩ := owns_form ho
  obtain ⟨i0, hi, hz0, hz1, hz2⟩ := info_parts infoCl
  have HI := Lib.hid hi
  have HZ := Lib.hid (And.intro hz0 (And.intro hz1 hz2))
  obtain ⟨y0, y1, y2, y3, y4⟩ := c
  unfold clval
  dsimp only
  have hvl := lt_of_block hv
  have FA := (Fr.refl (fun _ => False) w).alloc (.cells #[.int .i64 y0, .int .i64 y1, .int .i64 y2, .int .i64 y3, .int .i64 y4] 142)
  have hvA := cell_of_one (FA.obj hv id)
  have HV := Lib.hid hv
  have HO := Lib.hid ho
  have HT := Lib.hid (cell_five_new _ _ _ _ _ _ _ _ (heap_alloc_last (w.alloc (.cells #[.int .i64 y0, .int .i64 y1, .int .i64 y2, .int .i64 y3, .int .i64 y4] 142)) (.cells #[.int .i64 y0, .int .i64 y1, .int .i64 y2, .int .i64 y3, .int .i64 y4] 142)))
  have HLB := Lib.hid (fun j hj => (ho.lt j hj).1)
  clear hi hz0 hz1 hz2 hv ho FA hw3 hw4
  go_enter Try.func123, Try.ntmps123
  go_wp2_with (at_builtin; refine wpList_append_own _ rfl (.tmp 4) (.tmp 6) 151 rfl (vb + 1) 142 i0 _ 5 40 Try.underlying151 HI.out HZ.out.1 HZ.out.2.1 HZ.out.2.2 rfl (by decide) _ L.length (clcells L) rfl ((HO.out.alloc _).alloc _) ⟨_, 0, none⟩ 1 1 [.int .i64 y0, .int .i64 y1, .int .i64 y2, .int .i64 y3, .int .i64 y4] rfl rfl (by simpa using HT.out) (by simp [Value.oneCell']) (by unfold maxLen; omega) (by omega) (by simp; omega) ?_; intro v2 w3 hown2 hgrow2 _; obtain ⟨o2, c2, rfl, _, _, _, _⟩ := owns_form hown2; have HV2 := Lib.hid hown2; have FG := Fr.grown (S := fun j => (Value.slice o L.length cc).ownBlock = some j) (((Fr.refl (fun j => (Value.slice o L.length cc).ownBlock = some j) w).alloc (.cells #[.int .i64 y0, .int .i64 y1, .int .i64 y2, .int .i64 y3, .int .i64 y4] 142)).alloc (.cells #[.int .i64 y0, .int .i64 y1, .int .i64 y2, .int .i64 y3, .int .i64 y4] 142)) hgrow2 (fun j hj => .inr hj); have hv3 := FG.obj HV.out (fun e => by have := HLB.out vb e; omega); have hc3 := cell_of_one hv3; have hf3 := frozen_of_row _ vb 0 _ _ hv3; have H3 := Lib.hid hv3; have HFG := Lib.hid FG; clear hown2 hgrow2 FG hv3)
  go_ret
  have FS := Fr.setOne (p := vb) (Fr.refl _ w3) 0 (.slice o2 (L.length + 1) c2)
  refine ⟨rfl, ⟨_, heap_setCell_same w3 vb 0 _ _ _ H3.out, ?_⟩, fun v hv => ?_⟩
  · rw [clcells_snoc, List.length_append]
    exact FS.owns HV2.out (fun k hk e => by have := (HV2.out.lt k hk).1; omega)
  · have e := hv.symm.trans HV.out
    simp only [Option.some.injEq, Obj.cells.injEq, Array.mk.injEq, List.cons.injEq, and_true] at e
    subst e
    exact (Fr.some HFG.out fun _ e => .inr e).trans (Fr.some FS fun _ e => .inl e)

set_option maxRecDepth 100000 in
set_option maxHeartbeats 4000000 in
theorem eachAll_any (p g vb : Nat) (bs : List UInt8) (root : Int) (t : TypeId) (w : World) (h : Mat 108 w p g bs)
    (h2 : InVar w vb t []) (hpf : p < vb) (hgf : g < vb) :
    Calls Try.prog 79 #[.pointer (some ⟨p, 0, none⟩), .int .i64 root, .func (.func 123) #[] #[.pointer (some ⟨vb, 0, none⟩)]] w
      fun e w' => e = .returned (.tuple #[]) ∧ InVar w' vb t (visited bs root) ∧ Fr (fun j => vb ≤ j) w w' := by
  have HS := Lib.hid (size_any p g bs w h)
  have HC := Lib.hid (cell_any p g bs root w h)
  have HR := Lib.hid (fun x w h hx => cread_any p g bs x w h hx)
  have H := Lib.hid h
  have hbl := h.2.2.2
  have hx0 := cell_bd' bs root
  have HI := Lib.hid (show chain bs (bs.length + 1) bs.length (cell bs root).1 = visited bs root from rfl)
  have hvl := chain_length bs (bs.length + 1) bs.length (cell bs root).1
  rw [HI.out] at hvl
  obtain ⟨n, hn⟩ : ∃ n, bs.length = n := ⟨_, rfl⟩
  obtain ⟨⟨x0, d0⟩, hc⟩ : ∃ r, cell bs root = r := ⟨_, rfl⟩
  obtain ⟨res, hres⟩ : ∃ r, visited bs root = r := ⟨_, rfl⟩
  rw [hn, hc, hres] at HI
  rw [hn, hres] at hvl
  rw [hn] at HS hbl
  rw [hc] at HC hx0
  rw [hres]
  dsimp only at hx0
  have H2 := Lib.hid h2
  clear h hn hc hres h2
  go_enter Try.func79, Try.ntmps79
  go_wp2_with (first | (go_at_call 51; refine HS.out.mono ?_; rintro e w' ⟨rfl, h0⟩; obtain rfl := h0.symm) | (go_at_call 46; refine HC.out.mono ?_; rintro e w' ⟨rfl, h0⟩; obtain rfl := h0.symm))
  go_loopw [6, 7] (fun lv xv wr => ∃ (f : Nat) (lim x : Int) (L : List Cl), lv = .int .i64 lim ∧ xv = .int .i64 x ∧ lim ≤ f ∧ lim ≤ 1048576 ∧ (-9223372036854775808 ≤ x ∧ x ≤ 9223372036854775807) ∧
    InVar wr vb t L ∧ L ++ chain bs f lim x = res ∧ Fr (fun j => vb ≤ j) w wr) (fun lv _ _ => (intOf lv).toNat)
  case atStart => exact ⟨n + 1, n, x0, [], rfl, rfl, by omega, by omega, hx0, H2.out, HI.out, Fr.refl _ _⟩
  case round =>
    obtain ⟨f, lim, x, L, rfl, rfl, hf, hlm, hxb, hcf, hch, hF⟩ := hrel
    have hLb : L.length ≤ 1048577 := by
      have := congrArg List.length hch
      rw [List.length_append] at this
      omega
    have HCF := Lib.hid hcf
    have HF := Lib.hid hF
    clear hcf hF
    by_cases hx : 0 < x
    · by_cases hl : x < lim
      · have hr := HR.out x _ (H.out.fr HF.out (by omega) (by omega)) hxb
        by_cases hcl : isCl bs x = true
        · obtain ⟨f', rfl⟩ : ∃ f', f = f' + 1 := ⟨f - 1, by omega⟩
          rw [chain, if_pos ⟨hx, hl, hcl⟩] at hch
          rw [hcl] at hr
          have hva : (clv bs x).a = x := by unfold clv; rw [if_pos hcl]
          have hvp := cell_bd' bs (x + 32)
          have hvq : (clv bs x).prev = (cell bs (x + 32)).1 := by unfold clv; rw [if_pos hcl]
          rw [← hvq] at hvp
          obtain ⟨⟨y0, y1, y2, y3, y4⟩, hy⟩ : ∃ y, clv bs x = y := ⟨_, rfl⟩
          rw [hy] at hr hch hva hvp
          dsimp only at hch hva hvp
          subst hva
          simp only [clval] at hr
          have HRR := Lib.hid hr
          have HCH := Lib.hid hch
          clear hr hcl hy hvq hch
          go_wp2_with fail
          refine HRR.out.mono ?_
          rintro e w1 ⟨rfl, hf1⟩
          have hfa := hf1.alloc (.cells #[.int .i64 y0, .int .i64 y1, .int .i64 y2, .int .i64 y3, .int .i64 y4] 142)
          have HF1 := Lib.hid (HF.out.trans (Fr.some hfa fun _ e => e.elim))
          obtain ⟨v, hv, ho⟩ := HCF.out
          have HC1 := Lib.hid (show InVar _ vb t L from ⟨v, hfa.obj hv id, hfa.owns ho (fun _ _ => id)⟩)
          have hvv := lt_of_block hv
          have hsz1 := hf1.size
          have HB1 := Lib.hid (heap_alloc_last w1 (.cells #[.int .i64 y0, .int .i64 y1, .int .i64 y2, .int .i64 y3, .int .i64 y4] 142))
          have HNB := Lib.hid (show ∀ j, v.ownBlock = some j → j < w1.heap.size from fun j hj => by have := (ho.lt j hj).2; omega)
          have HLB := Lib.hid (show ∀ j, v.ownBlock = some j → vb ≤ j from fun j hj => by have := (ho.lt j hj).1; omega)
          have HV1 := Lib.hid (hfa.obj hv id)
          clear hf1 hfa hv ho
          go_wp2_with fail
          have hk := all1_any vb L ⟨y0, y1, y2, y3, y4⟩ t _ HC1.out hLb
          simp only [clval] at hk
          have HK := Lib.hid hk
          clear hk
          refine HK.out.mono ?_
          rintro e w2 ⟨rfl, hq, hf2⟩
          have HQ := Lib.hid hq
          have hf3 := hf2 _ HV1.out
          have hb2 := hf3.obj HB1.out (fun e => by
            rcases e with e | e
            · omega
            · have := HNB.out _ e; omega)
          obtain ⟨q0, q1, q2, q3, q4, _, _, _, _, _, ql⟩ := five_cells hb2
          have HF2 := Lib.hid (HF1.out.trans (Fr.some hf3 fun _ e => by
            rcases e with e | e
            · omega
            · exact HLB.out _ e))
          clear hq hf2 hf3 hb2
          go_wp2_with fail
          go_quiet (fail)
          go_wp2
          go_roundw
          case rel => exact ⟨f', y0, y4, L ++ [⟨y0, y1, y2, y3, y4⟩], rfl, rfl, by omega, by omega, hvp, by obtain ⟨v', hv', ho'⟩ := HQ.out; exact ⟨v', hv', ho'⟩, by rw [List.append_assoc]; exact HCH.out, HF2.out.drewN _⟩
          case measure => simp only [intOf]; omega
        · have hcl' : isCl bs x = false := by simpa using hcl
          rw [chain_end bs f lim x (fun e => hcl e.2.2), List.append_nil] at hch
          rw [clv_none hcl', hcl'] at hr
          simp only [clval] at hr
          have HRR := Lib.hid hr
          have HCH := Lib.hid hch
          clear hr hcl hcl' hch
          go_wp2_with fail
          refine HRR.out.mono ?_
          rintro e w1 ⟨rfl, hf1⟩
          have hfa := hf1.alloc (.cells #[.int .i64 0, .int .i64 0, .int .i64 0, .int .i64 0, .int .i64 0] 142)
          have HF1 := Lib.hid (HF.out.trans (Fr.some hfa fun _ e => e.elim))
          obtain ⟨v, hv, ho⟩ := HCF.out
          have HC1 := Lib.hid (show InVar _ vb t L from ⟨v, hfa.obj hv id, hfa.owns ho (fun _ _ => id)⟩)
          clear hf1 hfa hv ho
          go_wp2_with fail
          (try simp only [Exit.inBlock, Exit.then])
          refine bodyPost_ret (results_none rfl _ _ _) rfl ⟨rfl, by rw [← HCH.out]; exact HC1.out, HF1.out⟩
      · rw [chain_end bs f lim x (fun e => hl e.2.1), List.append_nil] at hch
        have HCH := Lib.hid hch
        clear hch
        go_wp2_with fail
        go_end0
        exact ⟨rfl, by rw [← HCH.out]; exact HCF.out, HF.out⟩
    · rw [chain_end bs f lim x (fun e => hx e.1), List.append_nil] at hch
      have HCH := Lib.hid hch
      clear hch
      go_wp2_with fail
      go_end0
      exact ⟨rfl, by rw [← HCH.out]; exact HCF.out, HF.out⟩
end Go.Proofs.Ytajeiccfgnpbpaa.Mem

/- Contracts of package class at one class at most: All, heirs, Set. -/
namespace Go.Proofs.Ytajeiccfgnpbpaa.Mem
open Go.RowKit Go.Maps

set_option maxRecDepth 100000 in
set_option maxHeartbeats 1000000 in
theorem reverse_short (o : Option Addr) (n c : Nat) (hn : n ≤ 1) (w : World) :
    Calls Try.prog 124 #[.slice o n c] w fun e w' => e = .returned (.tuple #[]) ∧ w' = w := by
  have h1 : ¬ (0 : Int) < (n : Int) - 1 := by omega
  go_enter Try.func124, Try.ntmps124
  go_wp2
  refine wp_loop_rounds 1 ?_
  rw [rounds_succ]
  go_wp2
  go_end0
  exact ⟨rfl, rfl⟩

set_option maxRecDepth 100000 in
set_option maxHeartbeats 1000000 in
theorem all_short (p g : Nat) (bs : List UInt8) (root : Int) (w : World) (h : Mat 108 w p g bs) (hs : (visited bs root).length ≤ 1) :
    Calls Try.prog 109 #[.pointer (some ⟨p, 0, none⟩), .int .i64 root] w
      fun e w' => ∃ v, e = .returned v ∧ w'.ownsRow w.heap.size 142 5 v (visited bs root).length (clcells (visited bs root)) ∧ Fr (fun _ => False) w w' := by
  have hmf : ∀ (fn : Fn) (first cap : Array Value) (w : World), (Instr.makeFunc fn first cap).run Try.prog w = .ok (.func fn first cap) w := fun _ _ _ _ => rfl
  have hb := heap_alloc_last w (.cells #[.slice none 0 0] 151)
  have FA := (Fr.refl (fun _ => False) w).alloc (.cells #[.slice none 0 0] 151)
  have hl := h.lt
  have HE := Lib.hid (eachAll_any p g w.heap.size bs root 151 _ (h.fr FA id id) ⟨_, hb, World.ownsRow_nil _ _ _ _⟩ hl.1 hl.2)
  have HFA := Lib.hid FA
  obtain ⟨L, hL⟩ : ∃ L, visited bs root = L := ⟨_, rfl⟩
  rw [hL] at HE hs ⊢
  clear h hb FA hL hl
  go_enter Try.func109, Try.ntmps109
  go_wp2_with fail
  refine HE.out.mono ?_
  rintro e w1 ⟨rfl, ⟨v, hv, ho⟩, hf⟩
  obtain ⟨o, c, rfl, _, _, _, _⟩ := owns_form ho
  have hc1 := cell_of_one hv
  have HO := Lib.hid ho
  have F1 := Lib.hid (HFA.out.after hf (S := fun _ => False) (fun k hk e => by omega))
  clear hv ho hf
  go_wp2_with fail
  refine (reverse_short o L.length c hs _).mono ?_
  rintro e w' ⟨rfl, h0⟩
  obtain rfl := h0.symm
  go_wp2_with fail
  go_ret
  exact ⟨_, rfl, owns_mono HO.out (by omega), F1.out⟩

theorem addr_add'' (g i : Nat) : (⟨g, 0, none⟩ : Addr).add i = ⟨g, i, none⟩ := by unfold Addr.add; split <;> simp_all

/-- How a class reads as an element of a map. -/
def clElem (v : Value) : Option (DataW Unit × List MemPlace) :=
  match v with
  | .agg ⟨[.int .i64 a, .int .i64 b, .int .i64 c, .int .i64 d, .int .i64 e]⟩ => some (.agg [.lit (.int .i64 a), .lit (.int .i64 b), .lit (.int .i64 c), .lit (.int .i64 d), .lit (.int .i64 e)], [])
  | _ => none
theorem clElem_inv {v : Value} {a b c d e : Int} {ps : List MemPlace} (h : clElem v = some (.agg [.lit (.int .i64 a), .lit (.int .i64 b), .lit (.int .i64 c), .lit (.int .i64 d), .lit (.int .i64 e)], ps)) :
    v = .agg #[.int .i64 a, .int .i64 b, .int .i64 c, .int .i64 d, .int .i64 e] := by
  unfold clElem at h
  split at h
  · simp at h
    obtain ⟨⟨h1, h2, h3, h4, h5⟩, _⟩ := h
    subst h1; subst h2; subst h3; subst h4; subst h5
    rfl
  · cases h
theorem lawKey : Keyed Try.prog 2 := int_keyed Try.underlying2
theorem zeroCl (w : World) : (zeroValue 142).run Try.prog w = .ok (.agg #[.int .i64 0, .int .i64 0, .int .i64 0, .int .i64 0, .int .i64 0]) w := by kernel_rfl

set_option maxRecDepth 100000 in
set_option maxHeartbeats 2000000 in
theorem heirs_one (p g : Nat) (bs : List UInt8) (root sel : Int) (c : Cl) (w : World) (h : Mat 108 w p g bs) (hs : visited bs root = [c]) (hca : (Lit.int .i64 c.a).wf = true) (hcp : (Lit.int .i64 c.par).wf = true) :
    Calls Try.prog 85 #[.pointer (some ⟨p, 0, none⟩), .int .i64 root, .int .i64 c.a, .int .i64 sel] w
      fun e w' => ∃ v, e = .returned v ∧ w'.ownsRow w.heap.size 142 5 v 1 (clcells [c]) ∧ Fr (fun _ => False) w w' := by
  have hmm := @run_makeMap Try.prog
  obtain ⟨i0, hi, hz0, hz1, hz2⟩ := info_parts infoCl
  have HI := Lib.hid hi
  have HZ := Lib.hid (And.intro hz0 (And.intro hz1 hz2))
  clear hi hz0 hz1 hz2
  have ha := fun W h => all_short p g bs root W h (by rw [hs]; exact Nat.le_refl _)
  rw [hs] at ha
  obtain ⟨y0, y1, y2, y3, y4⟩ := c
  dsimp only at hca hcp
  have K1 := Lib.hid (keyOf_int_mk (P := Try.prog) Try.underlying2 hcp)
  have K0 := Lib.hid (keyOf_int_mk (P := Try.prog) Try.underlying2 hca)
  clear hca hcp
  simp only [clcells, List.flatMap_cons, List.flatMap_nil, List.append_nil, List.length_singleton] at ha ⊢
  have HA := Lib.hid ha
  have H := Lib.hid h
  clear ha h hs
  go_enter Try.func85, Try.ntmps85
  go_wp2_with fail
  refine (HA.out _ (H.out.fr ((Fr.refl (fun _ => False) w).alloc _) id id)).mono ?_
  rintro e w1 ⟨v, rfl, ho, hf⟩
  obtain ⟨o, cc, rfl, _, _, h3, h4⟩ := owns_form ho
  obtain ⟨gA, rfl, hgA, hgl⟩ : ∃ gA, o = some ⟨gA, 0, none⟩ ∧ w.heap.size ≤ gA ∧ gA < w1.heap.size := by
    cases o with
    | none => have := h3 rfl; omega
    | some bb =>
      obtain ⟨e1, e2, e3, e4⟩ := h4 bb rfl
      obtain ⟨b0, o0, p0⟩ := bb
      dsimp only at *
      subst e1; subst e2
      exact ⟨b0, rfl, by simp at e3; omega, e4⟩
  have c0 := ho.cells rfl 0 _ rfl
  have c1 := ho.cells rfl 1 _ rfl
  have c2 := ho.cells rfl 2 _ rfl
  have c3 := ho.cells rfl 3 _ rfl
  have c4 := ho.cells rfl 4 _ rfl
  rw [addr_add''] at c0 c1 c2 c3 c4
  clear h3 h4
  have hM := hf.obj (heap_alloc_last w (.map #[] 0)) id
  have HOM := Lib.hid (show World.ownsMap w1 Try.prog 2 clElem w.heap.size 0 (.map []) from by
    obtain ⟨es, ck, q1, q2, q3, q4⟩ := World.ownsMap_made w Try.prog 2 clElem
    exact ⟨es, ck, hf.obj q1 id, q2, q3, q4⟩)
  have hgm : w.heap.size < gA := by have := (ho.lt gA rfl).1; simp at this; omega
  have F1 := Lib.hid (((Fr.refl (fun _ => False) w).alloc _).trans hf)
  have hl1 := lt_of_block hM
  clear ho hf
  go_wp2_with fail
  go_loopw [9, 20] (fun lv iv wr => (lv = .slice none 0 0 ∧ iv = .int .i64 0 ∧ wr = w1) ∨ (iv = .int .i64 1 ∧ wr.ownsRow w.heap.size 142 5 lv 1 [.int .i64 y0, .int .i64 y1, .int .i64 y2, .int .i64 y3, .int .i64 y4] ∧ Fr (fun j => j = w.heap.size) w1 wr)) (fun _ iv _ => (1 - intOf iv).toNat)
  case atStart => exact .inl ⟨rfl, rfl, rfl⟩
  case round =>
    rcases hrel with ⟨rfl, rfl, rfl⟩ | ⟨rfl, hO, hF⟩
    · go_wp2_with (first | (at_lookup; refine wpList_lookup_own_ok _ rfl _ _ 187 rfl 2 142 lawKey Try.underlying187 clElem (zeroCl _) (.agg [.lit (.int .i64 0), .lit (.int .i64 0), .lit (.int .i64 0), .lit (.int .i64 0), .lit (.int .i64 0)]) [] rfl w.heap.size 0 (.map []) rfl (HOM.out.alloc _) _ _ rfl K1.out ?_; intro v ps hvv; obtain rfl := clElem_inv hvv) | (at_mapUpdate; refine wpList_mapUpdate_own _ rfl _ _ _ 187 rfl 2 142 lawKey Try.underlying187 clElem w.heap.size 0 (.map []) rfl ((HOM.out.alloc _).alloc _) (by unfold maxLen; omega) _ _ _ rfl rfl K0.out _ [] rfl ?_; intro w3 hown3 hgrow3; have FG := Fr.grown (S := fun j => j = w.heap.size) (((Fr.refl (fun j => j = w.heap.size) _).alloc (.cells #[.int .i64 y0, .int .i64 y1, .int .i64 y2, .int .i64 y3, .int .i64 y4] 142)).alloc (.cells #[.int .i64 0, .int .i64 0, .int .i64 0, .int .i64 0, .int .i64 0] 142)) hgrow3 (fun j hj => .inr (Option.some.inj hj).symm); have HFG := Lib.hid FG; have FG2 := Fr.grown (S := fun j => j = w.heap.size) (Fr.refl _ _) hgrow3 (fun j hj => .inr (Option.some.inj hj).symm); have hsz3 := FG.size; obtain ⟨k0, k1, k2, k3, k4, _, _, _, _, _, _⟩ := five_cells (FG2.obj ((Below.heap_alloc _ _ _ (by simp)).trans (heap_alloc_last wr (.cells #[.int .i64 y0, .int .i64 y1, .int .i64 y2, .int .i64 y3, .int .i64 y4] 142))) (by omega)); have HT := Lib.hid (cell_five_new _ _ _ _ _ _ _ _ (heap_alloc_last w3 (.cells #[.int .i64 y0, .int .i64 y1, .int .i64 y2, .int .i64 y3, .int .i64 y4] 142))); clear hown3 FG FG2) | (at_builtin; refine wpList_append_own _ rfl (.tmp 49) (.tmp 51) 151 rfl w.heap.size 142 i0 _ 5 40 Try.underlying151 HI.out HZ.out.1 HZ.out.2.1 HZ.out.2.2 rfl (by decide) _ 0 [] rfl (World.ownsRow_nil _ _ _ _) ⟨_, 0, none⟩ 1 1 [.int .i64 y0, .int .i64 y1, .int .i64 y2, .int .i64 y3, .int .i64 y4] rfl rfl HT.out (by simp [Value.oneCell']) (by unfold maxLen; omega) (by omega) (by simp; omega) ?_; intro v5 w5 hown5 hgrow5 _; have HV5 := Lib.hid hown5; have HF5 := Lib.hid (Fr.grown (HFG.out.alloc _) hgrow5 (fun j hj => by cases hj)); clear hown5 hgrow5))
      exact ⟨.inr ⟨rfl, HV5.out, HF5.out⟩, by simp [intOf]⟩
    · go_wp2_with fail
      go_ret
      exact ⟨_, rfl, hO, F1.out.after hF (S := fun _ => False) (fun k hk e => by omega)⟩
end Go.Proofs.Ytajeiccfgnpbpaa.Mem
