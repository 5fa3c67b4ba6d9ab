/- Contracts: Grow, and a new world of the statements. -/
import Derived.Test.YtajeiccfgnpbpaaObjB
namespace Go.Proofs.Ytajeiccfgnpbpaa.Mem
open Go.RowKit

/-- What Grow tells, and leaves. -/
def growv (bs : List UInt8) (c n : Int) : (Int × Int) × List UInt8 :=
  if isCl bs c = true then (if n < 0 ∨ 1048576 < n ∨ (clv bs c).size < 0 ∨ 1048576 < (clv bs c).size then ((0, -256), bs) else (((clv bs c).size, 0), setc bs (c + 16) (((clv bs c).size + n + 8 - 1) / 8 * 8))) else ((0, -2048), bs)

set_option maxRecDepth 100000 in
set_option maxHeartbeats 2000000 in
/-- Grow of a class that is there, by a number that may be. -/
theorem cgrow_ok (p g : Nat) (bs : List UInt8) (c n : Int) (w : World) (h : Mat 108 w p g bs) (hi : isCl bs c = true) (hn : 0 ≤ n ∧ n ≤ 1048576) (hs : 0 ≤ (clv bs c).size ∧ (clv bs c).size ≤ 1048576) :
    Calls Try.prog 39 #[.pointer (some ⟨p, 0, none⟩), .int .i64 c, .int .i64 n] w
      fun e w' => e = .returned (.tuple #[.int .i64 (clv bs c).size, .int .i64 0]) ∧ Mat 108 w' p g (setc bs (c + 16) (((clv bs c).size + n + 8 - 1) / 8 * 8)) ∧ Only g w w' := by
  have hin := isCl_in hi
  have hbl := h.2.2.2
  have hr := cread_any p g bs c w h (by omega)
  rw [hi] at hr
  have H := Lib.hid h
  obtain ⟨⟨k0, k1, k2, k3, k4⟩, hk⟩ : ∃ r, clv bs c = r := ⟨_, rfl⟩
  rw [hk] at hr hs ⊢
  dsimp only at hs ⊢
  simp only [clval] at hr
  have HR := Lib.hid hr
  have HX := Lib.hid (fun v w h => setCell_any p g bs (c + 16) v w h)
  have hco : code bs.length (c + 16) = 0 := code_of (by omega) (by omega) (by omega)
  have hcb : 0 ≤ c ∧ c ≤ 1048576 := by omega
  have HCO := Lib.hid hco
  clear h hi hr hk hin hbl hco
  go_enter Try.func39, Try.ntmps39
  go_wp2_with fail
  refine HR.out.mono ?_
  rintro e w1 ⟨rfl, hf⟩
  have F1 := Lib.hid (hf.alloc (.cells #[.int .i64 k0, .int .i64 k1, .int .i64 k2, .int .i64 k3, .int .i64 k4] 142))
  have O1 := Lib.hid (heap_alloc_last w1 (.cells #[.int .i64 k0, .int .i64 k1, .int .i64 k2, .int .i64 k3, .int .i64 k4] 142))
  have HG := Lib.hid (show w1.heap.size ≠ g by have := H.out.lt.2; have := hf.size; omega)
  clear hf
  go_wp2_with fail
  refine (HX.out _ _ (H.out.fr F1.out id id)).mono ?_
  rintro e w2 ⟨rfl, hm, hf⟩
  have M2 := Lib.hid hm
  obtain ⟨q0, q1, q2, q3, q4, _, _, _, _, _, _⟩ := five_cells (hf.obj O1.out HG.out)
  have F2 := Lib.hid ((Fr.some F1.out fun _ e => e.elim).trans hf)
  clear hm hf
  go_wp2_with fail
  go_ret2
  exact ⟨rfl, M2.out, F2.out⟩

/-- A struct in a variable is handed back. -/
theorem results_cell0 {P : Program} {fn : Func} {p : Tmp} {ty : TypeId} (h : fn.results = #[.cell p ty]) (tmps : Array Value) (w : World) (g : Nat) (t : TypeId) (cs : Array Value) (fr : Nat × Nat) (d : TypeDesc)
    (hp : tmps.getD p undef = .pointer (some ⟨g, 0, none⟩)) (hg : w.heap[g]? = some (.cells cs t fr))
    (hu : P.underlying ty = some d) (hd : (match d with | .struct _ | .array _ _ => true | _ => false) = true) (hi : (P.info? ty).map (·.size) = some cs.size) :
    (results fn tmps).run P w = .ok (.agg cs) w := by
  have hp' : tmps[p]?.getD undef = .pointer (some ⟨g, 0, none⟩) := by simpa using hp
  simp [results, h, hp', asAddr, run_loadVar_row w g t ty cs fr d hg hu hd hi]

/-- A world that is new: its memory, its space, its root, no classes. -/
def NewWorld (n : Nat) (w : World) (e : Ending) (w' : World) : Prop :=
  ∃ p g b : Nat, e = .returned (.agg #[.pointer (some ⟨p, 0, none⟩), .pointer (some ⟨b, 0, none⟩), .int .i64 8, .slice none 0 0, .slice none 0 0]) ∧ w.heap.size ≤ p ∧ w.heap.size ≤ g ∧ w.heap.size ≤ b ∧
    Sat w' b p g 8 n 16 (setv (List.replicate n 0) 8 0) ∧ Fr (fun _ => False) w w'

set_option maxRecDepth 100000 in
set_option maxHeartbeats 2000000 in
theorem wnew_ok (n : Nat) (w : World) (hn : n ≤ 1048576) (h8 : n % 8 = 0) (h16 : 16 ≤ n) :
    Calls Try.prog 25 #[.int .i64 n] w (NewWorld n w) := by
  have FA := Lib.hid ((Fr.refl (fun _ => False) w).alloc (.cells #[.pointer none, .pointer none, .int .i64 0, .slice none 0 0, .slice none 0 0] 56))
  have OA := Lib.hid (heap_alloc_last w (.cells #[.pointer none, .pointer none, .int .i64 0, .slice none 0 0, .slice none 0 0] 56))
  have hn2 := new_ok n (w.alloc (.cells #[.pointer none, .pointer none, .int .i64 0, .slice none 0 0, .slice none 0 0] 56)) hn h8
  have HN := Lib.hid hn2
  clear hn2
  go_enter Try.func25, Try.ntmps25
  go_wp2_with fail
  refine HN.out.mono ?_
  rintro e w1 ⟨rfl, hm, hf⟩
  have M1 := Lib.hid hm
  have F1 := Lib.hid (FA.out.trans hf)
  have O1 := Lib.hid (hf.obj OA.out id)
  have hsz : (w.alloc (.cells #[.pointer none, .pointer none, .int .i64 0, .slice none 0 0, .slice none 0 0] 56)).heap.size = w.heap.size + 1 := by simp
  rw [hsz] at M1 ⊢
  clear hm hf hsz
  go_wp2_with fail
  refine (snew_ok (w.heap.size + 1 + 1) (w.heap.size + 1) 8 n _ _ M1.out (by omega) (by simp)).mono ?_
  rintro e w2 ⟨rfl, hs, hf⟩
  have S2 := Lib.hid hs
  have F2 := Lib.hid (F1.out.trans hf)
  have O2 := Lib.hid (hf.obj O1.out id)
  have hb1 : w.heap.size + 1 < w1.heap.size := M1.out.lt.2
  obtain ⟨b, hb⟩ : ∃ b, w1.heap.size = b := ⟨_, rfl⟩
  rw [hb] at S2 hb1 ⊢
  clear hs hf hb
  go_wp2_with fail
  refine (croot_ok b (w.heap.size + 1 + 1) (w.heap.size + 1) 8 n 8 _ _ S2.out (by omega) (by omega)).mono ?_
  rintro e w3 ⟨rfl, hs, hf⟩
  have S3 := Lib.hid hs
  have O3 := hf.obj O2.out (by omega)
  have F3 := Lib.hid (F2.out.after hf (S := fun _ => False) (fun k hk e => by omega))
  obtain ⟨q0, q1, q2, q3, q4, y0, y1, y2, y3, y4, yl⟩ := five_cells O3
  have HO3 := Lib.hid O3
  clear hs hf O3
  go_wp2_with fail
  refine bodyPost_ret (results_cell0 rfl _ _ w.heap.size 56 _ (0, 0) _ rfl (five_set HO3.out _ _ _ _ _) Try.underlying56 rfl (by kernel_rfl)) rfl ?_
  have FS := Fr.set5 (S := fun j => j = w.heap.size) (Fr.refl _ w3) (p := w.heap.size) (.inr rfl) (.pointer (some ⟨w.heap.size + 1 + 1, 0, none⟩)) (.pointer (some ⟨b, 0, none⟩)) (.int .i64 8) (.slice none 0 0) (.slice none 0 0)
  exact ⟨w.heap.size + 1 + 1, w.heap.size + 1, b, rfl, by omega, by omega, by omega, S3.out.fr FS (by omega) (by omega) (by omega), Fr.set5 F3.out (.inl (Nat.le_refl _)) _ _ _ _ _⟩
end Go.Proofs.Ytajeiccfgnpbpaa.Mem
