/- Several texts in one: VmP, VmQ, VmE. -/
import Derived.Test.YthkmbnkkohomeaaGreatDoorSwah
import Derived.Test.YthkmbnkkohomeaaGreatDoorSwaa
import Derived.Test.YthkmbnkkohomeaaGreatDoorSwan
import Derived.Test.YthkmbnkkohomeaaGreatDoorSwak
set_option linter.unusedSimpArgs false
set_option linter.unusedVariables false
/- Plain mathematics: what stands in a dictionary with the primitives' heads. No program. -/
namespace Go.Proofs.YthkmbnkkohomeaaGreatDoor.Mem
open Go.RowKit Go.Proofs.YthkmbnkkohomeaaGreatDoor.Cod

def nmx (i : Nat) : List UInt8 := nml.getD i []
/-- Where the i-th head begins, and ends. -/
def posN : Nat → Nat
  | 0 => 32
  | i + 1 => al8 (al8 (posN i) + 16 + (nmx i).length) + 8
def wsN : Nat → List (HW × Int)
  | 0 => []
  | i + 1 => (⟨(al8 (posN i) : Nat), (al8 (al8 (posN i) + 16 + (nmx i).length) : Nat), 0, nmx i⟩, ((i + 1 : Nat) : Int)) :: wsN i
def bsN (bs : List UInt8) : Nat → List UInt8
  | 0 => bs
  | i + 1 => hput (bsN bs i) (posN i) 24 (nmx i) 0 ((i + 1 : Nat) : Int)

theorem posN_mono : ∀ i j : Nat, i ≤ j → posN i ≤ posN j := fun i j h => by
  induction j with
  | zero => obtain rfl : i = 0 := by omega
            exact Nat.le_refl _
  | succ j ih =>
    by_cases e : i = j + 1
    · subst e; exact Nat.le_refl _
    · have := ih (by omega)
      rw [posN]
      unfold al8
      omega
theorem nmx_len : ∀ i : Fin 86, (nmx i.val).length ≤ 31 := by decide +kernel
theorem posN_all : posN 86 = 2784 := by decide +kernel

/-- The dictionary behind the i-th head. -/
theorem hd_n (bs : List UInt8) (hr : cellv bs 24 = 0) (hl : 2784 ≤ bs.length) (hb : bs.length ≤ 1048576) : ∀ i, i ≤ 86 → HD (bsN bs i) (posN i) 24 (wsN i) ∧ (bsN bs i).length = bs.length ∧ ∀ j, j < 24 → (bsN bs i).getD j 0 = bs.getD j 0 := by
  intro i
  induction i with
  | zero =>
    intro _
    refine ⟨⟨by omega, by rw [posN]; omega, by rw [posN, bsN]; omega, hb, ?_, fun w hw => by simp [wsN] at hw, fun w hw => by simp [wsN] at hw⟩, rfl, fun _ _ => rfl⟩
    rw [bsN, hr]
    rfl
  | succ i ih =>
    intro hi
    obtain ⟨h1, h2, h3⟩ := ih (by omega)
    have hm := posN_mono (i + 1) 86 hi
    rw [posN_all, posN] at hm
    have hn := nmx_len ⟨i, by omega⟩
    dsimp only at hn
    have hnew := h1.new (nmx i) 0 ((i + 1 : Nat) : Int) hn (by rw [h2]; omega) (by omega) (by unfold I64'; omega)
    have hput := hput_new (bsN bs i) (posN i) 24 (nmx i) 0 ((i + 1 : Nat) : Int) h1.rx hn (by rw [h2]; omega) h1.big (by omega) (by unfold I64'; omega)
    refine ⟨hnew, by rw [bsN, hput.len, h2], fun j hj => ?_⟩
    rw [bsN, hput.old j (.inl ⟨by have := h1.rx; omega, .inl hj⟩), h3 j hj]

/-- The words of a new machine. -/
def baseNm : List UInt8 := [98, 97, 115, 101]
def wsAll : List (HW × Int) := (⟨2784, 2808, 0, baseNm⟩, 1003) :: wsN 86
def bsB (bs : List UInt8) : List UInt8 := hput (bsN bs 86) 2784 24 baseNm 0 1003
theorem hd_base (bs : List UInt8) (hr : cellv bs 24 = 0) (hl : 2832 ≤ bs.length) (hb : bs.length ≤ 1048576) : HD (bsB bs) 2816 24 wsAll ∧ (bsB bs).length = bs.length ∧ ∀ j, j < 24 → (bsB bs).getD j 0 = bs.getD j 0 := by
  obtain ⟨h1, h2, h3⟩ := hd_n bs hr (by omega) hb 86 (Nat.le_refl _)
  rw [posN_all] at h1
  have hnew := h1.new baseNm 0 1003 (by decide) (by rw [h2]; show 2816 ≤ bs.length; omega) (by omega) (by unfold I64'; omega)
  have hput := hput_new (bsN bs 86) 2784 24 baseNm 0 1003 h1.rx (by decide) (by rw [h2]; show 2816 ≤ bs.length; omega) h1.big (by omega) (by unfold I64'; omega)
  refine ⟨hnew, by rw [bsB, hput.len, h2], fun j hj => ?_⟩
  rw [bsB, hput.old j (.inl ⟨by omega, .inl hj⟩), h3 j hj]

theorem find_dot : (hpick [46] (wsAll.map (·.1))).map (fun w => (w.a, w.xt, w.fl)) = some (2176, 2200, 0) := by decide +kernel
theorem find_one : (hpick [49] (wsAll.map (·.1))).isNone = true := by decide +kernel
theorem dot_code : ∀ w ∈ wsAll, w.1.xt = 2200 → w.2 = 68 := by
  have h : wsAll.all (fun w => decide (w.1.xt = 2200 → w.2 = 68)) = true := by decide +kernel
  intro w hw
  rw [List.all_eq_true] at h
  exact of_decide_eq_true (h w hw)
end Go.Proofs.YthkmbnkkohomeaaGreatDoor.Mem

/- Plain facts on the names, as vm.lay hands them to head.Create. -/
namespace Go.Proofs.YthkmbnkkohomeaaGreatDoor.Mem
open Go.RowKit

theorem nm_ne : ∀ k : Fin 86, (Cod.nm.getD k.val ByteArray.empty).toList ≠ [] := by decide +kernel
theorem nm_low : ∀ k : Fin 86, lower (Cod.nm.getD k.val ByteArray.empty).data.toList = Cod.nml.getD k.val [] := by decide +kernel
theorem nm_31 : ∀ k : Fin 86, (Cod.nm.getD k.val ByteArray.empty).size ≤ 31 := by decide +kernel
theorem nm_len : ∀ k : Fin 86, (Cod.nm.getD k.val ByteArray.empty).size = (Cod.nml.getD k.val []).length := by decide +kernel
/-- Only one name is that of the word behind catch: the 74th. -/
theorem nm_caught : ∀ k : Fin 86, (Cod.nm.getD k.val ByteArray.empty).data.toList = [40, 99, 97, 117, 103, 104, 116, 41] ↔ k.val = 73 := by decide +kernel
end Go.Proofs.YthkmbnkkohomeaaGreatDoor.Mem

/- Contracts on the way to vm.New: intern.New. -/
namespace Go.Proofs.YthkmbnkkohomeaaGreatDoor.Mem
open Go.RowKit

set_option maxRecDepth 100000 in
theorem inew_any (most : Int) (w : World) :
    Calls Tryz.prog 75 #[.int .i64 most] w fun e w' => e = .returned (.pointer (some ⟨w.heap.size + 1, 0, none⟩)) ∧ w'.heap[w.heap.size + 1]? = some (.cells #[.int .i64 most, .map (some w.heap.size), .slice none 0 0] 187 (0, 0)) ∧ Fr (fun _ => False) w w' := by
  have hmm := @run_makeMap Tryz.prog
  have hs : (w.alloc (.map #[] 0)).heap.size = w.heap.size + 1 := by simp
  have hA := heap_alloc_last (w.alloc (.map #[] 0)) (.cells #[.int .i64 most, .map (some w.heap.size), .slice none 0 0] 187)
  rw [hs] at hA
  go_enter Tryz.func75, Tryz.ntmps75
  go_wp2_with fail
  go_ret
  exact ⟨rfl, hA, ((Fr.refl _ _).alloc _).alloc _⟩
end Go.Proofs.YthkmbnkkohomeaaGreatDoor.Mem
