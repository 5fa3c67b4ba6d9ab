/- Several texts in one: LvP, McA, FmC. -/
import Derived.Test.YthkmbnkkohomeaaGreatDoorSwap
import Derived.Test.YthkmbnkkohomeaaGreatDoorSwae
import Derived.StringKeys
set_option linter.unusedSimpArgs false
set_option linter.unusedVariables false
/- Plain mathematics: what stands in the memory of a new machine. No program. -/
namespace Go.Proofs.YthkmbnkkohomeaaGreatDoor.Mem
open Go.RowKit Go.Proofs.YthkmbnkkohomeaaGreatDoor.Cod

theorem posN_step (i : Nat) : posN (i + 1) = al8 (al8 (posN i) + 16 + (nmx i).length) + 8 := rfl
theorem bsN_step (bs : List UInt8) (i : Nat) : bsN bs (i + 1) = hput (bsN bs i) (posN i) 24 (nmx i) 0 ((i + 1 : Nat) : Int) := rfl

/-- Before the heads: the root of the classes, the base, the list. -/
def layA (bs : List UInt8) : List UInt8 := setv (setv (setv bs 8 0) 16 10) 24 0
/-- The XT of the word behind catch. -/
def xtC : Nat := al8 (al8 (posN 73) + 16 + (nmx 73).length)
/-- Behind all of them: the address of the base, and that XT. -/
def layB (bs : List UInt8) : List UInt8 := setv (setv (bsB (layA bs)) 2816 16) 2824 xtC

theorem layA_ok (bs : List UInt8) (hl : 2832 ≤ bs.length) : (layA bs).length = bs.length ∧ cellv (layA bs) 24 = 0 ∧ cellv (layA bs) 16 = 10 ∧ cellv (layA bs) 8 = 0 ∧ ∀ i, i < 8 ∨ 32 ≤ i → (layA bs).getD i 0 = bs.getD i 0 := by
  unfold layA
  have s1 := setv_same bs 8 0
  have v1 := Lib.hid (cellv_same bs 8 0 (by omega) (by omega))
  obtain ⟨b1, h1⟩ : ∃ b, setv bs 8 0 = b := ⟨_, rfl⟩
  rw [h1] at s1 v1 ⊢
  have s2 := setv_same b1 16 10
  have v2 := Lib.hid (cellv_same b1 16 10 (by rw [s1.1]; omega) (by omega))
  obtain ⟨b2, h2⟩ : ∃ b, setv b1 16 10 = b := ⟨_, rfl⟩
  rw [h2] at s2 v2 ⊢
  have s3 := setv_same b2 24 0
  have v3 := Lib.hid (cellv_same b2 24 0 (by rw [s2.1, s1.1]; omega) (by omega))
  obtain ⟨b3, h3⟩ : ∃ b, setv b2 24 0 = b := ⟨_, rfl⟩
  rw [h3] at s3 v3 ⊢
  refine ⟨by rw [s3.1, s2.1, s1.1], v3.out, by rw [s3.cellv 16 (by omega), v2.out], by rw [s3.cellv 8 (by omega), s2.cellv 8 (by omega), v1.out], fun i hi => ?_⟩
  rw [s3.2 i (by omega), s2.2 i (by omega), s1.2 i (by omega)]

theorem cellv_ext {bs cs : List UInt8} (a : Nat) (h : ∀ i, a ≤ i → i < a + 8 → cs.getD i 0 = bs.getD i 0) : cellv cs a = cellv bs a := by
  unfold cellv
  rw [rd_congr (bs := cs) (cs := bs) (b := a) 8 fun i hi => h _ (by omega) (by omega)]

theorem bsN_far (bs : List UInt8) (hr : cellv bs 24 = 0) (hl : 2784 ≤ bs.length) (hb : bs.length ≤ 1048576) : ∀ i, i ≤ 86 → ∀ j, 2784 ≤ j → (bsN bs i).getD j 0 = bs.getD j 0 := by
  intro i
  induction i with
  | zero => intro _ j _; rfl
  | succ i ih =>
    intro hi j hj
    obtain ⟨h1, h2, h3⟩ := hd_n bs hr hl hb i (by omega)
    have hm := posN_mono (i + 1) 86 hi
    rw [posN_all, posN] at hm
    have hn := nmx_len ⟨i, by omega⟩
    dsimp only at hn
    have hput := hput_new (bsN bs i) (posN i) 24 (nmx i) 0 ((i + 1 : Nat) : Int) h1.rx hn (by rw [h2]; omega) h1.big (by omega) (by unfold I64'; omega)
    rw [bsN_step, hput.old j (.inr (by omega)), ih (by omega) j hj]

theorem layB_ok (bs : List UInt8) (hl : 2832 ≤ bs.length) (hb : bs.length ≤ 1048576) :
    HD (layB bs) 2832 24 wsAll ∧ (layB bs).length = bs.length ∧ cellv (layB bs) 16 = 10 ∧ cellv (layB bs) 8 = 0 ∧ cellv (layB bs) 2816 = 16 ∧ ∀ i, 2832 ≤ i → (layB bs).getD i 0 = bs.getD i 0 := by
  obtain ⟨a1, a2, a3, a4, a5⟩ := layA_ok bs hl
  have A3 := Lib.hid a3
  have A4 := Lib.hid a4
  have h := hd_base (layA bs) a2 (by omega) (by omega)
  have hf := hd_n (layA bs) a2 (by omega) (by omega) 86 (Nat.le_refl _)
  have hfar := bsN_far (layA bs) a2 (by omega) (by omega) 86 (Nat.le_refl _)
  rw [posN_all] at hf
  have hputB := hput_new (bsN (layA bs) 86) 2784 24 baseNm 0 1003 (by omega) (by decide) (by rw [hf.2.1]; show 2816 ≤ (layA bs).length; omega) (by rw [hf.2.1]; omega) (by omega) (by unfold I64'; omega)
  have hold : ∀ j, 2816 ≤ j → (bsB (layA bs)).getD j 0 = bs.getD j 0 := fun j hj => by
    have e : al8 (al8 2784 + 16 + baseNm.length) = 2808 := by decide
    rw [e] at hputB
    rw [bsB, hputB.old j (.inr (by omega)), hfar j (by omega), a5 j (by omega)]
  clear a3 a4 a2 hputB hfar hf
  obtain ⟨h1, h2, h3⟩ := h
  obtain ⟨B, hB⟩ : ∃ B, bsB (layA bs) = B := ⟨_, rfl⟩
  obtain ⟨C, hC⟩ : ∃ C, layA bs = C := ⟨_, rfl⟩
  have xtl : (0 : Int) ≤ xtC ∧ (xtC : Int) ≤ 1048576 := by decide +kernel
  unfold layB
  rw [hB] at h1 h2 h3 hold ⊢
  rw [hC] at h2 h3 a1 A3 A4
  have s1 := setv_same B 2816 16
  have v1 := Lib.hid (cellv_same B 2816 16 (by omega) (by omega))
  obtain ⟨b1, e1⟩ : ∃ b, setv B 2816 16 = b := ⟨_, rfl⟩
  rw [e1] at s1 v1 ⊢
  have s2 := setv_same b1 2824 xtC
  obtain ⟨b2, e2⟩ : ∃ b, setv b1 2824 xtC = b := ⟨_, rfl⟩
  rw [e2] at s2 ⊢
  have l1 := s1.1
  have l2 := s2.1
  have hs : ∀ i, i < 2816 ∨ 2832 ≤ i → b2.getD i 0 = B.getD i 0 := fun i hi => by rw [s2.2 i (by omega), s1.2 i (by omega)]
  refine ⟨h1.same (by omega) (fun i _ hi => hs i (.inl hi)) (by omega) (by omega), by omega, ?_, ?_, ?_, fun i hi => by rw [hs i (.inr hi), hold i (by omega)]⟩
  · rw [cellv_ext (bs := C) 16 fun i hi1 hi2 => by rw [hs i (by omega), h3 i (by omega)], A3.out]
  · rw [cellv_ext (bs := C) 8 fun i hi1 hi2 => by rw [hs i (by omega), h3 i (by omega)], A4.out]
  · rw [s2.cellv 2816 (by omega), v1.out]
end Go.Proofs.YthkmbnkkohomeaaGreatDoor.Mem

/- The machine's own row. -/
namespace Go.Proofs.YthkmbnkkohomeaaGreatDoor.Mem
open Go.RowKit

/-- What the cells of a machine hold. -/
structure MR where
  sp : Value
  d : Value
  r : Value
  hp : Value
  sels : Value
  ip : Int
  self : Int
  root : Int
  list : Int
  slots : Int
  fuel : Int
  out : ByteArray
  inn : ByteArray
  over : Bool
  hdl : Int
  base : Int
  caught : Int
  does : Value

def MR.row (m : MR) : Array Value := #[m.sp, m.d, m.r, m.hp, m.sels, .int .i64 m.ip, .int .i64 m.self, .int .i64 m.root, .int .i64 m.list, .int .i64 m.slots, .int .i64 m.fuel, .string m.out, .string m.inn, .bool m.over, .int .i64 m.hdl, .int .i64 m.base, .int .i64 m.caught, m.does]
/-- At b lies a machine. -/
def Mch (w : World) (b : Nat) (m : MR) : Prop := w.heap[b]? = some (.cells m.row 112 (0, 0))

theorem Mch.cells {w : World} {b : Nat} {m : MR} (h : Mch w b m) :
    w.cell? ⟨b, 0, none⟩ = some m.sp ∧ w.cell? ⟨b, 1, none⟩ = some m.d ∧ w.cell? ⟨b, 2, none⟩ = some m.r ∧ w.cell? ⟨b, 3, none⟩ = some m.hp ∧ w.cell? ⟨b, 4, none⟩ = some m.sels ∧ w.cell? ⟨b, 5, none⟩ = some (.int .i64 m.ip) ∧ w.cell? ⟨b, 6, none⟩ = some (.int .i64 m.self) ∧ w.cell? ⟨b, 7, none⟩ = some (.int .i64 m.root) ∧ w.cell? ⟨b, 8, none⟩ = some (.int .i64 m.list) ∧ w.cell? ⟨b, 9, none⟩ = some (.int .i64 m.slots) ∧ w.cell? ⟨b, 10, none⟩ = some (.int .i64 m.fuel) ∧ w.cell? ⟨b, 11, none⟩ = some (.string m.out) ∧ w.cell? ⟨b, 12, none⟩ = some (.string m.inn) ∧ w.cell? ⟨b, 13, none⟩ = some (.bool m.over) ∧ w.cell? ⟨b, 14, none⟩ = some (.int .i64 m.hdl) ∧ w.cell? ⟨b, 15, none⟩ = some (.int .i64 m.base) ∧ w.cell? ⟨b, 16, none⟩ = some (.int .i64 m.caught) ∧ w.cell? ⟨b, 17, none⟩ = some m.does := by
  refine ⟨?_, ?_, ?_, ?_, ?_, ?_, ?_, ?_, ?_, ?_, ?_, ?_, ?_, ?_, ?_, ?_, ?_, ?_⟩ <;> rw [cell_of_row w b _ _ _ _ h] <;> rfl
theorem Mch.free {w : World} {b : Nat} {m : MR} (h : Mch w b m) (i : Nat) : w.frozen? ⟨b, i, none⟩ = false := frozen_of_row w b i _ _ h
theorem Mch.lt {w : World} {b : Nat} {m : MR} (h : Mch w b m) : b < w.heap.size := lt_of_block h
theorem Mch.fr {S : Nat → Prop} {w w' : World} {b : Nat} {m : MR} (h : Mch w b m) (f : Fr S w w') (hb : ¬ S b) : Mch w' b m := f.obj h hb
theorem Mch.set0 {w : World} {b : Nat} {m : MR} (h : Mch w b m) (v : Value) : Mch (w.setCell ⟨b, 0, none⟩ v) b { m with sp := v } := by
  unfold Mch; rw [heap_setCell_same w b 0 _ _ _ h]; rfl
theorem Mch.set1 {w : World} {b : Nat} {m : MR} (h : Mch w b m) (v : Value) : Mch (w.setCell ⟨b, 1, none⟩ v) b { m with d := v } := by
  unfold Mch; rw [heap_setCell_same w b 1 _ _ _ h]; rfl
theorem Mch.set2 {w : World} {b : Nat} {m : MR} (h : Mch w b m) (v : Value) : Mch (w.setCell ⟨b, 2, none⟩ v) b { m with r := v } := by
  unfold Mch; rw [heap_setCell_same w b 2 _ _ _ h]; rfl
theorem Mch.set3 {w : World} {b : Nat} {m : MR} (h : Mch w b m) (v : Value) : Mch (w.setCell ⟨b, 3, none⟩ v) b { m with hp := v } := by
  unfold Mch; rw [heap_setCell_same w b 3 _ _ _ h]; rfl
theorem Mch.set5 {w : World} {b : Nat} {m : MR} (h : Mch w b m) (n : Int) : Mch (w.setCell ⟨b, 5, none⟩ (.int .i64 n)) b { m with ip := n } := by
  unfold Mch; rw [heap_setCell_same w b 5 _ _ _ h]; rfl
theorem Mch.set6 {w : World} {b : Nat} {m : MR} (h : Mch w b m) (n : Int) : Mch (w.setCell ⟨b, 6, none⟩ (.int .i64 n)) b { m with self := n } := by
  unfold Mch; rw [heap_setCell_same w b 6 _ _ _ h]; rfl
theorem Mch.set7 {w : World} {b : Nat} {m : MR} (h : Mch w b m) (n : Int) : Mch (w.setCell ⟨b, 7, none⟩ (.int .i64 n)) b { m with root := n } := by
  unfold Mch; rw [heap_setCell_same w b 7 _ _ _ h]; rfl
theorem Mch.set8 {w : World} {b : Nat} {m : MR} (h : Mch w b m) (n : Int) : Mch (w.setCell ⟨b, 8, none⟩ (.int .i64 n)) b { m with list := n } := by
  unfold Mch; rw [heap_setCell_same w b 8 _ _ _ h]; rfl
theorem Mch.set10 {w : World} {b : Nat} {m : MR} (h : Mch w b m) (n : Int) : Mch (w.setCell ⟨b, 10, none⟩ (.int .i64 n)) b { m with fuel := n } := by
  unfold Mch; rw [heap_setCell_same w b 10 _ _ _ h]; rfl
theorem Mch.set11 {w : World} {b : Nat} {m : MR} (h : Mch w b m) (s : ByteArray) : Mch (w.setCell ⟨b, 11, none⟩ (.string s)) b { m with out := s } := by
  unfold Mch; rw [heap_setCell_same w b 11 _ _ _ h]; rfl
theorem Mch.set14 {w : World} {b : Nat} {m : MR} (h : Mch w b m) (n : Int) : Mch (w.setCell ⟨b, 14, none⟩ (.int .i64 n)) b { m with hdl := n } := by
  unfold Mch; rw [heap_setCell_same w b 14 _ _ _ h]; rfl
theorem Mch.set15 {w : World} {b : Nat} {m : MR} (h : Mch w b m) (n : Int) : Mch (w.setCell ⟨b, 15, none⟩ (.int .i64 n)) b { m with base := n } := by
  unfold Mch; rw [heap_setCell_same w b 15 _ _ _ h]; rfl
theorem Mch.set16 {w : World} {b : Nat} {m : MR} (h : Mch w b m) (n : Int) : Mch (w.setCell ⟨b, 16, none⟩ (.int .i64 n)) b { m with caught := n } := by
  unfold Mch; rw [heap_setCell_same w b 16 _ _ _ h]; rfl
end Go.Proofs.YthkmbnkkohomeaaGreatDoor.Mem

/- Maps of functions, keyed by texts, of which only some keys are known. -/
namespace Go.Proofs.YthkmbnkkohomeaaGreatDoor.Mem
open Go.RowKit Go.Maps

/-- What a map holds at some keys. -/
def FmP (Kd : List (List UInt8 × Option Value)) (w : World) (b n : Nat) : Prop := ∃ F, FMap w 9 b n F ∧ ∀ x ∈ Kd, F (.string x.1) = x.2
theorem FmP.made (ks : List (List UInt8)) (w : World) : FmP (ks.map fun k => (k, none)) (w.alloc (.map #[] 0)) w.heap.size 0 :=
  ⟨_, FMap.made w _, fun x hx => by
    obtain ⟨k, _, rfl⟩ := List.mem_map.1 hx
    rfl⟩
theorem FmP.fr {Kd : List (List UInt8 × Option Value)} {S : Nat → Prop} {w w' : World} {b n : Nat} (h : FmP Kd w b n) (f : Fr S w w') (hs : ¬ S b) : FmP Kd w' b n := by
  obtain ⟨F, h1, h2⟩ := h
  exact ⟨F, h1.fr f hs, h2⟩
theorem FmP.mono {Kd : List (List UInt8 × Option Value)} {w : World} {b n n' : Nat} (h : FmP Kd w b n) (hn : n ≤ n') : FmP Kd w b n' := by
  obtain ⟨F, h1, h2⟩ := h
  exact ⟨F, h1.mono hn, h2⟩
theorem FmP.lt {Kd : List (List UInt8 × Option Value)} {w : World} {b n : Nat} (h : FmP Kd w b n) : b < w.heap.size := by
  obtain ⟨F, h1, _⟩ := h
  exact h1.lt
theorem FmP.obj {Kd : List (List UInt8 × Option Value)} {w : World} {b n : Nat} (h : FmP Kd w b n) : ∃ es ck, w.heap[b]? = some (.map es ck) := by
  obtain ⟨F, h1, _⟩ := h
  exact h1.obj

section
variable (w : World) {ops : Array Oper} {rest : List Oper} {o : Oper} {a : Act} {Q : Exit → Act → World → Prop}

/-- A store at a key that is none of these. -/
theorem wpList_ins_fmp (hg : o.guard = none) (m x v : Operand) (t et : TypeId) (hop : o.op = Op.mapUpdate t m x v ∨ o.op = Op.insert t m x v) (ht : Tryz.prog.underlying t = some (.map 9 et)) (Kd : List (List UInt8 × Option Value)) (b n : Nat)
    (hm : a.eval m = .map (some b)) (hown : FmP Kd w b n) (hn : n < maxLen) (s : ByteArray) (hx : a.eval x = .string s) (hs : s.size ≤ maxLen) (hk : s.data.toList ∉ Kd.map (·.1)) (f : Fn) (p c : Array Value) (hv : a.eval v = .func f p c)
    (hK : ∀ w', FmP Kd w' b (n + 1) → Fr (fun j => j = b) w w' → wpList Tryz.prog ops Q rest (a.put o.dst undef) w') :
    wpList Tryz.prog ops Q (o :: rest) a w := by
  obtain ⟨F, hF, hKd⟩ := hown
  refine wpList_store_fmap w hg m x v t 9 et hop strKey ht b n F hm hF hn _ (.string s.data.toList) hx (WideMaps.keyOf_string_mk Tryz.underlying9 hs) trivial f p c hv fun w' h1 h2 => hK w' ⟨_, h1, fun y hy => ?_⟩ (fr_turnedF h2)
  rw [if_neg (fun e => hk (by injection e with e; rw [← e]; exact List.mem_map_of_mem hy))]
  exact hKd y hy

/-- A store at the one key. -/
theorem wpList_insAt_fmp (hg : o.guard = none) (m x v : Operand) (t et : TypeId) (hop : o.op = Op.mapUpdate t m x v ∨ o.op = Op.insert t m x v) (ht : Tryz.prog.underlying t = some (.map 9 et)) (k : List UInt8) (u : Option Value) (b n : Nat)
    (hm : a.eval m = .map (some b)) (hown : FmP [(k, u)] w b n) (hn : n < maxLen) (s : ByteArray) (hx : a.eval x = .string s) (hs : s.size ≤ maxLen) (hk : s.data.toList = k) (f : Fn) (p c : Array Value) (hv : a.eval v = .func f p c)
    (hK : ∀ w', FmP [(k, some (.func f p c))] w' b (n + 1) → Fr (fun j => j = b) w w' → wpList Tryz.prog ops Q rest (a.put o.dst undef) w') :
    wpList Tryz.prog ops Q (o :: rest) a w := by
  obtain ⟨F, hF, hKd⟩ := hown
  subst hk
  refine wpList_store_fmap w hg m x v t 9 et hop strKey ht b n F hm hF hn _ (.string s.data.toList) hx (WideMaps.keyOf_string_mk Tryz.underlying9 hs) trivial f p c hv fun w' h1 h2 => hK w' ⟨_, h1, fun y hy => ?_⟩ (fr_turnedF h2)
  obtain rfl := List.mem_singleton.1 hy
  rw [if_pos rfl]
end
end Go.Proofs.YthkmbnkkohomeaaGreatDoor.Mem
