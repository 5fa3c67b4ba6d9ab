/- Several texts in one: BwA, ScE, RnC. -/
import Derived.Test.YthkmbnkkohomeaaGreatDoorSwab
import Derived.Test.YthkmbnkkohomeaaGreatDoorSwac
import Derived.Lib.OthersKept
import Derived.Lib.AppendStr
import Derived.Lib.UnsafeStr
import Derived.Laws.Externs
import Derived.Test.YthkmbnkkohomeaaGreatDoorSwaj
import Derived.Laws.OwnMore
import Derived.Test.YthkmbnkkohomeaaGreatDoorSwbg
import Derived.Test.YthkmbnkkohomeaaGreatDoorSwae
set_option linter.unusedSimpArgs false
set_option linter.unusedVariables false
/- strings.Builder: copyCheck and WriteString at this program. -/
namespace Go.Proofs.YthkmbnkkohomeaaGreatDoor.Mem
open Go.RowKit Go.Shelf

set_option maxHeartbeats 1000000 in
set_option maxRecDepth 100000 in
theorem bcc_used (b : Nat) (w : World) (h0 : w.cell? ⟨b, 0, none⟩ = some (.pointer (some ⟨b, 0, none⟩))) :
    Calls Tryz.prog 33 #[.pointer (some ⟨b, 0, none⟩)] w fun e w' => e = .returned (.tuple #[]) ∧ w' = w := by
  obtain ⟨j, hj, _⟩ := Option.map_eq_some_iff.1 Tryz.Builder_Extra_169.sizeBuilder
  go_enter Tryz.func33, Tryz.ntmps33
  go_wp2
  rw [Lib.run_neq_ptr_same w _ Tryz.underlying54 hj]
  go_wp2
  go_end0
  exact ⟨rfl, rfl⟩

set_option maxHeartbeats 1000000 in
set_option maxRecDepth 100000 in
theorem bcc_fresh (b : Nat) (w : World) (h0 : w.cell? ⟨b, 0, none⟩ = some (.pointer none)) (hsh : w.shape? b = some (57, 2)) (hfz : w.frozen? ⟨b, 0, none⟩ = false) :
    Calls Tryz.prog 33 #[.pointer (some ⟨b, 0, none⟩)] w fun e w' => e = .returned (.tuple #[]) ∧ w' = w.setCell ⟨b, 0, none⟩ (.pointer (some ⟨b, 0, none⟩)) := by
  obtain ⟨j, hj, hjs⟩ := Option.map_eq_some_iff.1 Tryz.Builder_Extra_169.sizeBuilder
  go_enter Tryz.func33, Tryz.ntmps33
  go_wp2
  rw [Lib.run_to_unsafe w ⟨b, 0, none⟩ Tryz.underlying54 Tryz.underlying80 hj (by rw [hjs]; decide) hsh (Nat.zero_lt_succ 1)]
  simp only [Result.andThen]
  rw [Oper.upon_value]
  go_wp2
  rw [run_callFunc_extern Tryz.func39 (by kernel_rfl) (by kernel_rfl) (by kernel_rfl) (e := Extern.AbiNoEscape.same) (by kernel_rfl)]
  rw [Lib.run_noEscape]
  simp only [Result.andThen]
  rw [Oper.upon_value]
  go_wp2
  rw [Lib.run_from_unsafe w ⟨b, 0, none⟩ Tryz.underlying80 Tryz.underlying54 hj hsh Tryz.Builder_Extra_169.liesBuilder]
  simp only [Result.andThen]
  rw [Oper.upon_value]
  go_wp2
  go_end0
  exact ⟨rfl, rfl⟩

theorem bcc_k (B b : Nat) (bs : List Value) (w : World) (h : Lib.IsBuilderF 57 5 B b bs w) :
    Calls Tryz.prog 33 #[.pointer (some ⟨b, 0, none⟩)] w fun e w' => e = .returned (.tuple #[]) ∧ (Lib.BuilderAtF 57 5 B b (.pointer (some ⟨b, 0, none⟩)) bs w' ∧ Below B w w' ∧ Lib.OthersKept 5 (some b) w w') := by
  rcases h with h | h
  · refine (bcc_fresh b w h.cell0 h.shape h.frozen0).mono ?_
    rintro e w' ⟨rfl, rfl⟩
    exact ⟨rfl, h.used _, (Below.refl B w).setCell (p := ⟨b, 0, none⟩) h.1 _, (Lib.OthersKept.refl _ _ w).setCell ⟨b, 0, none⟩ rfl _⟩
  · refine (bcc_used b w h.cell0).mono ?_
    rintro e w' ⟨rfl, rfl⟩
    exact ⟨rfl, h, Below.refl B _, Lib.OthersKept.refl _ _ _⟩

set_option maxHeartbeats 2000000 in
set_option maxRecDepth 100000 in
theorem bws_k (B b : Nat) (bs : List Value) (s : ByteArray) (w : World) (h : Lib.IsBuilderF 57 5 B b bs w) (hlen : bs.length + s.size ≤ 140737488355328) (hBw : B ≤ w.heap.size) :
    Calls Tryz.prog 17 #[.pointer (some ⟨b, 0, none⟩), .string s] w fun e w' => e = .returned (.tuple #[.int .i64 s.size, .nilIface]) ∧ (Lib.BuilderAtF 57 5 B b (.pointer (some ⟨b, 0, none⟩)) (bs ++ Lib.strCells s) w' ∧ Below B w w' ∧ Lib.OthersKept 5 (some b) w w') := by
  obtain ⟨i0, hi, hz0, hz1, hz2⟩ := info_parts Tryz.Builder_Extra_169.infoByte
  go_enter Tryz.func17, Tryz.ntmps17
  go_wp2_with (go_at_call 33; refine (bcc_k B b bs _ h).mono ?_)
  rintro e w1 ⟨rfl, h1, hb1, hk1⟩
  obtain ⟨hB, v, hbk, hown, hne⟩ := h1
  have c0 : w1.cell? ⟨b, 0, none⟩ = some (.pointer (some ⟨b, 0, none⟩)) := by rw [Lib.cell_of_heap hbk]; rfl
  have c1 : w1.cell? ⟨b, 1, none⟩ = some v := by rw [Lib.cell_of_heap hbk]; rfl
  go_wp2_with (at_builtin; refine Lib.wpList_append_own_stringF _ rfl _ _ 55 9 rfl B 5 i0 Tryz.underlying55 Tryz.underlying9 hi hz0 hz1 hz2 _ _ _ rfl hown s rfl ?c3 ?c4 ?c5 ?_)
  case c3 => unfold maxLen; omega
  case c4 => omega
  case c5 => have := hb1.size; omega
  intro v' w2 hown' hgrow _
  have hlt : b < w1.heap.size := by
    rcases Nat.lt_or_ge b w1.heap.size with h' | h'
    · exact h'
    · simp [Array.getElem?_eq_none h'] at hbk
  have hb2 : w2.heap[b]? = some (.cells #[.pointer (some ⟨b, 0, none⟩), v] 57 (0, 0)) := by
    rw [hgrow.block b hlt (fun e => hne e.symm)]
    exact hbk
  have d0 : w2.cell? ⟨b, 0, none⟩ = some (.pointer (some ⟨b, 0, none⟩)) := by rw [Lib.cell_of_heap hb2]; rfl
  have d1 : w2.cell? ⟨b, 1, none⟩ = some v := by rw [Lib.cell_of_heap hb2]; rfl
  have f1 : w2.frozen? ⟨b, 1, none⟩ = false := Lib.frozen_of_heap hb2 1
  obtain ⟨ao, n', cap, rfl⟩ : ∃ ao n' cap, v' = .slice ao n' cap := by
    rcases hown'.2 with ⟨hv, _⟩ | ⟨g, cap, cur, fz, hv, _⟩
    · exact ⟨_, _, _, hv⟩
    · exact ⟨_, _, _, hv⟩
  go_wp2
  go_ret2
  refine ⟨rfl, ?_, ?_, (hk1.grown hgrow (Lib.ownsRowF_kind hown)).setCell ⟨b, 1, none⟩ rfl _⟩
  · exact Lib.BuilderAtF.put (T := 57) (e := 5) hB hb2 (bs' := bs ++ Lib.strCells s) (by simpa [Lib.strCells_length] using hown') Tryz.Builder_Extra_169.neB5
  · exact (hb1.grown hgrow (by have := hb1.size; omega) (fun k hk => (hown.lt k hk).1)).setCell (p := ⟨b, 1, none⟩) hB _
end Go.Proofs.YthkmbnkkohomeaaGreatDoor.Mem

/- script.Show: any result as a text. -/
namespace Go.Proofs.YthkmbnkkohomeaaGreatDoor.Mem
open Go.RowKit

def shStack (l : List Int) : List UInt8 := l.flatMap fun n => 32 :: Lib.itoa n
/-- A result's text. -/
def shw (code left : Int) (l : List Int) (out : List UInt8) : List UInt8 :=
  [99, 111, 100, 101, 32] ++ Lib.itoa code ++ [10, 115, 116, 97, 99, 107] ++ shStack l ++ [10, 108, 101, 102, 116, 32] ++ Lib.itoa left ++ [10, 111, 117, 116, 10] ++ out
theorem dec_s (n : Int) (h0 : -9223372036854775808 ≤ n) (h1 : n ≤ 9223372036854775807) (w : World) (hp : Lib.TabIs Tryz.prog w "internal/strconv.uint64pow10" .u64 Lib.pow10Tab) :
    Calls Tryz.prog 18 #[.int .i64 n] w fun e w' => ∃ s : ByteArray, e = .returned (.string s) ∧ s.data.toList = Lib.itoa n ∧ s.size ≤ 20 ∧ Fr (fun _ => False) w w' :=
  (dec_ok n h0 h1 w hp).mono fun e w' ⟨he, hf⟩ => ⟨_, he, by simp, by show (Lib.itoa n).toArray.size ≤ 20; rw [List.size_toArray]; exact itoa_len n h0 h1, hf⟩
theorem own_fr {w w' : World} {base n : Nat} {v : Value} {xs : List Value} (h : w.ownsRowF base 5 1 v n xs) (f : Fr (fun _ => False) w w') : w'.ownsRowF base 5 1 v n xs := by
  obtain ⟨h1, h2⟩ := h
  refine ⟨h1, ?_⟩
  rcases h2 with h2 | ⟨g, cap, cur, fz, hv, hb, hg, r⟩
  · exact .inl h2
  · exact .inr ⟨g, cap, cur, fz, hv, hb, f.obj hg id, r⟩
theorem bat_fr {w w' : World} {B b : Nat} {p : Value} {bs : List Value} (h : Lib.BuilderAtF 57 5 B b p bs w) (f : Fr (fun _ => False) w w') : Lib.BuilderAtF 57 5 B b p bs w' := by
  obtain ⟨hB, v, hb, ho, hn⟩ := h
  exact ⟨hB, v, f.obj hb id, own_fr ho f, hn⟩
/-- A builder at b, that holds these bytes. -/
def Bld (w : World) (b : Nat) (l : List UInt8) : Prop := Lib.IsBuilderF 57 5 b b (Lib.byteCells l) w
theorem Bld.fr {w w' : World} {b : Nat} {l : List UInt8} (h : Bld w b l) (f : Fr (fun _ => False) w w') : Bld w' b l := h.elim (fun h => .inl (bat_fr h f)) (fun h => .inr (bat_fr h f))
theorem Bld.new {w : World} {b : Nat} (h : w.heap[b]? = some (.cells #[.pointer none, .slice none 0 0] 57 (0, 0))) : Bld w b [] := .inl ⟨Nat.le_refl _, .slice none 0 0, h, World.ownsRowF_nil w b _ 1, by simp [Value.ownBlock]⟩
theorem Bld.lt {w : World} {b : Nat} {l : List UInt8} (h : Bld w b l) : b < w.heap.size := h.elim (fun h => h.lt) (fun h => h.lt)
theorem fr_at {b : Nat} {w w' : World} (h : Below b w w') : Fr (fun j => b ≤ j) w w' := ⟨h.os, h.tape, h.output, h.size, fun k _ hs => h.block k (by omega)⟩
theorem bld_write (b : Nat) (l : List UInt8) (s : ByteArray) (w : World) (h : Bld w b l) (hl : l.length + s.size ≤ 140737488355328) :
    Calls Tryz.prog 17 #[.pointer (some ⟨b, 0, none⟩), .string s] w fun e w' => (∃ n : Int, e = .returned (.tuple #[.int .i64 n, .nilIface])) ∧ Bld w' b (l ++ s.data.toList) ∧ Fr (fun j => b ≤ j) w w' :=
  (bws_k b b _ s w h (by simpa [Lib.byteCells] using hl) (Nat.le_of_lt h.lt)).mono fun e w' ⟨he, hb, hw, _⟩ =>
    ⟨⟨_, he⟩, .inr (by rw [Lib.byteCells_append]; exact hb), fr_at hw⟩
def I64 (n : Int) : Prop := -9223372036854775808 ≤ n ∧ n ≤ 9223372036854775807
theorem shStack_len : ∀ (l : List Int), (∀ n ∈ l, I64 n) → (shStack l).length ≤ 21 * l.length
  | [], _ => by simp [shStack]
  | n :: l, h => by
    have h1 := shStack_len l (fun m hm => h m (List.mem_cons_of_mem _ hm))
    have h2 := itoa_len n (h n (List.mem_cons_self ..)).1 (h n (List.mem_cons_self ..)).2
    have : shStack (n :: l) = 32 :: Lib.itoa n ++ shStack l := by simp [shStack]
    rw [this, List.length_append, List.length_cons, List.length_cons]
    omega
theorem shStack_snoc (l : List Int) (i : Nat) (hi : i < l.length) : shStack (l.take (i + 1)) = shStack (l.take i) ++ (32 :: Lib.itoa (l.getD i 0)) := by
  have hg : l[i]? = some (l.getD i 0) := by rw [List.getD_eq_getElem?_getD, List.getElem?_eq_getElem hi]; rfl
  rw [List.take_add_one, hg]
  simp [shStack]
theorem cat_toList (a b : ByteArray) : (a ++ b).data.toList = a.data.toList ++ b.data.toList := by simp

set_option maxRecDepth 100000 in
set_option maxHeartbeats 4000000 in
theorem show_ok (code left here : Int) (l : List Int) (out inn : ByteArray) (ov : Bool) (a : Option Addr) (cap : Nat) (w : World) (hk : Kn w) (hc : I64 code) (hl : I64 left) (hs : l.length ≤ 100) (ho : out.size ≤ 200000)
    (hr : ∀ n ∈ l, I64 n)
    (hcell : ∀ i, i < l.length → ∃ A : Addr, a = some A ∧ w.cell? (A.add i) = some (.int .i64 (l.getD i 0))) :
    Calls Tryz.prog 9 #[.agg #[.int .i64 code, .string out, .slice a l.length cap, .int .i64 left, .string inn, .int .i64 here, .bool ov]] w fun e w' => e = .returned (.string ⟨(shw code left l out.data.toList).toArray⟩) ∧ Fr (fun _ => False) w w' := by
  have hA := heap_alloc_last w (.cells #[.int .i64 code, .string out, .slice a l.length cap, .int .i64 left, .string inn, .int .i64 here, .bool ov] 40)
  have fA := (Fr.refl (fun _ => False) w).alloc (.cells #[.int .i64 code, .string out, .slice a l.length cap, .int .i64 left, .string inn, .int .i64 here, .bool ov] 40)
  have zA : (w.alloc (.cells #[.int .i64 code, .string out, .slice a l.length cap, .int .i64 left, .string inn, .int .i64 here, .bool ov] 40)).heap.size = w.heap.size + 1 := by simp
  obtain ⟨w1, hw1⟩ : ∃ W, w.alloc (.cells #[.int .i64 code, .string out, .slice a l.length cap, .int .i64 left, .string inn, .int .i64 here, .bool ov] 40) = W := ⟨_, rfl⟩
  rw [hw1] at hA fA zA
  obtain ⟨rb, hrb⟩ : ∃ b, w.heap.size = b := ⟨_, rfl⟩
  rw [hrb] at hA zA
  have hB := heap_alloc_last w1 (.cells #[.pointer none, .slice none 0 0] 57)
  have fB := (Fr.refl (fun _ => False) w1).alloc (.cells #[.pointer none, .slice none 0 0] 57)
  obtain ⟨w2, hw2⟩ : ∃ W, w1.alloc (.cells #[.pointer none, .slice none 0 0] 57) = W := ⟨_, rfl⟩
  rw [hw2] at hB fB
  rw [zA] at hB
  obtain ⟨bb, hbb⟩ : ∃ b, rb + 1 = b := ⟨_, rfl⟩
  rw [hbb] at hB zA
  have gA := fB.obj hA id
  have c0 : w2.cell? ⟨rb, 0, none⟩ = some (.int .i64 code) := cell_of_row w2 rb 0 _ _ _ gA
  have c1 : w2.cell? ⟨rb, 1, none⟩ = some (.string out) := cell_of_row w2 rb 1 _ _ _ gA
  have c2 : w2.cell? ⟨rb, 2, none⟩ = some (.slice a l.length cap) := cell_of_row w2 rb 2 _ _ _ gA
  have c3 : w2.cell? ⟨rb, 3, none⟩ = some (.int .i64 left) := cell_of_row w2 rb 3 _ _ _ gA
  have HD := Lib.hid (fun W (hW : Fr (fun _ => False) w W) => dec_s code hc.1 hc.2 W (hk.fr hW).pow)
  have F2 := Lib.hid (fA.trans fB)
  have HGA := Lib.hid gA
  have HB := Lib.hid hB
  obtain ⟨L, hL⟩ : ∃ L, shw code left l out.data.toList = L := ⟨_, rfl⟩
  rw [hL]
  have HLL := Lib.hid hL
  clear hL
  obtain ⟨ln, hln⟩ : ∃ k, l.length = k := ⟨_, rfl⟩
  rw [hln] at c2 hs hw1 ⊢
  have HL := Lib.hid hln
  clear hA fA hB fB gA hln
  have HDn := Lib.hid (fun n (hn : I64 n) W (hW : Fr (fun j => bb ≤ j) w2 W) => dec_s n hn.1 hn.2 W (hk.fr (F2.out.after hW (fun k hk e => by omega))).pow)
  have HC := Lib.hid hcell
  have HR := Lib.hid hr
  have HLf := Lib.hid hl
  clear hk hc hl hr hcell
  go_enter Tryz.func9, Tryz.ntmps9
  go_wp2_with (go_at_call 18; refine (HD.out _ F2.out).mono ?_; rintro e w3 ⟨s1, rfl, hs1, hz1, f3⟩; have HS1 := Lib.hid hs1; have hB3 := Lib.hid ((Bld.new HB.out).fr f3); have F3 := Lib.hid f3; clear hs1 f3)
  have hsz : (⟨#[99, 111, 100, 101, 32]⟩ ++ s1 ++ ⟨#[10, 115, 116, 97, 99, 107]⟩ : ByteArray).size ≤ 40 := by
    rw [ByteArray.size_append, ByteArray.size_append]
    have e1 : (⟨#[99, 111, 100, 101, 32]⟩ : ByteArray).size = 5 := rfl
    have e2 : (⟨#[10, 115, 116, 97, 99, 107]⟩ : ByteArray).size = 6 := rfl
    omega
  refine (bld_write bb [] _ _ hB3.out (by simp only [List.length_nil]; omega)).mono ?_
  rintro e w4 ⟨⟨k4, rfl⟩, hB4, f4⟩
  have HB4 := Lib.hid hB4
  have F4 := Lib.hid ((F3.out.mono fun _ _ e => e.elim).trans f4 : Fr (fun j => bb ≤ j) w2 w4)
  have g2 := F4.out.cell c2 (show ¬ (bb ≤ rb) by omega)
  clear hB4 f4 c0 c2 hsz
  go_wp2_with fail
  obtain ⟨pre, hpre⟩ : ∃ p, (⟨#[99, 111, 100, 101, 32]⟩ ++ s1 ++ ⟨#[10, 115, 116, 97, 99, 107]⟩ : ByteArray).data.toList = p := ⟨_, rfl⟩
  have HPRE := Lib.hid hpre
  have hpl : pre.length ≤ 40 := by
    rw [← hpre]
    show (⟨#[99, 111, 100, 101, 32]⟩ ++ s1 ++ ⟨#[10, 115, 116, 97, 99, 107]⟩ : ByteArray).size ≤ 40
    rw [ByteArray.size_append, ByteArray.size_append]
    have e1 : (⟨#[99, 111, 100, 101, 32]⟩ : ByteArray).size = 5 := rfl
    have e2 : (⟨#[10, 115, 116, 97, 99, 107]⟩ : ByteArray).size = 6 := rfl
    omega
  rw [hpre, List.nil_append] at HB4
  clear hpre
  go_loopw [15] (fun iv wr => ∃ i : Nat, i ≤ ln ∧ iv = .int .i64 i ∧ Bld wr bb (pre ++ shStack (l.take i)) ∧ Fr (fun j => bb ≤ j) w2 wr) (fun iv _ => ln - (intOf iv).toNat)
  case atStart => exact ⟨0, Nat.zero_le _, rfl, by simpa [shStack] using HB4.out, F4.out⟩
  case round =>
    obtain ⟨i, hi, rfl, hB, hF⟩ := hrel
    have HBW := Lib.hid hB
    have HFW := Lib.hid hF
    by_cases hlt : i < ln
    · have hlt' : (i : Int) < ln := by omega
      obtain ⟨A, hab, hcb⟩ := HC.out i (by have := HL.out; omega)
      subst hab
      have hcw := hF.cell (F2.out.cell hcb id) (show ¬ (bb ≤ (A.add i).block) by have := World.block_lt_of_cell? w (A.add i) hcb; omega)
      have hn : I64 (l.getD i 0) := HR.out _ (by rw [List.getD_eq_getElem?_getD, List.getElem?_eq_getElem (by have := HL.out; omega)]; exact List.getElem_mem _)
      obtain ⟨nv, hnv⟩ : ∃ v, l.getD i 0 = v := ⟨_, rfl⟩
      rw [hnv] at hcw hn
      have HNV := Lib.hid hnv
      have HDi := Lib.hid (HDn.out nv hn wr hF)
      clear hB hF hcb hnv
      go_wp2_with (go_at_call 18; refine HDi.out.mono ?_; rintro e w5 ⟨s5, rfl, hs5, hz5, f5⟩; have HS5 := Lib.hid hs5; have HB5 := Lib.hid (HBW.out.fr f5); have F5 := Lib.hid (HFW.out.trans (f5.mono fun _ _ e => e.elim)); clear hs5 f5)
      have hlen : (pre ++ shStack (l.take i)).length + (⟨#[32]⟩ ++ s5 : ByteArray).size ≤ 140737488355328 := by
        have h1 := shStack_len (l.take i) (fun m hm => HR.out m (List.mem_of_mem_take hm))
        have e1 : (⟨#[32]⟩ : ByteArray).size = 1 := rfl
        rw [List.length_append, ByteArray.size_append, e1]
        rw [List.length_take] at h1
        omega
      refine (bld_write bb _ _ _ HB5.out hlen).mono ?_
      rintro e w6 ⟨⟨k6, rfl⟩, hB6, f6⟩
      have hcat : pre ++ shStack (l.take i) ++ (⟨#[32]⟩ ++ s5 : ByteArray).data.toList = pre ++ shStack (l.take (i + 1)) := by
        rw [cat_toList, HS5.out, shStack_snoc l i (by have := HL.out; omega), HNV.out, List.append_assoc]
        rfl
      rw [hcat] at hB6
      have HB6 := Lib.hid hB6
      have F6 := Lib.hid (F5.out.trans f6)
      clear hB6 f6 hcat hlen
      go_wp2_with fail
      go_roundw
      case rel => exact ⟨i + 1, by omega, by go_num, HB6.out, F6.out⟩
      case measure => simp only [intOf]; omega
    · have hlt' : decide ((i : Int) < ln) = false := by simp; omega
      obtain rfl : i = ln := by omega
      have htk : l.take i = l := List.take_of_length_le (by have := HL.out; omega)
      rw [htk] at HBW
      have b1 := hF.cell c1 (show ¬ (bb ≤ rb) by omega)
      have b3 := hF.cell c3 (show ¬ (bb ≤ rb) by omega)
      have nrb : ¬ (bb ≤ rb) := by omega
      have HDl := Lib.hid (fun W (hW : Fr (fun j => bb ≤ j) wr W) => HDn.out left HLf.out W (HFW.out.trans hW))
      have HLEN := Lib.hid (fun (s7 : ByteArray) (hz7 : s7.size ≤ 20) => (by
        have h1 := shStack_len l HR.out
        have h2 := HL.out
        have e1 : (⟨#[10, 108, 101, 102, 116, 32]⟩ : ByteArray).size = 6 := rfl
        have e2 : (⟨#[10, 111, 117, 116, 10]⟩ : ByteArray).size = 5 := rfl
        rw [List.length_append, ByteArray.size_append, ByteArray.size_append, ByteArray.size_append]
        omega : (pre ++ shStack l).length + (⟨#[10, 108, 101, 102, 116, 32]⟩ ++ s7 ++ ⟨#[10, 111, 117, 116, 10]⟩ ++ out : ByteArray).size ≤ 140737488355328))
      clear hB hF htk hlt c1 c3
      go_wp2_with fail
      go_region_held3 (fun W => W.cell? ⟨rb, 3, none⟩ = some (.int .i64 left) ∧ W.cell? ⟨rb, 1, none⟩ = some (.string out) ∧ Fr (fun j => bb ≤ j) wr W)
        ((go_split_ands; refine (fun hF => ⟨Fr.cell hF b3 nrb, Fr.cell hF b1 nrb, hF⟩ : Fr (fun j => bb ≤ j) wr _ → _) ?_; repeat' with_reducible first | exact Fr.refl _ _ | assumption | apply Fr.drew | apply Fr.alloc))
        (first | (go_at_call 18; go_split_ands; (with_reducible refine (HDl.out _ (by repeat' with_reducible first | exact Fr.refl _ _ | apply Fr.drew)).mono ?_); rintro e w7 ⟨s7, rfl, hs7, hz7, f7⟩; have HS7 := Lib.hid hs7; have HB7 := Lib.hid ((HBW.out.fr (by repeat' with_reducible first | exact Fr.refl _ _ | apply Fr.drew)).fr f7); have p3 : ¬ ((9223372036854775807 : Int) < (6 : Int) + (s7.size : Int)) := (by omega); have p3n : ¬ (9223372036854775807 < 6 + s7.size) := (by omega); have p4 : ¬ ((9223372036854775807 : Int) < (6 : Int) + (s7.size : Int) + 5) := (by omega); have p4n : ¬ (9223372036854775807 < 6 + s7.size + 5) := (by omega); have p7 : ¬ ((9223372036854775807 : Int) < (6 : Int) + (s7.size : Int) + 5 + (out.size : Int)) := (by omega); have p7n : ¬ (9223372036854775807 < 6 + s7.size + 5 + out.size) := (by omega); have F7 : Fr (fun j => bb ≤ j) wr w7 := Fr.trans (by repeat' with_reducible first | exact Fr.refl _ _ | apply Fr.drew) (f7.mono fun _ _ e => e.elim); clear hs7 f7) | (go_at_call 17; go_split_ands; (with_reducible refine (bld_write bb (pre ++ shStack l) _ _ (HB7.out.fr (by repeat' with_reducible first | exact Fr.refl _ _ | apply Fr.drew)) ?_).mono ?_); exact HLEN.out s7 hz7; rintro e w8 ⟨⟨k8, rfl⟩, hB8, f8⟩; have HB8 := Lib.hid hB8; have F8 : Fr (fun j => bb ≤ j) wr w8 := Fr.trans (by repeat' with_reducible first | exact Fr.refl _ _ | assumption | apply Fr.drew) f8; clear hB8 f8) | fail)
      have F9 := Lib.hid (HFW.out.trans F8)
      have e9 : pre ++ shStack l ++ (⟨#[10, 108, 101, 102, 116, 32]⟩ ++ s7 ++ ⟨#[10, 111, 117, 116, 10]⟩ ++ out : ByteArray).data.toList = L := by
        rw [← HLL.out, ← HPRE.out]
        simp only [cat_toList, HS7.out, HS1.out, shw, List.append_assoc]
      rw [e9] at HB8
      clear e9
      clear F7 F8
      go_wp2_with (go_at_call 19; refine (Tryz.Builder_String_any_k bb bb _ _ (HB8.out.fr (by repeat' with_reducible first | exact Fr.refl _ _ | apply Fr.drew)) (Nat.le_of_lt (HB8.out.fr (by repeat' with_reducible first | exact Fr.refl _ _ | apply Fr.drew)).lt)).mono ?_; rintro e w10 ⟨rfl, _, hb10, _⟩; have F10 := Lib.hid (fr_at hb10); clear hb10)
      go_ret
      exact ⟨rfl, F2.out.after ((F9.out.trans (by repeat' with_reducible first | exact Fr.refl _ _ | apply Fr.drew)).trans F10.out) (fun k hk e => by omega)⟩
end Go.Proofs.YthkmbnkkohomeaaGreatDoor.Mem

/- run.Lines of a script with the text '1 .', and no more texts. -/
namespace Go.Proofs.YthkmbnkkohomeaaGreatDoor.Mem
open Go.RowKit

/-- What came of it. -/
def resC (m : MR) (hr : Int) : Array Value := #[.int .i64 0, .string (txtM m).out, .slice none 0 0, .int .i64 (txtM m).fuel, .string (txtM m).inn, .int .i64 hr, .bool (txtM m).over]
def LinesPost (fu : Nat) (inn : ByteArray) (w : World) (e : Ending) (w' : World) : Prop :=
  ∃ (lb : Nat) (m : MR) (hr : Int), e = .returned (.slice (some ⟨lb, 0, none⟩) 1 1) ∧ w'.heap[lb]? = some (.cells (resC m hr) 40 (0, 0)) ∧ w.heap.size ≤ lb ∧ m.fuel = fu ∧ m.out = ByteArray.empty ∧ m.inn = inn ∧ m.over = false ∧ Fr (fun _ => False) w w'

set_option maxRecDepth 100000 in
set_option maxHeartbeats 4000000 in
theorem lines_dot (di da re he fu : Nat) (sl : Int) (inn : ByteArray) (w : World) (ht : Cod.Tab w) (h1 : di % 8 = 0) (h2 : he % 8 = 0) (h3 : 16 ≤ he) (h4 : 2832 ≤ di) (hs : di + (da + re) * 8 + he ≤ 1048576) (hda : 1 ≤ da) (hfu : 3 ≤ fu ∧ fu ≤ 1048576) :
    Calls Tryz.prog 36 #[.agg (Scr.row ⟨di, da, re, he, sl, txt1, inn, fu⟩), .slice none 0 0] w fun e w' => LinesPost fu inn w e w' := by
  have hA := heap_alloc_last w (.cells (Scr.row ⟨di, da, re, he, sl, txt1, inn, fu⟩) 26)
  have fA := (Fr.refl (fun _ => False) w).alloc (.cells (Scr.row ⟨di, da, re, he, sl, txt1, inn, fu⟩) 26)
  have zA : (w.alloc (.cells (Scr.row ⟨di, da, re, he, sl, txt1, inn, fu⟩) 26)).heap.size = w.heap.size + 1 := by simp
  obtain ⟨w1, hw1⟩ : ∃ W, w.alloc (.cells (Scr.row ⟨di, da, re, he, sl, txt1, inn, fu⟩) 26) = W := ⟨_, rfl⟩
  rw [hw1] at hA fA zA
  obtain ⟨cb, hcb⟩ : ∃ b, w.heap.size = b := ⟨_, rfl⟩
  rw [hcb] at hA zA
  have c0 : w1.cell? ⟨cb, 0, none⟩ = some (.int .i64 di) := cell_of_row w1 cb 0 _ _ _ hA
  have c1 : w1.cell? ⟨cb, 1, none⟩ = some (.int .i64 da) := cell_of_row w1 cb 1 _ _ _ hA
  have c2 : w1.cell? ⟨cb, 2, none⟩ = some (.int .i64 re) := cell_of_row w1 cb 2 _ _ _ hA
  have c3 : w1.cell? ⟨cb, 3, none⟩ = some (.int .i64 he) := cell_of_row w1 cb 3 _ _ _ hA
  have c4 : w1.cell? ⟨cb, 4, none⟩ = some (.int .i64 sl) := cell_of_row w1 cb 4 _ _ _ hA
  have c5 : w1.cell? ⟨cb, 5, none⟩ = some (.string txt1) := cell_of_row w1 cb 5 _ _ _ hA
  have c7 : w1.cell? ⟨cb, 7, none⟩ = some (.int .i64 fu) := cell_of_row w1 cb 7 _ _ _ hA
  have c6 : w1.cell? ⟨cb, 6, none⟩ = some (.string inn) := cell_of_row w1 cb 6 _ _ _ hA
  have HA := Lib.hid hA
  have HF1 := Lib.hid fA
  have HT := Lib.hid ht
  have HO := Lib.hid (oopnew_ok di da re he sl inn w1 (Cod.tab_fr fA ht) h1 h2 h3 h4 hs)
  have hbok := vmB_ok di da re he h4 hs
  have HB := Lib.hid hbok
  have HH := Lib.hid (And.intro h4 (And.intro hda (And.intro hfu hs)))
  unfold cfgC at HO
  unfold Scr.row at hw1 ⊢
  clear hA fA ht hbok h1 h2 h3 h4 hs hda hfu
  go_enter Tryz.func36, Tryz.ntmps36
  go_wp2_with fail
  refine HO.out.mono ?_
  rintro e w2 ⟨fb, ob, sr, q, qc, wm, o, v, hp, sels, rfl, hfb, hots, hdi, hdav, hq, hmb, hob, hdg, hne, hfbl, hf2⟩
  have g5 := hf2.cell c5 id
  have g7 := hf2.cell c7 id
  obtain ⟨o0, _, _, _, _, _⟩ := hots.cells
  have m10 := hots.vm.row.cells.2.2.2.2.2.2.2.2.2.2.1
  have fz := hots.vm.row.free 10
  obtain ⟨M, hM⟩ : ∃ M : MR, (⟨.pointer (some ⟨v.sb, 0, none⟩), .pointer (some ⟨v.db, 0, none⟩), .pointer (some ⟨v.rb, 0, none⟩), hp, sels, 0, 0, 8, 24, sl, 0, ByteArray.empty, inn, false, 0, 16, 2824, .map (some v.cm)⟩ : MR) = M := ⟨_, rfl⟩
  rw [hM] at hots
  have HOT := Lib.hid hots
  have HM := Lib.hid hM
  have HV := Lib.hid (And.intro hdi (And.intro hdav (And.intro hq (And.intro hmb (And.intro hob (And.intro hdg (And.intro hne hfbl)))))))
  have HF2 := Lib.hid hf2
  clear hots hM hdi hdav hq hmb hob hdg hne hfbl hf2 c0 c1 c2 c3 c4 c5 c6 c7
  have n0 := HOT.out.ne
  have nq := HOT.out.nq
  have nw := HOT.out.nw
  have hv := HV.out
  have F3 := (Fr.refl (fun j => j = v.mb) w2).setOne 10 (.int .i64 (fu : Int))
  have H3 := HOT.out.turn F3 (VmS.rowed HOT.out.vm F3 (HOT.out.vm.row.set10 fu) rfl rfl rfl rfl) n0.1 nq.1 nw.1
  obtain ⟨w3, hw3⟩ : ∃ W, w2.setCell ⟨v.mb, 10, none⟩ (.int .i64 (fu : Int)) = W := ⟨_, rfl⟩
  rw [hw3] at F3 H3
  have FD : Fr (fun _ => False) w3 w3.drew := (Fr.refl _ _).drew
  have H4 := H3.nf FD
  have hft : Fr (fun _ => False) w w2 := HF1.out.trans HF2.out
  have hz1 := HF1.out.size
  have hz2 := HF2.out.size
  have hz3 := F3.size
  have HFT : Fr (fun _ => False) w w3.drew := (hft.after F3 (fun k hk e => absurd (show k = v.mb from e) (by omega))).drew
  have HRR := Lib.hid (runread_ok fb ob sr q qc wm o v { M with fuel := fu } (vmB di da re he) 2832 0 w3.drew H4 (F3.drew.cell hfb (show ¬ (fb = v.mb) from hv.2.2.2.2.2.2.1.2.1)) hv.2.2.2.2.2.2.1 (by show q < w3.heap.size; omega) HB.out.1 (by rw [hv.1]; exact HH.out.1) (by rw [hv.2.1]; exact HH.out.2.1) HB.out.2.2 (Nat.le_refl _) (by rw [← HM.out]) ⟨by show (3 : Int) ≤ fu; have := HH.out.2.2.1; omega, by show (fu : Int) ≤ 1048576; have := HH.out.2.2.1; omega⟩ (by rw [← HM.out]) (by rw [← HM.out])
    (fun W hW => Cod.tab_fr (HFT.after hW (fun k hk e => absurd (show k = ob ∨ k = v.mb ∨ k = v.db ∨ k = v.g from e) (by omega))) HT.out))
  have HW3 := Lib.hid hw3
  have HFT3 := Lib.hid HFT
  have g53 := (F3.drew.cell g5 (show ¬ (cb = v.mb) by omega))
  clear n0 nq nw hv F3 H3 hw3 FD H4 hft HFT
  go_wp2_with fail
  go_region
  rw [HW3.out]
  go_wp2_with (go_at_call 42; refine HRR.out.mono ?_; rintro e w4 ⟨⟨hr, rfl⟩, f4⟩)
  go_loop [41, 7] (fun iv lv => iv = .int .i64 0 ∧ lv = .slice (some ⟨w4.heap.size, 0, none⟩) 1 1) (fun _ _ => 0)
  case atStart => exact ⟨rfl, rfl⟩
  case round =>
    obtain ⟨rfl, rfl⟩ := hrel
    go_wp2_with fail
    go_ret
    have hv := HV.out
    have hz1 := HF1.out.size
    have hz4 := (HFT3.out.after f4 (fun k hk e => absurd (show k = ob ∨ k = v.mb ∨ k = v.db ∨ k = v.g from e) (by omega)) : Fr (fun _ => False) w w4)
    exact ⟨_, { M with fuel := fu }, hr, rfl, heap_alloc_last _ _, hz4.size, rfl, by show M.out = _; rw [← HM.out], by show M.inn = _; rw [← HM.out], by show M.over = _; rw [← HM.out], hz4.alloc _⟩
end Go.Proofs.YthkmbnkkohomeaaGreatDoor.Mem
