/- The statement TableActs: its loop. -/
import Derived.Test.YtajeiccfgnpbpaaTlaC
import Derived.Laws.OwnMore
import Derived.Deep.DeepCutAuto
import Derived.Deep.CutRange
import Derived.Deep.CutBlock
import Derived.Deep.LoopGhost
import Derived.Deep.RegionHeld3
namespace Go.Proofs.Ytajeiccfgnpbpaa.Mem
open Go.RowKit

/-- An act, read. -/
structure ActV where
  kind : Nat
  tab : Nat
  sel : Int
  xt : Int
  cls : Int
  n : Int

def ActAt (w : World) (b o : Nat) (x : ActV) : Prop :=
  w.cell? ⟨b, o, none⟩ = some (.int .u8 (x.kind : Int)) ∧ w.cell? ⟨b, o + 1, none⟩ = some (.int .u8 (x.tab : Int)) ∧ w.cell? ⟨b, o + 2, none⟩ = some (.int .i64 x.sel) ∧
  w.cell? ⟨b, o + 3, none⟩ = some (.int .i64 x.xt) ∧ w.cell? ⟨b, o + 4, none⟩ = some (.int .i64 x.cls) ∧ w.cell? ⟨b, o + 5, none⟩ = some (.int .i16 x.n) ∧
  x.kind ≤ 255 ∧ x.tab ≤ 255 ∧ -32768 ≤ x.n ∧ x.n ≤ 32767
/-- What the statement is told: nil, or a row of acts. -/
def IsActs (w : World) (a : Option Addr) (n : Nat) (L : Nat → ActV) : Prop :=
  n = 0 ∨ ∃ b off, a = some ⟨b, off, none⟩ ∧ b < w.heap.size ∧ ∀ j, j < n → ActAt w b (off + j * 6) (L j)
theorem ActAt.fr {S : Nat → Prop} {w w' : World} {b o : Nat} {x : ActV} (h : ActAt w b o x) (f : Fr S w w') (hb : ¬ S b) : ActAt w' b o x := by
  obtain ⟨h0, h1, h2, h3, h4, h5, h6⟩ := h
  exact ⟨f.cell h0 hb, f.cell h1 hb, f.cell h2 hb, f.cell h3 hb, f.cell h4 hb, f.cell h5 hb, h6⟩

/-- The tables' places. -/
def ints (l : List Int) : List Value := l.map fun x => .int .i64 x

theorem addr_add (g i : Nat) : (⟨g, 0, none⟩ : Addr).add i = ⟨g, i, none⟩ := by unfold Addr.add; split <;> simp_all
theorem cell_one_new (w : World) (x : Value) (t : TypeId) : ∀ j u, [x][j]? = some u → (w.alloc (.cells #[x] t)).cell? ((⟨w.heap.size, 0, none⟩ : Addr).add j) = some u := by
  intro j u hu
  match j, hu with
  | 0, hu => rw [addr_add, cell_of_row _ _ _ _ _ _ (heap_alloc_last w (.cells #[x] t))]; exact hu
theorem infoI64 : (Try.prog.info? 2).map (fun i => (i.zero, i.size, i.bytes)) = some (some (.int .i64 0), 1, 8) := by kernel_rfl
theorem ints_snoc (T : List Int) (x : Int) : ints (T ++ [x]) = ints T ++ [.int .i64 x] := by simp [ints]
theorem ints_get (T : List Int) (k : Nat) (h : k < T.length) : (ints T)[k]? = some (.int .i64 (T.getD k 0)) := by
  simp [ints, List.getD_eq_getElem?_getD, List.getElem?_eq_getElem h]

/-- What holds at the head of a round: both memories have the same bytes, both spaces stand at the same place. -/
def Rel (w : World) (p g b q r b2 : Nat) (k : Nat) (tv : Value) (wr : World) : Prop :=
  ∃ (T : List Int) (x : Nat) (bs : List UInt8), Sat wr b p g 8 2000 x bs ∧ Rat wr b2 q r 8 2000 x bs ∧ x % 8 = 0 ∧ wr.ownsRow (b2 + 1) 2 1 tv T.length (ints T) ∧ 1 ≤ T.length ∧ T.length ≤ k + 1 ∧ Fr (fun _ => False) w wr

/-- What holds behind the switch of a round: both sides have told the same, both memories are the same again. -/
def Mid (wa : World) (p g b q r b2 : Nat) (s15 s16 s17 s18 : Value) (wc : World) : Prop :=
  ∃ (xv pc : Int) (x : Nat) (bs : List UInt8), s15 = .int .i64 xv ∧ s16 = .int .i64 xv ∧ s17 = .int .i64 pc ∧ s18 = .int .i64 pc ∧ Sat wc b p g 8 2000 x bs ∧ Rat wc b2 q r 8 2000 x bs ∧ x % 8 = 0 ∧ Fr (fun j => j = b ∨ j = g ∨ j = b2 ∨ j = r) wa wc

theorem copyv_8 (z x : Nat) (bs : List UInt8) (t : Int) (h : x ≤ z) (h8 : x % 8 = 0) : (copyv z x bs t).2.1 % 8 = 0 := by
  have := newv_inv z x bs (slots bs t) h
  unfold copyv
  split
  · exact this.2.2.1 h8
  · exact this.2.2.1 h8

theorem six_cells {w : World} {b : Nat} {a0 a1 a2 a3 a4 a5 : Value} {t : TypeId} (h : w.heap[b]? = some (.cells #[a0, a1, a2, a3, a4, a5] t (0, 0))) :
    w.cell? ⟨b, 0, none⟩ = some a0 ∧ w.cell? ⟨b, 1, none⟩ = some a1 ∧ w.cell? ⟨b, 2, none⟩ = some a2 ∧ w.cell? ⟨b, 3, none⟩ = some a3 ∧ w.cell? ⟨b, 4, none⟩ = some a4 ∧ w.cell? ⟨b, 5, none⟩ = some a5 ∧ b < w.heap.size :=
  ⟨by rw [cell_of_row w b _ _ _ _ h]; rfl, by rw [cell_of_row w b _ _ _ _ h]; rfl, by rw [cell_of_row w b _ _ _ _ h]; rfl, by rw [cell_of_row w b _ _ _ _ h]; rfl, by rw [cell_of_row w b _ _ _ _ h]; rfl, by rw [cell_of_row w b _ _ _ _ h]; rfl, lt_of_block h⟩

theorem rel_start (w w4 : World) (g b r : Nat) (hF : Fr (fun _ => False) w w4) (hS : Sat w4 b (g + 1) g 8 2000 8 (List.replicate 2048 0)) (hM : Mat 112 w4 (r + 1) r (List.replicate 2048 0)) :
    Rel w (g + 1) g b (r + 1) r w4.heap.size 0 (.slice (some ⟨w4.heap.size + 1, 0, none⟩) 1 1) ((w4.alloc (.cells #[.pointer (some ⟨r + 1, 0, none⟩), .int .i64 8, .int .i64 2000, .int .i64 8] 35)).alloc (.cells #[.int .i64 8] 2)) := by
  have hl := hM.lt
  have F := ((Fr.refl (fun _ => False) w4).alloc (.cells #[.pointer (some ⟨r + 1, 0, none⟩), .int .i64 8, .int .i64 2000, .int .i64 8] 35)).alloc (.cells #[.int .i64 8] 2)
  have hsz : (w4.alloc (.cells #[.pointer (some ⟨r + 1, 0, none⟩), .int .i64 8, .int .i64 2000, .int .i64 8] 35)).heap.size = w4.heap.size + 1 := by simp
  refine ⟨[8], 8, List.replicate 2048 0, hS.fr F id id id, ⟨by omega, by omega, ?_, hM.fr F id id, by omega, by omega, by rw [List.length_replicate]; omega⟩, rfl, ?_, by simp, by simp, hF.trans F⟩
  · rw [Below.heap_alloc _ _ _ (by omega)]
    exact heap_alloc_last _ _
  · have := World.ownsRow_lit (base := w4.heap.size + 1) (e := 2) (size := 1) (w4.alloc (.cells #[.pointer (some ⟨r + 1, 0, none⟩), .int .i64 8, .int .i64 2000, .int .i64 8] 35)) #[.int .i64 8] 1 (by omega) (by unfold maxLen; omega) rfl
    rw [hsz] at this
    exact this

set_option maxRecDepth 100000 in
set_option maxHeartbeats 8000000 in
theorem loop_any (a : Option Addr) (n c : Nat) (L : Nat → ActV) (sel : Int) (w : World) (h : IsActs w a n L) (hn : n ≤ 60) :
    Calls Try.prog 3 #[.slice a n c, .int .i64 sel] w fun e w' => e = .returned (.bool true) ∧ Fr (fun _ => False) w w' := by
  have H := Lib.hid h
  clear h
  have d60 : decide ((60 : Int) < n) = false := by simp; omega
  go_enter Try.func3, Try.ntmps3
  go_wp2_with fail
  refine (lives_any _).mono ?_
  rintro e w1 ⟨rfl, hf⟩
  have F1 := Lib.hid hf
  clear hf
  go_wp2_with fail
  refine (new_ok 2048 _ (by omega) (by omega)).mono ?_
  rintro e w2 ⟨rfl, hm, hf⟩
  have M2 := Lib.hid hm
  have F2 := Lib.hid (F1.out.trans hf)
  have l2 := Lib.hid hm.lt
  have s1 := Lib.hid F1.out.size
  clear hm hf
  obtain ⟨g, hg⟩ : ∃ g, w1.heap.size = g := ⟨_, rfl⟩
  rw [hg] at M2 l2 s1 ⊢
  clear hg
  go_wp2_with fail
  refine (snew_ok (g + 1) g 8 2000 _ _ M2.out (by omega) (by simp)).mono ?_
  rintro e w3 ⟨rfl, hs, hf⟩
  have S3 := Lib.hid hs
  have F3 := Lib.hid (F2.out.trans hf)
  have l3 := Lib.hid hs.lt
  clear hs hf
  obtain ⟨b, hb⟩ : ∃ b, w2.heap.size = b := ⟨_, rfl⟩
  rw [hb] at S3 l2 l3 ⊢
  clear hb
  go_wp2_with fail
  refine (rnew_ok 2048 _ (by omega)).mono ?_
  rintro e w4 ⟨rfl, hm, hf⟩
  have M4 := Lib.hid hm
  have S4 := Lib.hid (S3.out.fr hf id id id)
  have F4 := Lib.hid (F3.out.trans hf)
  have l4 := Lib.hid hm.lt
  clear hm hf
  obtain ⟨r, hr⟩ : ∃ r, w3.heap.size = r := ⟨_, rfl⟩
  rw [hr] at M4 l3 l4 ⊢
  clear hr
  have LT := Lib.hid (show w.heap.size ≤ g ∧ g + 1 < b ∧ b < r ∧ r + 1 < w4.heap.size by have := l2.out; have := l3.out; have := l4.out; have := s1.out; omega)
  have R0 := Lib.hid (rel_start w w4 g b r F4.out S4.out M4.out)
  clear S3 M2 M4 S4 l2 l3 l4 F1 F2 F3 F4 s1
  go_wp2_with fail
  go_loopg [11, 45] n (fun gh tv iv wr => ∃ k : Nat, k ≤ n ∧ gh = n - k ∧ iv = .int .i64 k ∧ Rel w (g + 1) g b (r + 1) r w4.heap.size k tv wr)
  case atStart => exact ⟨0, by omega, rfl, rfl, R0.out⟩
  case round =>
    obtain ⟨k, hk, rfl, rfl, T, x, bs, hS, hR, hx8, hT, hT1, hTk, hF⟩ := hrel
    have HS := Lib.hid hS
    have HR := Lib.hid hR
    have HT := Lib.hid hT
    have HF := Lib.hid hF
    have HX8 := Lib.hid hx8
    by_cases hlt : k < n
    · obtain ⟨ba, off, rfl, hba, hcells⟩ := H.out.resolve_left (by omega)
      have hact := (hcells k hlt).fr hF id
      obtain ⟨y, hy⟩ : ∃ y, L k = y := ⟨_, rfl⟩
      rw [hy] at hact
      obtain ⟨kind, tab, x0, x1, x2, nn⟩ := y
      obtain ⟨c0, c1, c2, c3, c4, c5, bk, bt, bn0, bn1⟩ := hact
      dsimp only at c0 c1 c2 c3 c4 c5 bk bt bn0 bn1
      obtain ⟨o, cc, hv, ho1, ho2, ho3, ho4⟩ := owns_form hT
      subst hv
      obtain ⟨gT, rfl, hgT1, hgT2⟩ : ∃ gT, o = some ⟨gT, 0, none⟩ ∧ w4.heap.size + 1 ≤ gT ∧ gT < wr.heap.size := by
        cases o with
        | none => have := ho3 rfl; omega
        | some bb =>
          obtain ⟨e1, e2, e3, e4⟩ := ho4 bb rfl
          obtain ⟨b0, o0, p0⟩ := bb
          dsimp only at *
          subst e1; subst e2
          exact ⟨b0, rfl, e3, e4⟩
      obtain ⟨m, hm⟩ : ∃ m, T.length = m := ⟨_, rfl⟩
      have hjm : tab % m < T.length := by rw [hm]; exact Nat.mod_lt _ (by omega)
      have hTc := hT.cells rfl (tab % m) (.int .i64 (T.getD (tab % m) 0)) (ints_get T _ hjm)
      rw [addr_add] at hTc
      rw [hm] at hT1 hTk ho1 HT ⊢
      obtain ⟨j, hj⟩ : ∃ j, tab % m = j := ⟨_, rfl⟩
      obtain ⟨at0, hat⟩ : ∃ at0, T.getD (tab % m) 0 = at0 := ⟨_, rfl⟩
      rw [hat, hj] at hTc
      have hjI : (tab : Int) % (m : Int) = (j : Int) := by omega
      have hm0 : ((m : Int) == 0) = false := by rw [beq_eq_false_iff_ne]; omega
      unfold maxLen at ho2
      rw [hj, hm] at hjm
      have hTF := HT.out
      have BA := Lib.hid hba
      clear hT hS hR hF hx8 hcells hy ho3 ho4 hat hj hba
      go_upto_block 2 with fail
      have hA := heap_alloc_last wr (.cells #[.int .u8 (kind : Int), .int .u8 (tab : Int), .int .i64 x0, .int .i64 x1, .int .i64 x2, .int .i16 nn] 41)
      obtain ⟨wa, hwa⟩ : ∃ wa, wr.alloc (.cells #[.int .u8 (kind : Int), .int .u8 (tab : Int), .int .i64 x0, .int .i64 x1, .int .i64 x2, .int .i16 nn] 41) = wa := ⟨_, rfl⟩
      have FA := Lib.hid (show Fr (fun _ => False) wr wa from hwa ▸ (Fr.refl _ _).alloc _)
      rw [hwa] at hA ⊢
      have HA := Lib.hid hA
      have SA := Lib.hid (HS.out.fr FA.out id id id)
      have RA := Lib.hid (HR.out.fr FA.out id id id)
      obtain ⟨p0, p1, p2, p3, p4, p5, plt⟩ := six_cells hA
      have lt := LT.out
      clear hwa hA HS HR
      go_cut [15, 16, 17, 18] (fun s15 s16 s17 s18 wc => Mid wa (g + 1) g b (r + 1) r w4.heap.size s15 s16 s17 s18 wc)
      case first =>
        rcases (by omega : kind % 5 = 2 ∨ kind % 5 = 3 ∨ kind % 5 = 4 ∨ (kind % 5 < 2)) with h5 | h5 | h5 | h5
        · have e2 : ((kind : Int) % 5 == 2) = true := by simp; omega
          clear h5
          go_wp2_with fail
          refine (tcopy_any b (g + 1) g 8 2000 x at0 bs _ SA.out HX8.out).mono ?_
          rintro e w5 ⟨rfl, hs, hf⟩
          have S5 := Lib.hid hs
          have F5 := Lib.hid hf
          have R5 := Lib.hid (RA.out.fr hf (by omega) (by omega) (by omega))
          clear hs hf
          go_wp2_with fail
          refine (rtcopy_any w4.heap.size (r + 1) r 8 2000 x at0 bs _ R5.out HX8.out).mono ?_
          rintro e w6 ⟨rfl, hs, hf⟩
          have R6 := Lib.hid hs
          have F6 := Lib.hid hf
          have S6 := Lib.hid (S5.out.fr hf (by omega) (by omega) (by omega))
          clear hs hf
          go_wp2_with fail
          go_meet
          case rel => exact ⟨_, _, _, _, rfl, rfl, rfl, rfl, S6.out, R6.out, copyv_8 _ _ _ _ SA.out.bd.2.1 HX8.out, (Fr.some F5.out fun _ e => by rcases e with e | e; exact .inl e; exact .inr (.inl e)).trans (Fr.some F6.out fun _ e => by rcases e with e | e; exact .inr (.inr (.inl e)); exact .inr (.inr (.inr e)))⟩
        · have e2 : ((kind : Int) % 5 == 2) = false := by rw [beq_eq_false_iff_ne]; omega
          have e3 : ((kind : Int) % 5 == 3) = true := by simp; omega
          have HC1 := Lib.hid (fun w h => setCell_any (g + 1) g bs x2 x1 w h)
          have HC2 := Lib.hid (fun w h => rsetCell_any (r + 1) r bs x2 x1 w h)
          have HLn := Lib.hid (setc_length bs x2 x1)
          clear h5
          go_wp2_with fail
          have hne : ¬ (wr.heap.size = g ∨ wr.heap.size = r) := by omega
          go_region_held3 (fun W => W.cell? ⟨wr.heap.size, 3, none⟩ = some (.int .i64 x1) ∧ W.cell? ⟨wr.heap.size, 4, none⟩ = some (.int .i64 x2) ∧ Fr (fun j => j = g ∨ j = r) wa W)
            ((go_split_ands; refine (fun hF => ⟨Fr.cell hF p3 hne, Fr.cell hF p4 hne, hF⟩ : Fr (fun j => j = g ∨ j = r) wa _ → _) ?_; first | assumption | exact Fr.drew (by assumption) | exact Fr.refl _ _ | exact Fr.drew (Fr.refl _ _)))
            (first | (go_at_call 15; go_split_ands; refine (HC1.out _ (Mat.drew SA.out.mat)).mono ?_; rintro e wq ⟨rfl, hq1, hq2⟩; have hq3 : Fr (fun j => j = g ∨ j = r) wa wq := Fr.some (Fr.undrew hq2) (fun _ e => .inl e); have hq4 := RA.out.fr (Fr.undrew hq2) (by omega) (by omega) (by omega); have hq5 := SA.out.wrote (Fr.undrew hq2) hq1 HLn.out) | (go_at_call 16; go_split_ands; refine (HC2.out _ hq4.mat).mono ?_; rintro e wz ⟨rfl, hz1, hz2⟩; have hz3 : Fr (fun j => j = g ∨ j = r) wa wz := hq3.trans (Fr.some hz2 (fun _ e => .inr e)); have hz4 := hq5.fr hz2 (by omega) (by omega) (by omega); have hz5 := hq4.wrote hz2 hz1 HLn.out) | fail)
          all_goals
            go_wp2_with fail
            go_meet
            case rel => exact ⟨_, _, _, _, rfl, rfl, rfl, rfl, hz4, hz5, HX8.out, Fr.some hz3 fun _ e => by rcases e with e | e; exact .inr (.inl e); exact .inr (.inr (.inr e))⟩
        · have e2 : ((kind : Int) % 5 == 2) = false := by rw [beq_eq_false_iff_ne]; omega
          have e3 : ((kind : Int) % 5 == 3) = false := by rw [beq_eq_false_iff_ne]; omega
          have e4 : ((kind : Int) % 5 == 4) = true := by simp; omega
          clear h5
          go_wp2_with fail
          refine (tnew_any b (g + 1) g 8 2000 x nn bs _ SA.out HX8.out).mono ?_
          rintro e w5 ⟨rfl, hs, hf⟩
          have S5 := Lib.hid hs
          have F5 := Lib.hid hf
          have R5 := Lib.hid (RA.out.fr hf (by omega) (by omega) (by omega))
          obtain ⟨q0, q1, q2, q3, q4, q5, qlt⟩ := six_cells (hf.obj HA.out (by omega))
          clear hs hf
          go_wp2_with fail
          refine (rtnew_any w4.heap.size (r + 1) r 8 2000 x nn bs _ R5.out HX8.out).mono ?_
          rintro e w6 ⟨rfl, hs, hf⟩
          have R6 := Lib.hid hs
          have F6 := Lib.hid hf
          have S6 := Lib.hid (S5.out.fr hf (by omega) (by omega) (by omega))
          clear hs hf
          go_wp2_with fail
          go_meet
          case rel => exact ⟨_, _, _, _, rfl, rfl, rfl, rfl, S6.out, R6.out, (newv_inv _ _ _ _ SA.out.bd.2.1).2.2.1 HX8.out, (Fr.some F5.out fun _ e => by rcases e with e | e; exact .inl e; exact .inr (.inl e)).trans (Fr.some F6.out fun _ e => by rcases e with e | e; exact .inr (.inr (.inl e)); exact .inr (.inr (.inr e)))⟩
        · have e2 : ((kind : Int) % 5 == 2) = false := by rw [beq_eq_false_iff_ne]; omega
          have e3 : ((kind : Int) % 5 == 3) = false := by rw [beq_eq_false_iff_ne]; omega
          have e4 : ((kind : Int) % 5 == 4) = false := by rw [beq_eq_false_iff_ne]; omega
          have HC1 := Lib.hid (fun w h => put_any (g + 1) g bs at0 ⟨x0, x1, x2⟩ w h)
          have HC2 := Lib.hid (fun w h => rput_any (r + 1) r bs at0 ⟨x0, x1, x2⟩ w h)
          simp only [entv] at HC1 HC2
          have HLn := Lib.hid (putb_length bs at0 ⟨x0, x1, x2⟩)
          have hne : ¬ (wr.heap.size = g ∨ wr.heap.size = r) := by omega
          clear h5
          go_wp2_with fail
          go_region_held3 (fun W => W.cell? ⟨wr.heap.size, 2, none⟩ = some (.int .i64 x0) ∧ W.cell? ⟨wr.heap.size, 3, none⟩ = some (.int .i64 x1) ∧ W.cell? ⟨wr.heap.size, 4, none⟩ = some (.int .i64 x2) ∧ Fr (fun j => j = g ∨ j = r) wa W)
            ((go_split_ands; refine (fun hF => ⟨Fr.cell hF p2 hne, Fr.cell hF p3 hne, Fr.cell hF p4 hne, hF⟩ : Fr (fun j => j = g ∨ j = r) wa _ → _) ?_; first | assumption | exact Fr.drew (by assumption) | exact Fr.refl _ _ | exact Fr.drew (Fr.refl _ _)))
            (first | (go_at_call 19; go_split_ands; refine (HC1.out _ (Mat.drew SA.out.mat)).mono ?_; rintro e wq ⟨rfl, hq1, hq2⟩; have hq3 : Fr (fun j => j = g ∨ j = r) wa wq := Fr.some (Fr.undrew hq2) (fun _ e => .inl e); have hq4 := RA.out.fr (Fr.undrew hq2) (by omega) (by omega) (by omega); have hq5 := SA.out.wrote (Fr.undrew hq2) hq1 HLn.out) | (go_at_call 20; go_split_ands; refine (HC2.out _ hq4.mat).mono ?_; rintro e wz ⟨rfl, hz1, hz2⟩; have hz3 : Fr (fun j => j = g ∨ j = r) wa wz := hq3.trans (Fr.some hz2 (fun _ e => .inr e)); have hz4 := hq5.fr hz2 (by omega) (by omega) (by omega); have hz5 := hq4.wrote hz2 hz1 HLn.out) | fail)
          all_goals
            go_wp2_with fail
            go_meet
            case rel => exact ⟨_, _, _, _, rfl, rfl, rfl, rfl, hz4, hz5, HX8.out, Fr.some hz3 fun _ e => by rcases e with e | e; exact .inr (.inl e); exact .inr (.inr (.inr e))⟩
      case rest =>
        obtain ⟨xv, pc, x', bs', rfl, rfl, rfl, rfl, hS2, hR2, hx2, hF2⟩ := hcut
        obtain ⟨_, _, _, q3⟩ := hR2.cells
        have S2 := Lib.hid hS2
        have R2 := Lib.hid hR2
        have F2 := Lib.hid ((HF.out.trans FA.out).after hF2 (S := fun _ => False) (fun k hk h => by omega))
        have A2 := Lib.hid (hF2.obj HA.out (by omega))
        have T2 := Lib.hid (hF2.owns (FA.out.owns HT.out (fun _ _ => id)) (fun k hk h => by simp [Value.ownBlock] at hk; omega))
        clear hF2 p0 p1 p2 p3 p4 p5 hS2 hR2 c0 c1 c2 c3 c4 c5 hTc
        obtain ⟨i0, hi, hz0, hz1, hz2⟩ := info_parts infoI64
        have HI := Lib.hid hi
        have HZ := Lib.hid (And.intro hz0 (And.intro hz1 hz2))
        have HM := Lib.hid hm
        have LK := Lib.hid (fun t s w h k => looks_any (g + 1) g (r + 1) r bs' t s w h k)
        have HGT := Lib.hid (And.intro hgT1 hgT2)
        clear hi hz0 hz1 hz2 hm hgT1 hgT2
        go_wp2_with fail
        go_quiet ((first | (go_at_call 21; exact Calls.quiet_of_same (here_any _ _ _ _ _ _ _ _ S2.out)) | (go_at_call 22; exact Calls.quiet_of_same (same_any _ _ _ _ _ _ S2.out.mat R2.out.mat))))
        have S3 := Lib.hid (S2.out.fr ((Fr.refl (fun _ => False) wc).drewN nq) id id id)
        have R3 := Lib.hid (R2.out.fr ((Fr.refl (fun _ => False) wc).drewN nq) id id id)
        have T3 := Lib.hid (((Fr.refl (fun _ => False) wc).drewN nq).owns T2.out (fun _ _ => id))
        have A3 := Lib.hid (((Fr.refl (fun _ => False) wc).drewN nq).obj A2.out id)
        have F3 := Lib.hid (F2.out.drewN nq)
        obtain ⟨wd, hwd⟩ : ∃ wd, wc.drewN nq = wd := ⟨_, rfl⟩
        rw [hwd] at S3 R3 T3 A3 F3 ⊢
        clear hwd S2 R2 T2 A2 F2 q3
        by_cases hx : 0 < xv
        · have HT4 := Lib.hid (cell_one_new wd (.int .i64 xv) 2)
          go_wp2_with (at_builtin; refine wpList_append_own _ rfl (.tmp 146) (.tmp 148) 36 rfl (w4.heap.size + 1) 2 i0 _ 1 8 Try.underlying36 HI.out HZ.out.1 HZ.out.2.1 HZ.out.2.2 rfl (by decide) _ m (ints T) rfl (T3.out.alloc _) ⟨_, 0, none⟩ 1 1 [.int .i64 xv] rfl rfl HT4.out (by simp [Value.oneCell']) (by unfold maxLen; omega) (by omega) (by have := S3.out.lt; have := R3.out.lt; simp; omega) ?_; intro v2 w5 hown2 hgrow2 _; have HV2 := Lib.hid hown2; have FG := Lib.hid (Fr.grown (S := fun j => j = gT) ((Fr.refl _ wd).alloc _) hgrow2 (fun j hj => .inr (Option.some.inj (show some gT = some j from hj)).symm)); clear hown2 hgrow2)
          have A5 := Lib.hid (FG.out.obj A3.out (by have := HGT.out; omega))
          have S5 := Lib.hid (S3.out.fr FG.out (by have := HGT.out; omega) (by have := HGT.out; omega) (by have := HGT.out; omega))
          have R5 := Lib.hid (R3.out.fr FG.out (by have := HGT.out; omega) (by have := HGT.out; omega) (by have := HGT.out; omega))
          have F5 := Lib.hid (F3.out.after FG.out (S := fun _ => False) (fun k hk h => by have := HGT.out; omega))
          clear T3 FG S3 R3 A3 F3 HT4
          rw [← ints_snoc] at HV2
          refine (LK.out _ _ _ S5.out.mat R5.out.mat).mono ?_
          rintro e w6 ⟨rfl, hf⟩
          have S6 := Lib.hid (S5.out.fr hf id id id)
          have R6 := Lib.hid (R5.out.fr hf id id id)
          have T6 := Lib.hid (hf.owns HV2.out (fun _ _ => id))
          obtain ⟨p0, p1, p2, p3, p4, p5, plt⟩ := six_cells (hf.obj A5.out id)
          have F6 := Lib.hid (F5.out.trans hf)
          clear hf
          go_wp2_with fail
          refine (LK.out _ _ _ S6.out.mat R6.out.mat).mono ?_
          rintro e w7 ⟨rfl, hf⟩
          have S7 := Lib.hid (S6.out.fr hf id id id)
          have R7 := Lib.hid (R6.out.fr hf id id id)
          have T7 := Lib.hid (hf.owns T6.out (fun _ _ => id))
          have F7 := Lib.hid (F6.out.trans hf)
          clear hf p0 p1 p2 p3 p4 p5
          go_wp2_with fail
          go_roundg (n - (k + 1))
          case measure => omega
          case rel => exact ⟨k + 1, by omega, rfl, by go_num, T ++ [xv], x', bs', S7.out, R7.out, hx2, by rw [List.length_append, HM.out]; exact T7.out, by simp, by rw [List.length_append, HM.out]; simp; omega, F7.out⟩
        · have hx' : ¬ 0 < xv := hx
          go_wp2_with fail
          refine (LK.out _ _ _ S3.out.mat R3.out.mat).mono ?_
          rintro e w6 ⟨rfl, hf⟩
          have S6 := Lib.hid (S3.out.fr hf id id id)
          have R6 := Lib.hid (R3.out.fr hf id id id)
          have T6 := Lib.hid (hf.owns T3.out (fun _ _ => id))
          obtain ⟨p0, p1, p2, p3, p4, p5, plt⟩ := six_cells (hf.obj A3.out id)
          have F6 := Lib.hid (F3.out.trans hf)
          clear hf
          go_wp2_with fail
          refine (LK.out _ _ _ S6.out.mat R6.out.mat).mono ?_
          rintro e w7 ⟨rfl, hf⟩
          have S7 := Lib.hid (S6.out.fr hf id id id)
          have R7 := Lib.hid (R6.out.fr hf id id id)
          have T7 := Lib.hid (hf.owns T6.out (fun _ _ => id))
          have F7 := Lib.hid (F6.out.trans hf)
          clear hf p0 p1 p2 p3 p4 p5
          go_wp2_with fail
          go_roundg (n - (k + 1))
          case measure => omega
          case rel => exact ⟨k + 1, by omega, rfl, by go_num, T, x', bs', S7.out, R7.out, hx2, by rw [HM.out]; exact T7.out, by rw [HM.out]; omega, by rw [HM.out]; omega, F7.out⟩
    · obtain rfl : k = n := by omega
      clear hT hS hR hF hx8
      go_wp2
      go_ret
      exact ⟨rfl, HF.out⟩
end Go.Proofs.Ytajeiccfgnpbpaa.Mem
