/- The statement IfaceMissing: its walk, of few acts and selectors. -/
import Derived.Test.YtajeiccfgnpbpaaImA
import Derived.Deep.DeepCutAuto
import Derived.Deep.DrawnRows
namespace Go.Proofs.Ytajeiccfgnpbpaa.Mem
open Go.RowKit
attribute [local go_sem ↓] Go.wp_at_zero Go.wp_at_succ

/-- An act of the statement. -/
structure Act5 where
  kind : Nat
  par : Nat
  cls : Nat
  sel : Int
  xt : Int
def Act5.ok (q : Act5) : Prop := q.kind ≤ 255 ∧ q.par ≤ 255 ∧ q.cls ≤ 255 ∧ -32768 ≤ q.sel ∧ q.sel ≤ 32767 ∧ -32768 ≤ q.xt ∧ q.xt ≤ 32767
def IsActs5 (W : World) (a : Option Addr) (n : Nat) (Q : Nat → Act5) : Prop :=
  n = 0 ∨ ∃ bb off, a = some ⟨bb, off, none⟩ ∧ bb < W.heap.size ∧ ∀ j, j < n → (W.cell? ⟨bb, off + j * 5, none⟩ = some (.int .u8 ((Q j).kind : Nat)) ∧ W.cell? ⟨bb, off + j * 5 + 1, none⟩ = some (.int .u8 ((Q j).par : Nat)) ∧ W.cell? ⟨bb, off + j * 5 + 2, none⟩ = some (.int .u8 ((Q j).cls : Nat)) ∧
    W.cell? ⟨bb, off + j * 5 + 3, none⟩ = some (.int .i16 (Q j).sel) ∧ W.cell? ⟨bb, off + j * 5 + 4, none⟩ = some (.int .i16 (Q j).xt)) ∧ (Q j).ok
def IsI16s (W : World) (a : Option Addr) (n : Nat) (N : Nat → Int) : Prop :=
  n = 0 ∨ ∃ bb off, a = some ⟨bb, off, none⟩ ∧ bb < W.heap.size ∧ ∀ j, j < n → W.cell? ⟨bb, off + j, none⟩ = some (.int .i16 (N j)) ∧ -32768 ≤ N j ∧ N j ≤ 32767

theorem LWm.mono {wb p g b S z k t t' : Nat} {A : Nat → Nat} {L : List RC} {w : World} (h : LWm wb p g b S z k t A L w) (ht : t ≤ t') : LWm wb p g b S z k t' A L w := by
  obtain ⟨bs, x, vs, vA, vL, h1, h2, h3, h4, h5, h6, h7, h8, h9⟩ := h
  exact ⟨bs, x, vs, vA, vL, h1, h2, h3, h4, h5, h6, h7, fun j hj => ⟨Nat.le_trans (h8 j hj).1 ht, (h8 j hj).2⟩, h9⟩

theorem lwm_start {wb p g b S n : Nat} {w : World} (h1 : 16 ≤ n) (hn : n ≤ 1048576) (ho : w.heap[wb]? = some (.cells #[.pointer (some ⟨p, 0, none⟩), .pointer (some ⟨b, 0, none⟩), .int .i64 8, .slice none 0 0, .slice none 0 0] 56 (0, 0))) (hs : Sat w b p g 8 n 16 (setv (List.replicate n 0) 8 0)) : LWm wb p g b S n 0 0 (fun _ => 0) [] w := by
  refine ⟨_, 16, fun _ => .slice none 0 0, _, _, ho, hs, by simp [setv_length], by omega, ?_, fun _ => rfl, fun j hj => by simp at hj, fun j hj => by simp at hj, .inl ⟨rfl, rfl, rfl⟩⟩
  exact ⟨rfl, by simp [setv_length]; omega, by simp [setv_length]; omega, Nat.le_refl _, by rw [cellv_same _ _ _ (by rw [List.length_replicate]; omega) (by omega)]; rfl, fun i hi => by omega, fun i j _ hj => by omega, fun i hi => by omega, fun i hi => by omega, fun i hi => by omega, fun i r hr => by simp at hr, fun i r hr => by simp at hr, fun i hi => by omega, fun i r hr => by simp at hr, fun i r hr => by simp at hr⟩

theorem setL_elem (L : List RC) (c : Nat) (sel xt : Int) (j : Nat) (h : j < (setL L c sel xt).length) (hj : j < L.length) : (setL L c sel xt)[j] = if j = c then { L[j] with own := setOwn L[j].own sel xt } else L[j] := by
  have := setL_get L c sel xt j
  rw [List.getElem?_eq_getElem h, List.getElem?_eq_getElem hj] at this
  simpa using this

theorem ints_of_owns {w : World} {B : Nat} {t : TypeId} {S : Nat → Prop} {v : Value} {l : List Int} (h : w.ownsRow B t 1 v l.length (l.map (.int .i64))) (hb : ∀ n ∈ l, I64 n) (hs : ∀ k, B ≤ k → ¬ S k) : Ints w S v l := by
  obtain ⟨o, c, rfl, hc⟩ := row_cells h
  refine ⟨o, c, rfl, hb, hc.imp id fun ⟨g0, ho, hcell⟩ => ?_⟩
  subst ho
  obtain ⟨h1, h2⟩ := h.lt g0 rfl
  exact ⟨g0, 0, rfl, h2, hs g0 h1, fun j hj => by simpa using hcell j hj⟩

theorem selsl_eq {bs : List UInt8} {x n : Nat} {l : List Int} (hl : l.length = n) (h : ∀ i (hi : i < l.length), cellv bs (x + 8 * (i + 1)) = l[i]) : selsl bs x n = l := by
  apply List.ext_getElem
  · simp [selsl, hl]
  · intro i h1 h2
    simp [selsl]
    exact h i h2

theorem missv_step {bs : List UInt8} {S x k : Nat} {A : Nat → Nat} {L : List RC} (h : CSt bs S x k A L) {c : Nat} (hc : c < k) (s : Int) (l : List Int) : missv bs ((A c : Nat) : Int) (s :: l) = match walkN L s c with | some _ => missv bs ((A c : Nat) : Int) l | none => (s, -2050) := by
  rw [missv]
  obtain ⟨n, _, hlk⟩ := h.look hc s
  rw [hlk]
  cases walkN L s c with
  | some p => rfl
  | none => rfl

/-- The interface that the statement lays, and what it is asked of. -/
def ImNew (b p g x n2 k : Nat) (A : Nat → Nat) (L : List RC) (WL : List Int) (v : Value) (wr : World) (bs' : List UInt8) : Prop :=
  Calls Try.prog 30 #[.pointer (some ⟨b, 0, none⟩), v] wr (fun e w' => e = .returned (.tuple #[.int .i64 (x : Int), .int .i64 0]) ∧ Sat w' b p g 8 65536 (x + 8 * (n2 + 1)) bs' ∧ Both b g wr w') ∧ CSt bs' 6 (x + 8 * (n2 + 1)) k A L ∧
    (∀ W, Mat 108 W p g bs' → Calls Try.prog 33 #[.pointer (some ⟨p, 0, none⟩), .int .i64 (x : Int), .int .i64 3] W (fun e w' => e = .returned (.tuple #[.int .i64 0, .int .i64 (-2048)]) ∧ Fr (fun _ => False) W w')) ∧
    (∀ W c, c < k → Mat 108 W p g bs' → Calls Try.prog 33 #[.pointer (some ⟨p, 0, none⟩), .int .i64 (x : Int), .int .i64 ((A c : Nat) : Int)] W (fun e w' => e = .returned (.tuple #[.int .i64 (missv bs' ((A c : Nat) : Int) WL).1, .int .i64 (missv bs' ((A c : Nat) : Int) WL).2]) ∧ Fr (fun _ => False) W w'))
theorem im_new {b p g x n2 k : Nat} {A : Nat → Nat} {L : List RC} {WL : List Int} {v : Value} {wr : World} {bs : List UInt8} (hs : Sat wr b p g 8 65536 x bs) (hbl : bs.length = 65536) (hx : x = 16 + (56 + 24 * 6) * k) (hk : k ≤ 40) (hcst : CSt bs 6 x k A L) (hWl : WL.length = n2) (hn2 : n2 ≤ 100) (hWb : ∀ y ∈ WL, I64 y) (hints : Ints wr (fun j => j = b ∨ j = g) v WL) :
    ∃ bs', ImNew b p g x n2 k A L WL v wr bs' := by
  have hxk : x = 16 + 200 * k := by omega
  have hx8 : x % 8 = 0 := by omega
  subst hWl
  obtain ⟨bs', hnew, hl', hc', hn', hs'⟩ := inewv_fit 65536 x bs WL (by omega) hWb (by omega) (by omega)
  have hin := inew_any b p g 8 65536 x bs v WL wr hs hx8 hints (by omega)
  rw [hnew] at hin
  have hcs' := hcst.more (y := x + 8 * (WL.length + 1)) hl' (by omega) (by omega) hc'
  refine ⟨bs', hin, hcs', fun W h => missing_none p g x WL.length 3 bs' W h hx8 (by omega) hn' (by omega) (by omega) (isCl_bad (j := 0) (by omega) (by simpa using cell_three bs')), fun W c hc h => ?_⟩
  have hpl := hcs'.pl c hc
  have hm := missing_ok p g x WL.length ((A c : Nat) : Int) bs' W h hx8 (by omega) hn' (by omega) (by omega) (hcs'.is c hc)
  rw [selsl_eq rfl hs'] at hm
  exact hm

/-- A world whose list of classes was stored. -/
theorem lwm_stored {wb p g b S z k t x gA cA gL cL : Nat} {A : Nat → Nat} {L : List RC} {bs : List UInt8} {vs : Nat → Value} {v0 : Value} {w : World} (hob : w.heap[wb]? = some (.cells #[.pointer (some ⟨p, 0, none⟩), .pointer (some ⟨b, 0, none⟩), .int .i64 8, .slice (some ⟨gA, 0, none⟩) k cA, v0] 56 (0, 0)))
    (hs : Sat w b p g 8 z x bs) (hbl : bs.length = z) (hx : x = 16 + (56 + 24 * S) * k) (hcst : CSt bs S x k A L) (hone : ∀ j, (vs j).oneCell' = true) (hown : ∀ j (h : j < L.length), OwnR w (vs j) L[j].own) (hfew : ∀ j (h : j < L.length), L[j].own.length ≤ t ∧ L[j].size = 8)
    (hk0 : 0 < k) (hne : gA ≠ gL) (hoA : w.ownsRow (wb + 1) 2 1 (.slice (some ⟨gA, 0, none⟩) k cA) k ((ats A k).map (.int .i64))) (hoL : w.ownsRow (wb + 1) 90 4 (.slice (some ⟨gL, 0, none⟩) k cL) k (rows4 (r4 L vs))) (hd : b < wb ∧ p < wb ∧ g < wb) :
    LWm wb p g b S z k t A L (w.setCell ⟨wb, 4, none⟩ (.slice (some ⟨gL, 0, none⟩) k cL)) := by
  have f : Fr (fun j => j = wb) w (w.setCell ⟨wb, 4, none⟩ (.slice (some ⟨gL, 0, none⟩) k cL)) := Fr.setOne (p := wb) (Fr.refl _ _) _ _
  refine ⟨bs, x, vs, _, _, ?_, hs.fr f (by omega) (by omega) (by omega), hbl, hx, hcst, hone, fun j hj => (hown j hj).fr f (fun k cs hk e => by subst e; rw [hob] at hk; simp at hk), hfew, .inr ⟨hk0, gA, cA, gL, cL, rfl, rfl, hne, f.owns hoA (fun k hk e => ?_), f.owns hoL (fun k hk e => ?_)⟩⟩
  · have := heap_setCell_same w wb 4 _ _ (.slice (some ⟨gL, 0, none⟩) k cL) hob
    rw [this]
    rfl
  · have := (hoA.lt k hk).1
    omega
  · have := (hoL.lt k hk).1
    omega

set_option maxRecDepth 100000 in
set_option maxHeartbeats 4000000 in
theorem imLoop_any (a : Option Addr) (n c : Nat) (Q : Nat → Act5) (a2 : Option Addr) (n2 c2 : Nat) (N : Nat → Int) (which : Nat) (w : World) (h : IsActs5 w a n Q) (hn : n ≤ 40) (h2 : IsI16s w a2 n2 N) (hn2 : n2 ≤ 100) (hwh : which ≤ 255) :
    Calls Try.prog 6 #[.slice a n c, .slice a2 n2 c2, .int .u8 which] w (fun e w' => e = .returned (.bool true) ∧ Fr (fun _ => False) w w') := by
  go_enter Try.func6, Try.ntmps6
  go_wp2_with fail
  refine (lives12_any w).mono ?_
  rintro e w1 ⟨rfl, hf⟩
  have F1 := Lib.hid hf
  clear hf
  go_wp2_with fail
  refine (wnew_ok 65536 w1 (by omega) (by omega) (by omega)).mono ?_
  rintro e w2 ⟨p, g, b, rfl, hp0, hg0, hb0, hs, hf⟩
  have O2 := Lib.hid (heap_alloc_last w2 (.cells #[.pointer (some ⟨p, 0, none⟩), .pointer (some ⟨b, 0, none⟩), .int .i64 8, .slice none 0 0, .slice none 0 0] 56))
  have S2 := Lib.hid (hs.fr ((Fr.refl (fun _ => False) w2).alloc (.cells #[.pointer (some ⟨p, 0, none⟩), .pointer (some ⟨b, 0, none⟩), .int .i64 8, .slice none 0 0, .slice none 0 0] 56)) id id id)
  have F2 := Lib.hid ((F1.out.trans hf).alloc (.cells #[.pointer (some ⟨p, 0, none⟩), .pointer (some ⟨b, 0, none⟩), .int .i64 8, .slice none 0 0, .slice none 0 0] 56))
  have HD := Lib.hid (show b < w2.heap.size ∧ p < w2.heap.size ∧ g < w2.heap.size from by have := hs.lt; omega)
  have HB := Lib.hid (show w.heap.size ≤ w2.heap.size ∧ w.heap.size ≤ b ∧ w.heap.size ≤ g from by have := F1.out.size; have := hf.size; omega)
  clear hs hf hp0 hg0 hb0
  go_wp2_with fail
  obtain ⟨wb, hwb⟩ : ∃ wb, w2.heap.size = wb := ⟨_, rfl⟩
  obtain ⟨w3, hw3⟩ : ∃ w3, w2.alloc (.cells #[.pointer (some ⟨p, 0, none⟩), .pointer (some ⟨b, 0, none⟩), .int .i64 8, .slice none 0 0, .slice none 0 0] 56) = w3 := ⟨_, rfl⟩
  rw [hwb] at O2 HD HB ⊢
  rw [hw3] at O2 S2 F2 ⊢
  clear hwb hw3
  have HBF := Lib.hid (fun (j : Nat) (hj : j < w.heap.size) (e : wb ≤ j ∨ j = b ∨ j = g) => (by have := HB.out; omega : False))
  go_loopw [44] (fun iv wr => ∃ j : Nat, j ≤ n ∧ iv = .int .i64 j ∧ ∃ (k : Nat) (A : Nat → Nat) (L : List RC), k ≤ j ∧ LWm wb p g b 6 65536 k j A L wr ∧ Fr (fun _ => False) w wr) (fun iv _ => n - (intOf iv).toNat)
  case atStart => exact ⟨0, Nat.zero_le _, rfl, 0, _, [], Nat.le_refl _, lwm_start (by omega) (by omega) O2.out S2.out, F2.out⟩
  case round =>
    obtain ⟨j, hj, rfl, k, A, L, hkj, hW, hF⟩ := hrel
    have HW := Lib.hid hW
    have HF := Lib.hid hF
    by_cases hlt : j < n
    · obtain ⟨bb, o, rfl, hbb, hc⟩ := h.resolve_left (by omega)
      obtain ⟨⟨hc0, hc1, hc2, hc3, hc4⟩, hok⟩ := hc j hlt
      have c0 := hF.cell hc0 id
      have c1 := hF.cell hc1 id
      have c2' := hF.cell hc2 id
      have c3 := hF.cell hc3 id
      have c4 := hF.cell hc4 id
      unfold Act5.ok at hok
      obtain ⟨⟨qk, qp, qc, qs, qx⟩, hq⟩ : ∃ q, Q j = q := ⟨_, rfl⟩
      rw [hq] at c0 c1 c2' c3 c4 hok
      dsimp only at c0 c1 c2' c3 c4 hok
      obtain ⟨k1, k2, k3, k4, k5, k6, k7⟩ := hok
      have hmk := fun W (hW : LWm wb p g b 6 65536 k j A L W) => lwm_make (S := 6) (qp : Int) W hW (by omega) (by omega) (by omega) (by omega) (by omega) HD.out
      have HMK := Lib.hid hmk
      obtain ⟨bs, x, vs, vA, vL, hob, hs, hbl, hx, hcst, hone, hown, hfew, hv⟩ := hW
      obtain ⟨q0, q1, q2, q3, q4, f0, f1, f2, f3, f4, hwl⟩ := five_cells hob
      have HWB := Lib.hid hob
      have hmake : ∀ W', (∃ (A' : Nat → Nat) (rn : RC), rn.own = [] ∧ LWm wb p g b 6 65536 (k + 1) j A' (L ++ [rn]) W') → ∃ (k' : Nat) (A' : Nat → Nat) (L' : List RC), k' ≤ j + 1 ∧ LWm wb p g b 6 65536 k' (j + 1) A' L' W' := fun W' ⟨A', rn, _, hl⟩ => ⟨k + 1, A', _, by omega, hl.mono (by omega)⟩
      have HMK2 := Lib.hid hmake
      have HLA := Lib.hid (fun W (o : Obj) (hl : LWm wb p g b 6 65536 k j A L W) => (show LWm wb p g b 6 65536 k j A L (W.alloc o) from by
        obtain ⟨bs, x, vs, vA, vL, h1, h2, h3, h4, h5, h6, h7, h8, h9⟩ := hl
        have f := (Fr.refl (fun _ => False) W).alloc o
        exact ⟨bs, x, vs, vA, vL, f.obj h1 id, h2.fr f id id id, h3, h4, h5, h6, fun j hj => (h7 j hj).old f, h8, h9.imp id fun ⟨e0, gA, cA, gL, cL, e1, e2, e3, e4, e5⟩ => ⟨e0, gA, cA, gL, cL, e1, e2, e3, f.owns e4 (fun _ _ => id), f.owns e5 (fun _ _ => id)⟩⟩))
      clear hc hc0 hc1 hc2 hc3 hc4 hq hmk hmake
      by_cases hkind : qk % 2 = 0
      · have e1 : ((qk : Int) % 2 == 0) = true := by simp; omega
        clear hob hs hbl hx hcst hone hown hfew hv hF hkind
        go_wp2_with fail
        refine (HMK.out _ (HLA.out _ _ HW.out)).mono ?_
        rintro e w4 ⟨rfl, hl, hf⟩
        have HL4 := Lib.hid (HMK2.out _ hl)
        have HF4 := Lib.hid ((HF.out.alloc (.cells #[.int .u8 qk, .int .u8 qp, .int .u8 qc, .int .i16 qs, .int .i16 qx] 73)).after hf (S := fun _ => False) HBF.out)
        clear hl hf
        go_wp2_with fail
        go_roundw
        case rel =>
          obtain ⟨k', A', L', e1, e2⟩ := HL4.out
          exact ⟨j + 1, by omega, by go_num, k', A', L', e1, e2, HF4.out⟩
        case measure => simp [intOf]; omega
      · have e1 : ((qk : Int) % 2 == 0) = false := by simp; omega
        rcases hv with ⟨rfl, rfl, rfl⟩ | ⟨hk0, gA, cA, gL, cL, rfl, rfl, hne, hoA, hoL⟩
        · clear hob hs hbl hx hcst hone hown hfew hF hkind
          go_wp2_with fail
          refine (HMK.out _ (HLA.out _ _ HW.out)).mono ?_
          rintro e w4 ⟨rfl, hl, hf⟩
          have HL4 := Lib.hid (HMK2.out _ hl)
          have HF4 := Lib.hid ((HF.out.alloc (.cells #[.int .u8 qk, .int .u8 qp, .int .u8 qc, .int .i16 qs, .int .i16 qx] 73)).after hf (S := fun _ => False) HBF.out)
          clear hl hf
          go_wp2_with fail
          go_roundw
          case rel =>
            obtain ⟨k', A', L', e1, e2⟩ := HL4.out
            exact ⟨j + 1, by omega, by go_num, k', A', L', e1, e2, HF4.out⟩
          case measure => simp [intOf]; omega
        · have hk1 : ((k : Int) == 0) = false := by simp; omega
          have hkz : ¬ (k : Int) = 0 := by omega
          clear hF hkind
          have HS := Lib.hid hs
          have HCS := Lib.hid hcst
          have HOA := Lib.hid hoA
          have HOL := Lib.hid hoL
          have HOWN := Lib.hid hown
          have HFEW := Lib.hid hfew
          have HONE := Lib.hid hone
          have HBL := Lib.hid hbl
          have HX := Lib.hid hx
          have HNE := Lib.hid hne
          clear hob hs hbl hx hcst hone hown hfew hoA hoL hne
          go_wp2_with fail
          obtain ⟨cq, hcq⟩ : ∃ cq : Nat, (qc : Int) % (k : Int) = cq := ⟨qc % k, by rw [Int.natCast_emod]⟩
          have hcqk : cq < k := by have := Int.emod_lt_of_pos (qc : Int) (show (0 : Int) < k by omega); omega
          rw [hcq]
          have OAC := heap_alloc_last wr (.cells #[.int .u8 qk, .int .u8 qp, .int .u8 qc, .int .i16 qs, .int .i16 qx] 73)
          have FAC := (Fr.refl (fun _ => False) wr).alloc (.cells #[.int .u8 qk, .int .u8 qp, .int .u8 qc, .int .i16 qs, .int .i16 qx] 73)
          obtain ⟨wA, hwA⟩ : ∃ wA, wr.alloc (.cells #[.int .u8 qk, .int .u8 qp, .int .u8 qc, .int .i16 qs, .int .i16 qx] 73) = wA := ⟨_, rfl⟩
          rw [hwA] at OAC FAC ⊢
          have hset := HCS.out.set hcqk (sel := qs) (xt := qx) (by unfold I64; omega) (by unfold I64; omega)
          obtain ⟨rc, hrc⟩ : ∃ rc, rsetc L cq qs = rc := ⟨_, rfl⟩
          rw [hrc] at hset
          have hrs := rset_any gL k cq cL (wb + 1) vs L qs qx wA (FAC.owns HOL.out (fun _ _ => id)) HCS.out.klen HONE.out (fun j hj => (HOWN.out j hj).old FAC) (fun i hi => by have := (HFEW.out i hi).1; omega) HCS.out.wf (by omega) hcqk
          have hgA := (HOA.out.lt gA rfl).1
          have hBB : wr.heap.size ≠ g := by have := HD.out.2.2; have := lt_of_block HWB.out; omega
          have HBB := Lib.hid hBB
          have HGA := Lib.hid (show gA ≠ g ∧ wb ≠ g by have := HD.out; omega)
          have HRC := Lib.hid hrc
          have HSET := Lib.hid hset
          have HOAC := Lib.hid OAC
          have HFAC := Lib.hid FAC
          have HRS := Lib.hid hrs
          clear hcq hwA OAC FAC hset hrs hrc hgA hBB
          refine HRS.out.mono ?_
          rintro e w4 hR
          unfold RSet at hR
          rw [HRC.out] at hR
          obtain ⟨hf4, hR⟩ := hR
          have hF4 : Fr (fun _ => False) wr w4 := HFAC.out.trans hf4
          have HF4 := Lib.hid hF4
          have hob4 := hF4.obj HWB.out id
          have HWB4 := Lib.hid hob4
          obtain ⟨u0, u1, u2, u3, u4, _, _, _, _, _, _⟩ := five_cells hob4
          obtain ⟨a0, a1, a2', a3, a4, _, _, _, _, _, _⟩ := five_cells (hf4.obj HOAC.out id)
          have hat : w4.cell? ⟨gA, cq, none⟩ = some (.int .i64 ((A cq : Nat) : Int)) := by
            have := hF4.cell (owns_holds HOA.out ⟨gA, 0, none⟩ rfl cq (.int .i64 ((A cq : Nat) : Int)) (by rw [List.getElem?_map, ats_get A k cq hcqk]; rfl)) id
            rwa [addr_add'] at this
          have HM4 := Lib.hid (HS.out.mat.fr hF4 id id)
          have hcs := fun W h => cset_any p g bs 8 ((A cq : Nat) : Int) qs qx W h
          rw [HSET.out.1] at hcs
          have HCSET := Lib.hid hcs
          have hcq0 : (0 : Int) ≤ cq := by omega
          have hcqk' : (cq : Int) < k := by omega
          rcases hR with ⟨hc0, rfl⟩ | ⟨hc0, gO, cO, u, rfl, hrow, hnew, hu1⟩
          · have HC0 := Lib.hid hc0
            clear hf4 hF4 hob4 hcs q0 q1 q2 q3 q4 f0 f1 f2 f3 f4
            go_wp2_with fail
            have hw1 : IntKind.i64.wrap qs = qs := IntWalk.i64_in _ (by omega)
            have hw2 : IntKind.i64.wrap qx = qx := IntWalk.i64_in _ (by omega)
            go_region_held3 (fun W => W.cell? ⟨wb, 0, none⟩ = some (.pointer (some ⟨p, 0, none⟩)) ∧ W.cell? ⟨wb, 2, none⟩ = some (.int .i64 8) ∧ W.cell? ⟨wb, 3, none⟩ = some (.slice (some ⟨gA, 0, none⟩) k cA) ∧ W.cell? ⟨gA, cq, none⟩ = some (.int .i64 ((A cq : Nat) : Int)) ∧ W.cell? ⟨wr.heap.size, 3, none⟩ = some (.int .i16 qs) ∧ W.cell? ⟨wr.heap.size, 4, none⟩ = some (.int .i16 qx) ∧ Fr (fun j => j = g) w4 W)
              ((go_split_ands; refine (fun hF => ⟨Fr.cell hF u0 HGA.out.2, Fr.cell hF u2 HGA.out.2, Fr.cell hF u3 HGA.out.2, Fr.cell hF hat HGA.out.1, Fr.cell hF a3 HBB.out, Fr.cell hF a4 HBB.out, hF⟩ : Fr (fun j => j = g) w4 _ → _) ?_; repeat' first | exact Fr.refl _ _ | assumption | apply Fr.drew | apply Fr.alloc))
              (first | (go_at_call 35; go_split_ands; (with_reducible refine (HCSET.out _ (Mat.drew HM4.out)).mono ?_); rintro e w5 ⟨rfl, hm, hf⟩; have hf5 := Fr.undrew hf) | fail)
            clear hw1 hw2
            rw [HSET.out.2.1 hc0] at hm
            have HM5 := Lib.hid hm
            have HF5 := Lib.hid hf5
            obtain ⟨x0, x1, x2, x3, x4, z0, z1, z2, z3, z4, _⟩ := five_cells (hf5.obj HWB4.out HGA.out.2)
            clear hm hf hf5 u0 u1 u2 u3 u4 a0 a1 a2' a3 a4 hat
            go_wp2_with fail
            go_roundw
            case rel =>
              have hd := HD.out
              have hgA := (HOA.out.lt gA rfl).1
              have hgL := (HOL.out.lt gL rfl).1
              have f5 : Fr (fun j => j = g) wr w5 := (Fr.some HF4.out fun _ e => e.elim).trans HF5.out
              refine ⟨j + 1, by omega, by go_num, k, A, L, by omega, lwm_stored (f5.obj HWB.out (by omega)) ((HS.out.fr HF4.out id id id).wrote HF5.out HM5.out rfl) HBL.out HX.out HCS.out HONE.out (fun i hi => (HOWN.out i hi).fr f5 (fun k cs hk e => by
                subst e
                have := HS.out.mat.2.2.1
                rw [this] at hk
                simp at hk)) (fun i hi => ⟨by have := (HFEW.out i hi).1; omega, (HFEW.out i hi).2⟩) hk0 HNE.out (f5.owns HOA.out (fun k hk e => by have := (HOA.out.lt k hk).1; omega)) (f5.owns HOL.out (fun k hk e => by have := (HOL.out.lt k hk).1; omega)) hd, ?_⟩
              exact ((HF.out.trans HF4.out).after HF5.out (S := fun _ => False) (fun j hj e => HBF.out j hj (.inr (.inr e)))).setCell (.inl (by have := HB.out; exact this.1)) _
            case measure => simp [intOf]; omega
          · subst hc0
            have HROW := Lib.hid hrow
            have HNEW := Lib.hid hnew
            have HU1 := Lib.hid hu1
            have HA4 := Lib.hid hf4
            clear hf4 hF4 hob4 hcs q0 q1 q2 q3 q4 f0 f1 f2 f3 f4 hrow hnew hu1
            go_wp2_with fail
            have hw1 : IntKind.i64.wrap qs = qs := IntWalk.i64_in _ (by omega)
            have hw2 : IntKind.i64.wrap qx = qx := IntWalk.i64_in _ (by omega)
            go_region_held3 (fun W => W.cell? ⟨wb, 0, none⟩ = some (.pointer (some ⟨p, 0, none⟩)) ∧ W.cell? ⟨wb, 2, none⟩ = some (.int .i64 8) ∧ W.cell? ⟨wb, 3, none⟩ = some (.slice (some ⟨gA, 0, none⟩) k cA) ∧ W.cell? ⟨gA, cq, none⟩ = some (.int .i64 ((A cq : Nat) : Int)) ∧ W.cell? ⟨wr.heap.size, 3, none⟩ = some (.int .i16 qs) ∧ W.cell? ⟨wr.heap.size, 4, none⟩ = some (.int .i16 qx) ∧ Fr (fun j => j = g) w4 W)
              ((go_split_ands; refine (fun hF => ⟨Fr.cell hF u0 HGA.out.2, Fr.cell hF u2 HGA.out.2, Fr.cell hF u3 HGA.out.2, Fr.cell hF hat HGA.out.1, Fr.cell hF a3 HBB.out, Fr.cell hF a4 HBB.out, hF⟩ : Fr (fun j => j = g) w4 _ → _) ?_; repeat' first | exact Fr.refl _ _ | assumption | apply Fr.drew | apply Fr.alloc))
              (first | (go_at_call 35; go_split_ands; (with_reducible refine (HCSET.out _ (Mat.drew HM4.out)).mono ?_); rintro e w5 ⟨rfl, hm, hf⟩; have hf5 := Fr.undrew hf) | fail)
            clear hw1 hw2
            have HM5 := Lib.hid hm
            have HF5 := Lib.hid hf5
            obtain ⟨x0, x1, x2, x3, x4, z0, z1, z2, z3, z4, _⟩ := five_cells (hf5.obj HWB4.out HGA.out.2)
            clear hm hf hf5 u0 u1 u2 u3 u4 a0 a1 a2' a3 a4 hat
            go_wp2_with fail
            go_roundw
            case rel =>
              have hd := HD.out
              have hgA := (HOA.out.lt gA rfl).1
              have hwbl := lt_of_block HWB.out
              have hgO := (HROW.out.lt gO rfl).1
              have hsA : wr.heap.size ≤ wA.heap.size := HFAC.out.size
              have hgAlt := (HOA.out.lt gA rfl).2
              have f5 : Fr (fun j => j = g) wr w5 := (Fr.some HF4.out fun _ e => e.elim).trans HF5.out
              have hgty : ∀ k cs, w4.heap[k]? = some (.cells cs 150 (0, 0)) → ¬ k = g := fun k cs hk e => by
                subst e
                have := HM4.out.2.2.1
                rw [this] at hk
                simp at hk
              have hnewC := HSET.out.2.2 (by trivial)
              have hklen := HCS.out.klen
              refine ⟨j + 1, by omega, by go_num, k, A, setL L cq qs qx, by omega, lwm_stored (f5.obj HWB.out (by omega)) ((HS.out.fr HF4.out id id id).wrote HF5.out HM5.out (csetv_length _ _ _ _ _)) (by rw [csetv_length]; exact HBL.out) HX.out hnewC (vs := fun i => if i = cq then u else vs i) (fun i => ?_) (fun i hi => ?_) (fun i hi => ?_) hk0 (by omega) (f5.owns HOA.out (fun k hk e => by have := (HOA.out.lt k hk).1; omega)) (HF5.out.owns (owns_mono HROW.out (by omega)) (fun k hk e => by have := (HROW.out.lt k hk).1; omega)) hd, ?_⟩
              · split
                · exact HU1.out
                · exact HONE.out i
              · have hil : i < L.length := by rw [setL_length] at hi; exact hi
                rw [setL_elem L cq qs qx i hi hil]
                try dsimp only
                by_cases hic : i = cq
                · rw [if_pos hic, if_pos hic]
                  subst hic
                  have := HNEW.out
                  simp only [List.getD_eq_getElem?_getD, List.getElem?_eq_getElem hil, Option.getD_some] at this
                  exact this.fr HF5.out (fun k cs hk => hgty k cs hk)
                · rw [if_neg hic, if_neg hic]
                  exact ((HOWN.out i hil).old HF4.out).fr HF5.out (fun k cs hk => hgty k cs hk)
              · have hil : i < L.length := by rw [setL_length] at hi; exact hi
                rw [setL_elem L cq qs qx i hi hil]
                have hfw := HFEW.out i hil
                by_cases hic : i = cq
                · rw [if_pos hic]
                  refine ⟨?_, hfw.2⟩
                  show (setOwn L[i].own qs qx).length ≤ j + 1
                  unfold setOwn
                  rw [List.length_append, List.length_singleton]
                  have := List.length_filter_le (fun o : Int × Int => o.1 != qs) L[i].own
                  omega
                · rw [if_neg hic]
                  exact ⟨by omega, hfw.2⟩
              · exact ((HF.out.trans HF4.out).after HF5.out (S := fun _ => False) (fun j hj e => HBF.out j hj (.inr (.inr e)))).setCell (.inl (by have := HB.out; exact this.1)) _
            case measure => simp [intOf]; omega
    · obtain rfl : n = j := by omega
      obtain ⟨bs, x, vs, vA, vL, hob, hs, hbl, hx, hcst, hone, hown, hfew, hv⟩ := hW
      obtain ⟨q0, q1, q2, q3, q4, _, _, _, _, _, hwl⟩ := five_cells hob
      obtain ⟨i0, hi, hz0, hz1, hz2⟩ := info_parts infoI64'
      have HI := Lib.hid hi
      have HZ := Lib.hid (And.intro hz0 (And.intro hz1 hz2))
      have HWB := Lib.hid hob
      have HS := Lib.hid hs
      have HCS := Lib.hid hcst
      have HOWN := Lib.hid hown
      have HFEW := Lib.hid hfew
      have HBL := Lib.hid hbl
      have HX := Lib.hid hx
      have hbase0 : b < wr.heap.size ∧ g < wr.heap.size ∧ p < wr.heap.size := by have := hs.lt; omega
      have HBS := Lib.hid hbase0
      have HQ := Lib.hid (And.intro q0 (And.intro q1 (And.intro q3 q4)))
      clear hi hz0 hz1 hz2 hob hs hbl hx hcst hone hown hfew hF hbase0
      obtain ⟨wo, hwo⟩ : ∃ wo, wo = wr := ⟨_, rfl⟩
      subst hwo
      clear q0 q1 q2 q3 q4
      go_wp2_with fail
      go_loopw [13, 106] (fun av iv ws => ∃ (i : Nat) (v : Value), v = av ∧ i ≤ n2 ∧ iv = .int .i64 i ∧ ws.ownsRow wo.heap.size 2 1 v i (((List.range i).map N).map (.int .i64)) ∧ Fr (fun _ => False) wo ws) (fun _ iv _ => n2 - (intOf iv).toNat)
      case atStart => exact ⟨0, _, rfl, Nat.zero_le _, rfl, World.ownsRow_nil _ _ _ _, Fr.refl _ _⟩
      case round =>
        obtain ⟨i, v, rfl, hi2, rfl, hrow, hG⟩ := hrel
        have HG := Lib.hid hG
        have HRW := Lib.hid hrow
        by_cases hlt2 : i < n2
        · obtain ⟨bb, o, rfl, hbb, hc⟩ := h2.resolve_left (by omega)
          obtain ⟨hc1, hc2, hc3⟩ := hc i hlt2
          have r1 := (HF.out.trans hG).cell hc1 id
          have hsn : ((List.range (i + 1)).map N).map (Value.int .i64) = ((List.range i).map N).map (.int .i64) ++ [.int .i64 (N i)] := by rw [List.range_succ]; simp
          obtain ⟨y, hy⟩ : ∃ y, N i = y := ⟨_, rfl⟩
          rw [hy] at r1 hc2 hc3 hsn
          have HSN := Lib.hid hsn
          have hbs : wo.heap.size ≤ wr.heap.size := hG.size
          clear hc hc1 hy hrow hG hsn
          go_wp2_with (at_builtin; refine wpList_append_own _ rfl (.tmp 110) (.tmp 113) 36 rfl wo.heap.size 2 i0 _ 1 8 Try.underlying36 HI.out HZ.out.1 HZ.out.2.1 HZ.out.2.2 rfl (by decide) _ i (((List.range i).map N).map (.int .i64)) rfl (HRW.out.alloc _) ⟨_, 0, none⟩ 1 1 [.int .i64 y] rfl rfl (cell_one_new' _ _ _) (by simp [Value.oneCell']) (by unfold maxLen; omega) (by omega) (by simp; omega) ?_; intro v5 w5 hown5 hgrow5 _; have HV5 := Lib.hid hown5; have HF5 := Lib.hid (Fr.grown (HG.out.alloc _) hgrow5 (fun j hj => .inl (HRW.out.lt j hj).1)); clear hown5 hgrow5)
          go_roundw
          case rel => exact ⟨i + 1, _, rfl, by omega, by go_num, by rw [HSN.out]; exact HV5.out, HF5.out⟩
          case measure => simp [intOf]; omega
        · obtain rfl : n2 = i := by omega
          obtain ⟨WL, hWL⟩ : ∃ WL, (List.range n2).map N = WL := ⟨_, rfl⟩
          have hWl : WL.length = n2 := by rw [← hWL]; simp
          have hWb : ∀ y ∈ WL, I64 y := fun y hy => by
            rw [← hWL] at hy
            obtain ⟨m, hm, rfl⟩ := List.mem_map.1 hy
            have hm := List.mem_range.1 hm
            obtain ⟨bb, o, _, _, hc⟩ := h2.resolve_left (by omega)
            obtain ⟨_, hc2, hc3⟩ := hc m hm
            unfold I64
            omega
          rw [hWL] at hrow
          have hrow2 : wr.ownsRow wo.heap.size 2 1 v WL.length (WL.map (.int .i64)) := by rw [hWl]; exact hrow
          obtain ⟨bs', hnew⟩ := im_new (HS.out.fr hG id id id) HBL.out HX.out (by omega) HCS.out hWl hn2 hWb (ints_of_owns hrow2 hWb (fun k hk e => by have := HBS.out; omega))
          have hlt0 := hrow2.lt
          obtain ⟨ov, cv, rfl, hvc⟩ := row_cells hrow2
          have HG0 := Lib.hid (show ∀ g0, ov = some ⟨g0, 0, none⟩ → ¬ (g0 = b ∨ g0 = g) from fun g0 e => by subst e; have := (hlt0 g0 rfl).1; have := HBS.out; omega)
          have hvc2 : n2 = 0 ∨ ∃ g0, ov = some ⟨g0, 0, none⟩ ∧ ∀ i, i < n2 → wr.cell? ⟨g0, i, none⟩ = some (.int .i64 (WL.getD i 0)) := hvc.imp (fun e => by rw [← hWl]; exact e) (fun ⟨g0, e, hc⟩ => ⟨g0, e, fun i hi => by
            have hi' : i < WL.length := by rw [hWl]; exact hi
            rw [hc i hi']
            simp [List.getD_eq_getElem?_getD, List.getElem?_eq_getElem hi']⟩)
          unfold ImNew at hnew
          obtain ⟨hin, hcs', hmn, hmk⟩ := hnew
          have HVC := Lib.hid hvc2
          rw [hWl] at hin
          have HIN := Lib.hid hin
          have HCS' := Lib.hid hcs'
          have HMN := Lib.hid hmn
          have HMK := Lib.hid hmk
          have HWL := Lib.hid hWl
          obtain ⟨q0, q1, q3, q4⟩ := HQ.out
          have u1 := hG.cell q1 id
          rw [hWl]
          clear hlt0 hrow hrow2 hin hcs' hmn hmk hvc hvc2 hWb hWL hWl hG q0 q1 q3 q4
          go_wp2_with fail
          refine HIN.out.mono ?_
          rintro e w6 ⟨rfl, hs6, hf6⟩
          have hFo6 : Fr (fun j => j = b ∨ j = g) wo w6 := (Fr.some HG.out fun _ e => e.elim).trans hf6
          have HF6 := Lib.hid hFo6
          have HF6' := Lib.hid hf6
          have HM6 := Lib.hid hs6.mat
          have HNB := Lib.hid (show (wb ≠ b ∧ wb ≠ g) by have := HD.out; omega)
          obtain ⟨q0, q1, q3, q4⟩ := HQ.out
          have u0 := hFo6.cell q0 (show ¬ (wb = b ∨ wb = g) by have := HNB.out; omega)
          have hFw6 := (HF.out.trans HG.out).after hf6 (S := fun _ => False) (fun j hj e => HBF.out j hj (.inr e))
          have HFW6 := Lib.hid hFw6
          clear hs6 hf6 hFo6 hFw6 u1 q0 q1 q3 q4
          go_wp2_with fail
          refine (HMN.out _ HM6.out).mono ?_
          rintro e w7 ⟨rfl, hf7⟩
          have HF7 := Lib.hid hf7
          obtain ⟨q0, q1, q3, q4⟩ := HQ.out
          have u3 := hf7.cell (HF6.out.cell q3 (show ¬ (wb = b ∨ wb = g) by have := HNB.out; omega)) id
          have u0' := hf7.cell u0 id
          clear u0 hf7 q0 q1 q3 q4
          rcases hv with ⟨rfl, rfl, rfl⟩ | ⟨hk0, gA, cA, gL, cL, rfl, rfl, hne, hoA, hoL⟩
          · go_wp2_with fail
            go_ret
            exact ⟨rfl, HFW6.out.trans HF7.out⟩
          · have hk1 : ((k : Int) == 0) = false := by simp; omega
            have hkz : ¬ (k : Int) = 0 := by omega
            have HOA := Lib.hid hoA
            have HOL := Lib.hid hoL
            clear hoA hoL hne
            obtain ⟨cq, hcq⟩ : ∃ cq : Nat, (which : Int) % (k : Int) = cq := ⟨which % k, by rw [Int.natCast_emod]⟩
            have hcqk : cq < k := by have := Int.emod_lt_of_pos (which : Int) (show (0 : Int) < k by omega); omega
            have HCQ := Lib.hid hcq
            have hgA := (HOA.out.lt gA rfl).1
            have hgL := (HOL.out.lt gL rfl).1
            have hbg := HD.out
            have hat : w7.cell? ⟨gA, cq, none⟩ = some (.int .i64 ((A cq : Nat) : Int)) := by
              have := HF7.out.cell (HF6.out.cell (owns_holds HOA.out ⟨gA, 0, none⟩ rfl cq (.int .i64 ((A cq : Nat) : Int)) (by rw [List.getElem?_map, ats_get A k cq hcqk]; rfl)) (by rw [addr_add']; show ¬ (gA = b ∨ gA = g); omega)) id
              rwa [addr_add'] at this
            have hty : ∀ k cs, wo.heap[k]? = some (.cells cs 150 (0, 0)) → ¬ (k = b ∨ k = g) := fun k cs hk e => by
              rcases e with rfl | rfl
              · have := HS.out.2.2.1
                rw [this] at hk
                simp at hk
              · have := HS.out.mat.2.2.1
                rw [this] at hk
                simp at hk
            have hRL7 : RLat w7 gL vs L := (rlat_of (HF7.out.owns (HF6.out.owns HOL.out (fun k hk e => by have := (HOL.out.lt k hk).1; omega)) (fun _ _ => id)) (fun j hj => ((HOWN.out j hj).fr HF6.out hty).old HF7.out) (fun j hj => by have := (HFEW.out j hj).1; omega))
            have hklen := HCS.out.klen
            have HRL7 := Lib.hid hRL7
            have HKL := Lib.hid hklen
            have HU4 := Lib.hid (HF7.out.cell (HF6.out.cell HQ.out.2.2.2 (show ¬ (wb = b ∨ wb = g) by have := HNB.out; omega)) id)
            have HM7 := Lib.hid (HM6.out.fr HF7.out id id)
            have hmk := fun W h => HMK.out W cq hcqk h
            obtain ⟨⟨r1, r2⟩, hr⟩ : ∃ r, missv bs' ((A cq : Nat) : Int) WL = r := ⟨_, rfl⟩
            rw [hr] at hmk
            have HMK2 := Lib.hid hmk
            have HR := Lib.hid hr
            have hcq0 : (0 : Int) ≤ cq := by omega
            have hcqk' : (cq : Int) < k := by omega
            clear hcq hgA hgL hbg hty hRL7 hmk hr hklen
            go_wp2_with fail
            rw [HCQ.out]
            go_region_held3 (fun W => W.cell? ⟨wb, 0, none⟩ = some (.pointer (some ⟨p, 0, none⟩)) ∧ W.cell? ⟨wb, 3, none⟩ = some (.slice (some ⟨gA, 0, none⟩) k cA) ∧ W.cell? ⟨gA, cq, none⟩ = some (.int .i64 ((A cq : Nat) : Int)) ∧ Fr (fun _ => False) w7 W)
              ((go_split_ands; refine (fun hF => ⟨Fr.cell hF u0' id, Fr.cell hF u3 id, Fr.cell hF hat id, hF⟩ : Fr (fun _ => False) w7 _ → _) ?_; repeat' first | exact Fr.refl _ _ | assumption | apply Fr.drew | apply Fr.alloc))
              (first | (go_at_call 33; go_split_ands; (with_reducible refine (HMK2.out _ (Mat.drew HM7.out)).mono ?_); rintro e w8 ⟨rfl, hf⟩; have hf8 := Fr.undrew hf) | fail)
            have HF8 := Lib.hid hf8
            have u4 := hf8.cell HU4.out id
            have HSTEP := Lib.hid (fun s l => missv_step HCS'.out hcqk s l)
            have HRWK := Lib.hid (fun s W (hW : Fr (fun _ => False) w7 W) => (show Calls Try.prog 36 #[.slice (some ⟨gL, 0, none⟩) k cL, .int .i64 cq, .int .i64 s] W fun e w' => e = .returned (.tuple #[.int .i64 (wres (walkN L s cq)).1, .int .i64 (wres (walkN L s cq)).2.1, .bool (wres (walkN L s cq)).2.2]) ∧ Fr (fun _ => False) W w' by
              have h := rwalk_any gL cL vs L cq s W (HRL7.out.old hW) HCS.out.wf (by rw [HKL.out]; omega) (by rw [HKL.out]; omega)
              rw [HKL.out, show walkI L s (cq : Int) = walkN L s cq by unfold walkI; rw [if_pos (by omega), Int.toNat_natCast]] at h
              exact h))
            clear hf hf8 u0' u3 hat
            go_wp2_with fail
            go_loopw [160] (fun iv ws => ∃ i : Nat, i ≤ n2 ∧ iv = .int .i64 i ∧ missv bs' ((A cq : Nat) : Int) (WL.drop i) = (r1, r2) ∧ Fr (fun _ => False) w8 ws) (fun iv _ => n2 - (intOf iv).toNat)
            case atStart => exact ⟨0, Nat.zero_le _, rfl, HR.out, Fr.refl _ _⟩
            case round =>
              obtain ⟨i, hi2, rfl, hms, hG8⟩ := hrel
              have HG8 := Lib.hid hG8
              by_cases hlt2 : i < n2
              · obtain ⟨g0, rfl, hvcell⟩ := HVC.out.resolve_left (by omega)
                have hrv := hG8.cell (HF8.out.cell (HF7.out.cell (HF6'.out.cell (hvcell i hlt2) (show ¬ (g0 = b ∨ g0 = g) from HG0.out g0 rfl)) id) id) id
                have hil : i < WL.length := by rw [HWL.out]; exact hlt2
                have hdrop : WL.drop i = WL.getD i 0 :: WL.drop (i + 1) := by
                  rw [List.drop_eq_getElem_cons hil]
                  simp [List.getD_eq_getElem?_getD, List.getElem?_eq_getElem hil]
                obtain ⟨s, hs⟩ : ∃ s, WL.getD i 0 = s := ⟨_, rfl⟩
                rw [hs] at hrv hdrop
                rw [hdrop, HSTEP.out] at hms
                have hw := HRWK.out s wr (HF8.out.trans hG8)
                obtain ⟨ow, how⟩ : ∃ ow, walkN L s cq = ow := ⟨_, rfl⟩
                rw [how] at hw hms
                have v4 := hG8.cell u4 id
                have hi0 : (0 : Int) ≤ i := by omega
                have hin2 : (i : Int) < n2 := by omega
                cases ow with
                | none =>
                  simp only [wres] at hw
                  dsimp only at hms
                  have HWK := Lib.hid hw
                  clear hil hdrop hs hw how hG8
                  cases hms
                  go_wp2_with fail
                  refine HWK.out.mono ?_
                  rintro e w9 ⟨rfl, hf⟩
                  have HF9 := Lib.hid hf
                  clear hf
                  go_wp2_with fail
                  go_ret
                  exact ⟨rfl, HFW6.out.trans (HF7.out.trans (HF8.out.trans (HG8.out.trans HF9.out)))⟩
                | some pw =>
                  obtain ⟨xw, jw⟩ := pw
                  simp only [wres] at hw
                  dsimp only at hms
                  have HWK := Lib.hid hw
                  have HMS := Lib.hid hms
                  clear hil hdrop hs hw how hG8 hms
                  go_wp2_with fail
                  refine HWK.out.mono ?_
                  rintro e w9 ⟨rfl, hf⟩
                  have HF9 := Lib.hid hf
                  clear hf
                  go_wp2_with fail
                  go_roundw
                  case rel => exact ⟨i + 1, by omega, by go_num, HMS.out, HG8.out.trans HF9.out⟩
                  case measure => simp [intOf]; omega
              · obtain rfl : n2 = i := by omega
                rw [List.drop_eq_nil_of_le (by rw [HWL.out]; exact Nat.le_refl _), missv] at hms
                clear hG8
                cases hms
                go_wp2_with fail
                go_ret
                exact ⟨rfl, HFW6.out.trans (HF7.out.trans (HF8.out.trans HG8.out))⟩
end Go.Proofs.Ytajeiccfgnpbpaa.Mem
