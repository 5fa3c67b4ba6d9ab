/- Several texts in one: HdP, SpC, SpE. -/
import Derived.Test.YthkmbnkkohomeaaGreatDoorSwaf
import Derived.Lib.Hide
import Derived.Test.YthkmbnkkohomeaaGreatDoorSwag
set_option linter.unusedSimpArgs false
set_option linter.unusedVariables false
/- Plain mathematics: heads of words in a memory: what a read of one tells, a list of them, and what a new one leaves. No program. -/
namespace Go.Proofs.YthkmbnkkohomeaaGreatDoor.Mem
open Go.RowKit

/-- A word, as it is read. -/
structure HW where
  a : Int
  xt : Int
  fl : Int
  nm : List UInt8

def hxt (a n : Int) : Int := a + 16 + (n % 256 + 7) / 8 * 8
/-- What a read of a head tells: the word, and the link. -/
def hread (bs : List UInt8) (a : Int) : Option (HW × Int) :=
  if (cell bs a).2 = 0 ∧ (cell bs (a + 8)).2 = 0 ∧ 0 ≤ (cell bs (a + 8)).1 ∧ (cell bs (a + 8)).1 % 256 ≤ 31 ∧ (txt bs (a + 16) ((cell bs (a + 8)).1 % 256)).2 = 0 ∧ (cell bs (hxt a (cell bs (a + 8)).1)).2 = 0 then
    some (⟨a, hxt a (cell bs (a + 8)).1, (cell bs (a + 8)).1 / 256, (txt bs (a + 16) ((cell bs (a + 8)).1 % 256)).1⟩, (cell bs a).1)
  else none

/-- The words behind a link. -/
def hchain (bs : List UInt8) : Nat → Int → Int → List HW
  | 0, _, _ => []
  | f + 1, lim, a => if 0 < a ∧ a < lim then (match hread bs a with
      | some (w, l) => w :: hchain bs f a l
      | none => []) else []
/-- The words of a list. -/
def hwords (bs : List UInt8) (root : Int) : List HW := hchain bs (bs.length + 1) bs.length (cell bs root).1
/-- The first word with a name that isn't hidden. -/
def hpick (low : List UInt8) (ws : List HW) : Option HW := ws.find? (fun w => w.nm == low && w.fl / 2 % 2 == 0)

/-- Bytes that are as they were, out of a stretch. -/
def Same (x z : Nat) (bs cs : List UInt8) : Prop := cs.length = bs.length ∧ ∀ i, i < x ∨ z ≤ i → cs.getD i 0 = bs.getD i 0
theorem Same.refl (x z : Nat) (bs : List UInt8) : Same x z bs bs := ⟨rfl, fun _ _ => rfl⟩
theorem Same.trans {x z : Nat} {a b c : List UInt8} (h : Same x z a b) (k : Same x z b c) : Same x z a c := ⟨k.1.trans h.1, fun i hi => (k.2 i hi).trans (h.2 i hi)⟩
theorem Same.wider {x z x' z' : Nat} {a b : List UInt8} (h : Same x z a b) (h1 : x' ≤ x) (h2 : z ≤ z') : Same x' z' a b := ⟨h.1, fun i hi => h.2 i (by omega)⟩
theorem Same.cellv {x z : Nat} {bs cs : List UInt8} (h : Same x z bs cs) (b : Nat) (hb : b + 8 ≤ x ∨ z ≤ b) : Mem.cellv cs b = Mem.cellv bs b := by
  unfold Mem.cellv
  rw [rd_congr (bs := cs) (cs := bs) (b := b) 8 fun i hi => h.2 _ (by omega)]
theorem Same.cell {x z : Nat} {bs cs : List UInt8} (h : Same x z bs cs) (b : Int) (hb : b + 8 ≤ x ∨ z ≤ b) : Mem.cell cs b = Mem.cell bs b := by
  unfold Mem.cell
  rw [h.1]
  by_cases hc : code bs.length b = 0
  · have := code_ok hc
    rw [if_pos hc, if_pos hc, h.cellv b.toNat (by omega)]
  · rw [if_neg hc, if_neg hc]
theorem text_ext {bs cs : List UInt8} {a k : Nat} (hl : cs.length = bs.length) (ha : a + k ≤ bs.length) (h : ∀ i, i < k → cs.getD (a + i) 0 = bs.getD (a + i) 0) : text cs a k = text bs a k := by
  apply List.ext_getElem
  · rw [text_length _ _ _ (by omega), text_length _ _ _ (by omega)]
  · intro i h1 h2
    have h3 : i < k := by rw [text_length _ _ _ (by omega)] at h1; exact h1
    have e1 := text_get cs a k i h3
    have e2 := text_get bs a k i h3
    rw [List.getD_eq_getElem?_getD, List.getElem?_eq_getElem h1] at e1
    rw [List.getD_eq_getElem?_getD, List.getElem?_eq_getElem h2] at e2
    simp only [Option.getD_some] at e1 e2
    rw [e1, e2, h i h3]
theorem Same.txt {x z : Nat} {bs cs : List UInt8} (h : Same x z bs cs) (b n : Int) (hb : b + n ≤ x ∨ (z : Int) ≤ b) : Mem.txt cs b n = Mem.txt bs b n := by
  unfold Mem.txt
  rw [h.1]
  by_cases hc : has bs.length b n = true
  · rw [if_pos hc, if_pos hc]
    simp [has] at hc
    rw [text_ext h.1 (by omega) fun i hi => h.2 _ (by omega)]
  · rw [if_neg hc, if_neg hc]
theorem setv_same (bs : List UInt8) (a : Nat) (n : Int) : Same a (a + 8) bs (setv bs a n) := ⟨setv_length _ _ _, fun i hi => by
  unfold setv
  rw [wr_get, if_neg (by omega)]⟩
theorem put_get (bs : List UInt8) (a : Nat) (t : List UInt8) (h : a + t.length ≤ bs.length) (i : Nat) : (put bs a t).getD i 0 = if a ≤ i ∧ i < a + t.length then t.getD (i - a) 0 else bs.getD i 0 := by
  unfold put
  have hl : (bs.take a).length = a := by simp; omega
  by_cases h1 : i < a
  · rw [if_neg (by omega), List.getD_eq_getElem?_getD, List.getD_eq_getElem?_getD, List.append_assoc, List.getElem?_append_left (by omega), List.getElem?_take, if_pos h1]
  · by_cases h2 : i < a + t.length
    · rw [if_pos (by omega), List.getD_eq_getElem?_getD, List.getD_eq_getElem?_getD, List.append_assoc, List.getElem?_append_right (by omega), hl, List.getElem?_append_left (by omega)]
    · rw [if_neg (by omega), List.getD_eq_getElem?_getD, List.getD_eq_getElem?_getD, List.getElem?_append_right (by simp; omega), List.getElem?_drop]
      congr 2
      simp
      omega
theorem put_same (bs : List UInt8) (a : Nat) (t : List UInt8) (h : a + t.length ≤ bs.length) : Same a (a + t.length) bs (put bs a t) := ⟨put_length _ _ _ h, fun i hi => by rw [put_get _ _ _ h, if_neg (by omega)]⟩
theorem text_of_put (bs : List UInt8) (a : Nat) (t : List UInt8) (h : a + t.length ≤ bs.length) : text (put bs a t) a t.length = t := by
  apply List.ext_getElem
  · rw [text_length _ _ _ (by rw [put_length _ _ _ h]; exact h)]
  · intro i h1 h2
    have e1 := text_get (put bs a t) a t.length i h2
    rw [put_get _ _ _ h, if_pos (by omega), show a + i - a = i by omega, List.getD_eq_getElem?_getD, List.getElem?_eq_getElem h1, List.getD_eq_getElem?_getD, List.getElem?_eq_getElem h2] at e1
    simpa using e1

/-- Up to the next cell. -/
def al8 (x : Nat) : Nat := (x + 7) / 8 * 8
/-- What a new word leaves. -/
def hput (bs : List UInt8) (x root : Nat) (low : List UInt8) (fl cd : Int) : List UInt8 :=
  setv (setv (put (put (setv (setv (put bs x (List.replicate (al8 x - x) 0)) (al8 x) (cellv bs root)) (al8 x + 8) (low.length + 256 * fl)) (al8 x + 16) low) (al8 x + 16 + low.length) (List.replicate (al8 (al8 x + 16 + low.length) - (al8 x + 16 + low.length)) 0)) (al8 (al8 x + 16 + low.length)) cd) root (al8 x)

/-- What stands in a memory behind a new word. -/
structure HNew (bs cs : List UInt8) (x root at' xt : Nat) (low : List UInt8) (fl cd : Int) : Prop where
  len : cs.length = bs.length
  old : ∀ i, (i < x ∧ (i < root ∨ root + 8 ≤ i)) ∨ xt + 8 ≤ i → cs.getD i 0 = bs.getD i 0
  link : cellv cs at' = cellv bs root
  head : cellv cs (at' + 8) = low.length + 256 * fl
  name : text cs (at' + 16) low.length = low
  code : cellv cs xt = cd
  root : cellv cs root = at'

def I64' (x : Int) : Prop := -9223372036854775808 ≤ x ∧ x ≤ 9223372036854775807
theorem cellv_i64 (bs : List UInt8) (a : Nat) : -9223372036854775808 ≤ cellv bs a ∧ cellv bs a ≤ 9223372036854775807 := by unfold cellv wrap64; omega

set_option maxHeartbeats 1000000 in
theorem hput_new (bs : List UInt8) (x root : Nat) (low : List UInt8) (fl cd : Int) (hr : root + 8 ≤ x) (hl : low.length ≤ 31) (hz : al8 (al8 x + 16 + low.length) + 8 ≤ bs.length) (hb : bs.length ≤ 1048576) (hfl : 0 ≤ fl ∧ fl ≤ 255) (hcd : I64' cd) :
    HNew bs (hput bs x root low fl cd) x root (al8 x) (al8 (al8 x + 16 + low.length)) low fl cd := by
  unfold I64' at hcd
  unfold hput
  obtain ⟨a, ha⟩ : ∃ a, al8 x = a := ⟨_, rfl⟩
  obtain ⟨e, he⟩ : ∃ e, a + 16 + low.length = e := ⟨_, rfl⟩
  obtain ⟨t, ht⟩ : ∃ t, al8 e = t := ⟨_, rfl⟩
  rw [ha, he, ht] at hz ⊢
  have h1 : x ≤ a ∧ a < x + 8 := by unfold al8 at ha; omega
  have h2 : e ≤ t ∧ t < e + 8 := by unfold al8 at ht; omega
  obtain ⟨b1, hb1⟩ : ∃ b, put bs x (List.replicate (a - x) 0) = b := ⟨_, rfl⟩
  have s1 : Same x a bs b1 := by
    have := put_same bs x (List.replicate (a - x) 0) (by rw [List.length_replicate]; omega)
    rw [hb1, List.length_replicate] at this
    exact this.wider (Nat.le_refl _) (by omega)
  rw [hb1]
  obtain ⟨b2, hb2⟩ : ∃ b, setv b1 a (cellv bs root) = b := ⟨_, rfl⟩
  have s2 : Same a (a + 8) b1 b2 := by rw [← hb2]; exact setv_same b1 a (cellv bs root)
  have v2 : Hid (cellv b2 a = cellv bs root) := Lib.hid (by rw [← hb2]; exact cellv_same _ _ _ (by rw [s1.1]; omega) (cellv_i64 _ _))
  rw [hb2]
  obtain ⟨b3, hb3⟩ : ∃ b, setv b2 (a + 8) (low.length + 256 * fl) = b := ⟨_, rfl⟩
  have s3 : Same (a + 8) (a + 8 + 8) b2 b3 := by rw [← hb3]; exact setv_same b2 (a + 8) (low.length + 256 * fl)
  have v3 : Hid (cellv b3 (a + 8) = low.length + 256 * fl) := Lib.hid (by rw [← hb3]; exact cellv_same _ _ _ (by rw [s2.1, s1.1]; omega) (by omega))
  rw [hb3]
  have l3 : b3.length = bs.length := by rw [s3.1, s2.1, s1.1]
  obtain ⟨b4, hb4⟩ : ∃ b, put b3 (a + 16) low = b := ⟨_, rfl⟩
  have s4 : Same (a + 16) e b3 b4 := by
    have := put_same b3 (a + 16) low (by rw [l3]; omega)
    rw [hb4, he] at this
    exact this
  have v4 : Hid (text b4 (a + 16) low.length = low) := Lib.hid (by rw [← hb4]; exact text_of_put _ _ _ (by rw [l3]; omega))
  rw [hb4]
  have l4 : b4.length = bs.length := by rw [s4.1, l3]
  obtain ⟨b5, hb5⟩ : ∃ b, put b4 e (List.replicate (t - e) 0) = b := ⟨_, rfl⟩
  have s5 : Same e t b4 b5 := by
    have := put_same b4 e (List.replicate (t - e) 0) (by rw [List.length_replicate, l4]; omega)
    rw [hb5, List.length_replicate] at this
    exact this.wider (Nat.le_refl _) (by omega)
  rw [hb5]
  have l5 : b5.length = bs.length := by rw [s5.1, l4]
  obtain ⟨b6, hb6⟩ : ∃ b, setv b5 t cd = b := ⟨_, rfl⟩
  have s6 : Same t (t + 8) b5 b6 := by rw [← hb6]; exact setv_same b5 t cd
  have v6 : Hid (cellv b6 t = cd) := Lib.hid (by rw [← hb6]; exact cellv_same _ _ _ (by rw [l5]; omega) hcd)
  rw [hb6]
  have l6 : b6.length = bs.length := by rw [s6.1, l5]
  have s7 : Same root (root + 8) b6 (setv b6 root a) := setv_same b6 root a
  have hA : -9223372036854775808 ≤ (a : Int) ∧ (a : Int) ≤ 9223372036854775807 := by omega
  have hB : root + 8 ≤ b6.length := by rw [l6]; omega
  have v7 := Lib.hid (cellv_same b6 root (a : Int) hB hA)
  obtain ⟨b7, hb7⟩ : ∃ b, setv b6 root a = b := ⟨_, rfl⟩
  rw [hb7] at s7 v7 ⊢
  refine ⟨by rw [s7.1, l6], fun i hi => ?_, ?_, ?_, ?_, ?_, v7.out⟩
  · rw [s7.2 i (by omega), s6.2 i (by omega), s5.2 i (by omega), s4.2 i (by omega), s3.2 i (by omega), s2.2 i (by omega), s1.2 i (by omega)]
  · rw [s7.cellv a (by omega), s6.cellv a (by omega), s5.cellv a (by omega), s4.cellv a (by omega), s3.cellv a (by omega), v2.out]
  · rw [s7.cellv (a + 8) (by omega), s6.cellv (a + 8) (by omega), s5.cellv (a + 8) (by omega), s4.cellv (a + 8) (by omega), v3.out]
  · rw [text_ext (bs := b4) (by rw [s7.1, l6, l4]) (by rw [l4]; omega) fun i hi => ?_, v4.out]
    rw [s7.2 _ (by omega), s6.2 _ (by omega), s5.2 _ (by omega)]
  · rw [s7.cellv t (by omega), v6.out]

/-- A read of the new word. -/
theorem HNew.read {bs cs : List UInt8} {x root at' xt : Nat} {low : List UInt8} {fl cd : Int} (h : HNew bs cs x root at' xt low fl cd) (h8 : at' % 8 = 0) (hl : low.length ≤ 31) (hx : xt = al8 (at' + 16 + low.length)) (hz : xt + 8 ≤ cs.length) (hfl : 0 ≤ fl ∧ fl ≤ 255) :
    hread cs at' = some (⟨at', xt, fl, low⟩, cellv bs root) := by
  have hx2 : xt % 8 = 0 ∧ at' + 16 + low.length ≤ xt := by unfold al8 at hx; omega
  have c1 : cell cs (at' : Int) = (cellv bs root, 0) := by
    unfold cell
    rw [if_pos (code_of (by omega) (by omega) (by omega)), Int.toNat_natCast, h.link]
  have c2 : cell cs ((at' : Int) + 8) = (low.length + 256 * fl, 0) := by
    unfold cell
    rw [if_pos (code_of (by omega) (by omega) (by omega)), show ((at' : Int) + 8).toNat = at' + 8 by omega, h.head]
  have e1 : ((low.length : Int) + 256 * fl) % 256 = low.length := by omega
  have e2 : ((low.length : Int) + 256 * fl) / 256 = fl := by omega
  have c3 : txt cs ((at' : Int) + 16) low.length = (low, 0) := by
    unfold txt
    rw [if_pos (by simp [has]; omega), show ((at' : Int) + 16).toNat = at' + 16 by omega, Int.toNat_natCast, h.name]
  have e3 : hxt (at' : Int) ((low.length : Int) + 256 * fl) = (xt : Int) := by
    unfold hxt
    rw [e1, hx]
    unfold al8
    omega
  have c4 : (cell cs (xt : Int)).2 = 0 := by
    unfold cell
    rw [if_pos (code_of (by omega) (by omega) (by omega))]
  unfold hread
  rw [c1, c2]
  dsimp only
  rw [e1, e2, e3, c3]
  rw [if_pos ⟨rfl, rfl, by omega, by omega, rfl, c4⟩]

/-- A read of a word that is wholly between the root and the new word. -/
theorem hread_same {bs cs : List UInt8} {lo hi : Nat} (hl : cs.length = bs.length) (h : ∀ i, lo ≤ i → i < hi → cs.getD i 0 = bs.getD i 0) {a : Int} {w : HW} {l : Int} (hr : hread bs a = some (w, l)) (h1 : (lo : Int) ≤ a) (h2 : w.xt + 8 ≤ hi) : hread cs a = some (w, l) := by
  unfold hread at hr
  split at hr
  · rename_i hc
    simp only [Option.some.injEq, Prod.mk.injEq] at hr
    obtain ⟨rfl, rfl⟩ := hr
    obtain ⟨g1, g2, g3, g4, g5, g6⟩ := hc
    dsimp only at h2
    have hx : a + 16 + (cell bs (a + 8)).1 % 256 ≤ hxt a (cell bs (a + 8)).1 := by unfold hxt; omega
    have k0 : ∀ b : Int, (lo : Int) ≤ b → b + 8 ≤ hi → cell cs b = cell bs b := fun b hb1 hb2 => by
      unfold cell
      rw [hl]
      by_cases hcd : code bs.length b = 0
      · rw [if_pos hcd, if_pos hcd]
        unfold cellv
        rw [rd_congr (bs := cs) (cs := bs) (b := b.toNat) 8 fun i hi' => h _ (by omega) (by omega)]
      · rw [if_neg hcd, if_neg hcd]
    have hm : (0 : Int) ≤ (cell bs (a + 8)).1 % 256 := by omega
    have k1 := k0 a h1 (by omega)
    have k2 := k0 (a + 8) (by omega) (by omega)
    have k4 := k0 (hxt a (cell bs (a + 8)).1) (by omega) (by omega)
    have k3 : txt cs (a + 16) ((cell bs (a + 8)).1 % 256) = txt bs (a + 16) ((cell bs (a + 8)).1 % 256) := by
      unfold txt
      rw [hl]
      by_cases hcd : has bs.length (a + 16) ((cell bs (a + 8)).1 % 256) = true
      · rw [if_pos hcd, if_pos hcd]
        simp [has] at hcd
        rw [text_ext hl (by omega) fun i hi' => h _ (by omega) (by omega)]
      · rw [if_neg hcd, if_neg hcd]
    unfold hread
    rw [k1, k2, k3, k4, if_pos ⟨g1, g2, g3, g4, g5, g6⟩]
  · cases hr

/-- Words that stand one behind the other, the last one first. -/
def Lnk (bs : List UInt8) (lo : Nat) : Int → Int → List HW → Prop
  | _, l, [] => l = 0
  | lim, l, w :: ws => l = w.a ∧ (lo : Int) ≤ w.a ∧ w.a < w.xt ∧ w.xt + 8 ≤ lim ∧ ∃ l', hread bs w.a = some (w, l') ∧ Lnk bs lo w.a l' ws
theorem Lnk.same {bs cs : List UInt8} {lo hi : Nat} (hl : cs.length = bs.length) (h : ∀ i, lo ≤ i → i < hi → cs.getD i 0 = bs.getD i 0) : ∀ {ws : List HW} {lim l : Int}, lim ≤ hi → Lnk bs lo lim l ws → Lnk cs lo lim l ws
  | [], _, _, _, h0 => h0
  | w :: ws, lim, l, hh, ⟨h1, h2, h2', h3, l', h4, h5⟩ => ⟨h1, h2, h2', h3, l', hread_same hl h h4 h2 (by omega), Lnk.same hl h (by omega) h5⟩
theorem Lnk.chain {bs : List UInt8} {lo : Nat} (hlo : 0 < lo) : ∀ {ws : List HW} {f : Nat} {lim l : Int}, lim ≤ (f : Int) → 0 ≤ lim → Lnk bs lo lim l ws → hchain bs (f + 1) lim l = ws
  | [], f, lim, l, hf, _, h0 => by
    unfold hchain
    rw [if_neg (by unfold Lnk at h0; omega)]
  | w :: ws, f, lim, l, hf, h0, ⟨h1, h2, h2', h3, l', h4, h5⟩ => by
    subst h1
    obtain ⟨f', rfl⟩ : ∃ f', f = f' + 1 := ⟨f - 1, by omega⟩
    rw [hchain, if_pos (by omega), h4]
    dsimp only
    rw [Lnk.chain hlo (by omega) (by omega) h5]
theorem Lnk.mono {bs : List UInt8} {lo : Nat} {ws : List HW} {lim lim' l : Int} (h : Lnk bs lo lim l ws) (hl : lim ≤ lim') : Lnk bs lo lim' l ws := by
  cases ws with
  | nil => exact h
  | cons w ws =>
    obtain ⟨h1, h2, h2', h3, l', h4, h5⟩ := h
    exact ⟨h1, h2, h2', by omega, l', h4, h5⟩
theorem Lnk.mem {bs : List UInt8} {lo : Nat} : ∀ {ws : List HW} {lim l : Int}, Lnk bs lo lim l ws → ∀ w ∈ ws, (lo : Int) ≤ w.a ∧ w.a < w.xt ∧ w.xt + 8 ≤ lim
  | [], _, _, _, w, hw => by simp at hw
  | v :: ws, lim, l, ⟨h1, h2, h2', h3, l', h4, h5⟩, w, hw => by
    rcases List.mem_cons.1 hw with rfl | hw
    · exact ⟨h2, h2', h3⟩
    · have := Lnk.mem h5 w hw
      omega

/-- A list of words, with the codes of their cells. -/
structure HD (bs : List UInt8) (x root : Nat) (ws : List (HW × Int)) : Prop where
  r8 : root % 8 = 0
  rx : root + 8 ≤ x
  xl : x ≤ bs.length
  big : bs.length ≤ 1048576
  lnk : Lnk bs (root + 8) x (cellv bs root) (ws.map (·.1))
  cds : ∀ w ∈ ws, 0 ≤ w.1.xt ∧ cellv bs w.1.xt.toNat = w.2
  c8 : ∀ w ∈ ws, w.1.xt % 8 = 0

theorem HD.root {bs : List UInt8} {x root : Nat} {ws : List (HW × Int)} (h : HD bs x root ws) : cell bs (root : Int) = (cellv bs root, 0) := by
  have h1 := h.r8
  have h2 := h.rx
  have h3 := h.xl
  unfold cell
  rw [if_pos (code_of (by omega) (by omega) (by omega)), Int.toNat_natCast]
theorem HD.words {bs : List UInt8} {x root : Nat} {ws : List (HW × Int)} (h : HD bs x root ws) : hwords bs (root : Int) = ws.map (·.1) := by
  unfold hwords
  rw [h.root]
  have h3 := h.xl
  exact Lnk.chain (by omega) (Int.le_refl _) (by omega) (h.lnk.mono (by omega))
theorem HD.code {bs : List UInt8} {x root : Nat} {ws : List (HW × Int)} (h : HD bs x root ws) {w : HW × Int} (hw : w ∈ ws) : cell bs w.1.xt = (w.2, 0) := by
  have h1 := h.cds w hw
  have h2 := h.c8 w hw
  have h3 := h.lnk.mem w.1 (List.mem_map_of_mem hw)
  have h4 := h.xl
  unfold cell
  rw [if_pos (code_of (by omega) (by omega) (by omega)), h1.2]

/-- A list behind writes elsewhere. -/
theorem HD.same {bs cs : List UInt8} {x x' root : Nat} {ws : List (HW × Int)} (h : HD bs x root ws) (hl : cs.length = bs.length) (hs : ∀ i, root ≤ i → i < x → cs.getD i 0 = bs.getD i 0) (hx : x ≤ x') (hx' : x' ≤ cs.length) : HD cs x' root ws := by
  have h1 := h.rx
  have h2 := h.xl
  have hr : cellv cs root = cellv bs root := by
    unfold cellv
    rw [rd_congr (bs := cs) (cs := bs) (b := root) 8 fun i hi => hs _ (by omega) (by omega)]
  refine ⟨h.r8, by omega, hx', by rw [hl]; exact h.big, ?_, fun w hw => ⟨(h.cds w hw).1, ?_⟩, h.c8⟩
  · rw [hr]
    exact (h.lnk.same (hi := x) hl (fun i hi1 hi2 => hs i (by omega) hi2) (Int.le_refl _)).mono (by omega)
  · have h3 := h.lnk.mem w.1 (List.mem_map_of_mem hw)
    rw [← (h.cds w hw).2]
    unfold cellv
    rw [rd_congr (bs := cs) (cs := bs) (b := w.1.xt.toNat) 8 fun i hi => hs _ (by omega) (by omega)]

/-- A list with a new word. -/
theorem HD.new {bs : List UInt8} {x root : Nat} {ws : List (HW × Int)} (h : HD bs x root ws) (low : List UInt8) (fl cd : Int) (hl : low.length ≤ 31) (hz : al8 (al8 x + 16 + low.length) + 8 ≤ bs.length) (hfl : 0 ≤ fl ∧ fl ≤ 255) (hcd : I64' cd) :
    HD (hput bs x root low fl cd) (al8 (al8 x + 16 + low.length) + 8) root ((⟨(al8 x : Nat), (al8 (al8 x + 16 + low.length) : Nat), fl, low⟩, cd) :: ws) := by
  have h1 := h.rx
  have h2 := h.xl
  have hn := hput_new bs x root low fl cd h1 hl hz h.big hfl hcd
  obtain ⟨cs, hcs⟩ : ∃ cs, hput bs x root low fl cd = cs := ⟨_, rfl⟩
  rw [hcs] at hn ⊢
  have hrd := hn.read (by unfold al8; omega) hl rfl (by rw [hn.len]; exact hz) hfl
  obtain ⟨a, ha⟩ : ∃ a, al8 x = a := ⟨_, rfl⟩
  rw [ha] at hn hrd hz ⊢
  obtain ⟨t, ht⟩ : ∃ t, al8 (a + 16 + low.length) = t := ⟨_, rfl⟩
  rw [ht] at hn hrd hz ⊢
  have ha1 : x ≤ a := by unfold al8 at ha; omega
  have ht1 : a + 16 + low.length ≤ t ∧ t % 8 = 0 := by unfold al8 at ht; omega
  have hold : ∀ i, root + 8 ≤ i → i < x → cs.getD i 0 = bs.getD i 0 := fun i hi1 hi2 => hn.old i (.inl ⟨hi2, .inr hi1⟩)
  refine ⟨h.r8, by omega, by rw [hn.len]; exact hz, by rw [hn.len]; exact h.big, ?_, fun w hw => ?_, fun w hw => ?_⟩
  · rw [hn.root]
    exact ⟨rfl, by show ((root + 8 : Nat) : Int) ≤ (a : Nat); omega, by show ((a : Nat) : Int) < (t : Nat); omega, by show ((t : Nat) : Int) + 8 ≤ ((t + 8 : Nat) : Int); omega, _, hrd, (h.lnk.same (hi := x) hn.len hold (Int.le_refl _)).mono (by show (x : Int) ≤ (a : Nat); omega)⟩
  · rcases List.mem_cons.1 hw with rfl | hw
    · exact ⟨by show (0 : Int) ≤ (t : Nat); omega, by show cellv cs ((t : Nat) : Int).toNat = cd; rw [Int.toNat_natCast]; exact hn.code⟩
    · have h3 := h.lnk.mem w.1 (List.mem_map_of_mem hw)
      refine ⟨(h.cds w hw).1, ?_⟩
      rw [← (h.cds w hw).2]
      unfold cellv
      rw [rd_congr (bs := cs) (cs := bs) (b := w.1.xt.toNat) 8 fun i hi => hold _ (by omega) (by omega)]
  · rcases List.mem_cons.1 hw with rfl | hw
    · show ((t : Nat) : Int) % 8 = 0
      omega
    · exact h.c8 w hw
end Go.Proofs.YthkmbnkkohomeaaGreatDoor.Mem

/- Contracts of packages mem and space: SetByte, Char, Align from anywhere. -/
namespace Go.Proofs.YthkmbnkkohomeaaGreatDoor.Mem
open Go.RowKit

/-- A number's lowest byte. -/
def byt (n : Int) : UInt8 := UInt8.ofNat (n % 256).toNat
theorem byt_wrap (n : Int) : Value.int .u8 (n % 256) = bv (byt n) := by
  unfold bv byt
  congr 1
  obtain ⟨k, hk⟩ : ∃ k : Nat, (n % 256).toNat = k := ⟨_, rfl⟩
  have h2 : k < 256 := by omega
  have h3 : n % 256 = k := by omega
  rw [hk, h3]
  simp
  omega
/-- What a store of a byte leaves. -/
def setb (bs : List UInt8) (x : Nat) (n : Int) : List UInt8 := bs.set x (byt n)
theorem setb_length (bs : List UInt8) (x : Nat) (n : Int) : (setb bs x n).length = bs.length := List.length_set

set_option maxRecDepth 100000 in
set_option maxHeartbeats 1000000 in
theorem setByte_ok (p g : Nat) (bs : List UInt8) (x : Nat) (n : Int) (w : World) (h : Mat 221 w p g bs) (hx : x < bs.length) :
    Calls Tryz.prog 210 #[.pointer (some ⟨p, 0, none⟩), .int .i64 x, .int .i64 n] w fun e w' => e = .returned (.int .i64 0) ∧ Mat 221 w' p g (setb bs x n) ∧ Only g w w' := by
  have hh := fun w h => has_any p g bs (x : Int) 1 w h (by omega) (by omega)
  have h1 : has bs.length (x : Int) 1 = true := by simp [has]; omega
  rw [h1] at hh
  have HH := Lib.hid hh
  have H := Lib.hid h
  have h0 := h.hd
  have hbl := h.2.2.2
  have hcell := h.at x hx
  have hfree := h.free x
  have HS := Lib.hid (h.set x (byt n))
  have hw := byt_wrap n
  obtain ⟨nb, hnn⟩ : ∃ nb, bs.length = nb := ⟨_, rfl⟩
  rw [hnn] at h0 hbl hx
  clear h hh h1 hnn
  have HW := Lib.hid hw
  clear hw
  go_enter Tryz.func210, Tryz.ntmps210
  go_wp2_with (go_at_call 297; refine (HH.out _ H.out).mono ?_; rintro e w' ⟨rfl, rfl⟩)
  go_ret
  rw [HW.out]
  exact ⟨rfl, HS.out, Fr.setOne (Fr.refl _ _) _ _⟩

set_option maxRecDepth 100000 in
set_option maxHeartbeats 1000000 in
theorem char1_ok (b p g a z x c1 c2 : Nat) (bs : List UInt8) (n : Int) (w : World) (h : Sat w b p g a z x bs) (hx : x < bs.length) (h1 : w.cell? ⟨c1, 0, none⟩ = some (.pointer (some ⟨b, 0, none⟩))) (h2 : w.cell? ⟨c2, 0, none⟩ = some (.int .i64 n)) :
    Calls Tryz.prog 318 #[.int .i64 x, .pointer (some ⟨c1, 0, none⟩), .pointer (some ⟨c2, 0, none⟩)] w fun e w' => e = .returned (.int .i64 0) ∧ Mat 221 w' p g (setb bs x n) ∧ Only g w w' := by
  obtain ⟨q0, _, _, _⟩ := h.cells
  have HC := Lib.hid (fun w h => setByte_ok p g bs x n w h hx)
  have HM := Lib.hid h.mat
  have hpg := h.mat.1
  have hbg := h.2.1
  have K := Lib.hid (And.intro h1 (And.intro h2 q0))
  clear h hx
  go_enter Tryz.func318, Tryz.ntmps318
  go_wp2
  go_region_with (go_at_call 210; refine (HC.out _ (Mat.drew HM.out)).mono ?_; rintro e w9 ⟨rfl, hm, hf⟩)
  all_goals
    go_wp2
    go_ret
    exact ⟨rfl, hm, Fr.undrew hf⟩
end Go.Proofs.YthkmbnkkohomeaaGreatDoor.Mem

/- Contracts of package space: Char, and Align from anywhere. -/
namespace Go.Proofs.YthkmbnkkohomeaaGreatDoor.Mem
open Go.RowKit

theorem ext_getD2 {l k : List UInt8} (hl : l.length = k.length) (h : ∀ i, i < k.length → l.getD i 0 = k.getD i 0) : l = k := by
  apply List.ext_getElem hl
  intro i h1 h2
  have := h i h2
  rw [List.getD_eq_getElem?_getD, List.getElem?_eq_getElem h1, List.getD_eq_getElem?_getD, List.getElem?_eq_getElem h2] at this
  simpa using this
theorem put_next (bs : List UInt8) (x k : Nat) (hk : x ≤ k) (hz : k < bs.length) : setb (put bs x (List.replicate (k - x) 0)) k 0 = put bs x (List.replicate (k + 1 - x) 0) := by
  have l1 : (put bs x (List.replicate (k - x) 0)).length = bs.length := put_length _ _ _ (by rw [List.length_replicate]; omega)
  have l2 : (put bs x (List.replicate (k + 1 - x) 0)).length = bs.length := put_length _ _ _ (by rw [List.length_replicate]; omega)
  have hr : ∀ n i : Nat, (List.replicate n (0 : UInt8)).getD i 0 = 0 := fun n i => by
    rw [List.getD_eq_getElem?_getD, List.getElem?_replicate]
    split <;> rfl
  apply ext_getD2 (by rw [setb_length, l1, l2])
  intro i hi
  rw [put_get _ _ _ (by rw [List.length_replicate]; omega), hr]
  unfold setb
  rw [List.getD_eq_getElem?_getD, List.getElem?_set]
  by_cases e : k = i
  · subst e
    rw [if_pos rfl, if_pos (by rw [l1]; omega), if_pos (by rw [List.length_replicate]; omega)]
    rfl
  · rw [if_neg e, ← List.getD_eq_getElem?_getD, put_get _ _ _ (by rw [List.length_replicate]; omega), hr]
    by_cases h1 : x ≤ i ∧ i < x + (k - x)
    · rw [if_pos (by rw [List.length_replicate]; omega), if_pos (by rw [List.length_replicate]; omega)]
    · rw [if_neg (by rw [List.length_replicate]; omega), if_neg (by rw [List.length_replicate]; omega)]
theorem put_none (bs : List UInt8) (x : Nat) : put bs x (List.replicate (x - x) 0) = bs := by simp [put]

set_option maxRecDepth 100000 in
set_option maxHeartbeats 1000000 in
theorem put_char (b p g a z x c1 c2 : Nat) (bs : List UInt8) (n : Int) (w : World) (h : Sat w b p g a z x bs) (hz : x + 1 ≤ z)
    (k1 : w.cell? ⟨c1, 0, none⟩ = some (.pointer (some ⟨b, 0, none⟩))) (k2 : w.cell? ⟨c2, 0, none⟩ = some (.int .i64 n)) :
    Calls Tryz.prog 240 #[.pointer (some ⟨b, 0, none⟩), .int .i64 1, .func (.func 318) #[] #[.pointer (some ⟨c1, 0, none⟩), .pointer (some ⟨c2, 0, none⟩)]] w
      fun e w' => e = .returned (.int .i64 0) ∧ Sat w' b p g a z (x + 1) (setb bs x n) ∧ Both b g w w' := by
  obtain ⟨h0, h1, h2, h3⟩ := h.cells
  have hb := h.bd
  have HC := Lib.hid (fun w h k1 k2 => char1_ok b p g a z x c1 c2 bs n w h (by omega) k1 k2)
  have HS := Lib.hid (fun n => (show Sat (w.drewN n) b p g a z x bs from h))
  have HK := Lib.hid (And.intro k1 k2)
  have hzz : (1 : Int) ≤ (z : Int) - (x : Int) := by omega
  have hbd : x ≤ 1048576 ∧ z ≤ 1048576 := by omega
  have HL := Lib.hid (setb_length bs x n)
  have HB := Lib.hid hb
  clear h hb k1 k2
  go_enter Tryz.func240, Tryz.ntmps240
  go_wp2
  go_quiet (fail)
  go_wp2_with (go_at_call 318; refine (HC.out _ (HS.out _) HK.out.1 HK.out.2).mono ?_; rintro e w' ⟨rfl, hm, hf⟩; have hS2 := (HS.out _).wrote hf hm HL.out; obtain ⟨q0, q1, q2, q3⟩ := hS2.cells; have q4 := hS2.free 3; have HS2 := Lib.hid hS2; have HF := Lib.hid hf; clear hS2 hm hf)
  go_ret
  refine ⟨rfl, HS2.out.move (x + 1) (by have := HB.out; omega) hz, ?_⟩
  refine Fr.setCell (S := fun j => j = b ∨ j = g) ?_ (.inr (.inl rfl)) _
  exact (Fr.drewN' _ HF.out).mono fun k _ e => .inr e

set_option maxRecDepth 100000 in
set_option maxHeartbeats 1000000 in
theorem char_ok (b p g a z x : Nat) (bs : List UInt8) (n : Int) (w : World) (h : Sat w b p g a z x bs) (hz : x + 1 ≤ z) :
    Calls Tryz.prog 214 #[.pointer (some ⟨b, 0, none⟩), .int .i64 n] w
      fun e w' => e = .returned (.int .i64 0) ∧ Sat w' b p g a z (x + 1) (setb bs x n) ∧ Both b g w w' := by
  have hmf : ∀ (fn : Fn) (first cap : Array Value) (w : World), (Instr.makeFunc fn first cap).run Tryz.prog w = .ok (.func fn first cap) w := fun _ _ _ _ => rfl
  have hF : Fr (fun _ => False) w ((w.alloc (.cells #[.pointer (some ⟨b, 0, none⟩)] 106)).alloc (.cells #[.int .i64 n] 2)) := ((Fr.refl _ _).alloc _).alloc _
  have hcl := two_new w (.pointer (some ⟨b, 0, none⟩)) (.int .i64 n) 106 2
  have HP := Lib.hid (put_char b p g a z x w.heap.size (w.heap.size + 1) bs n _ (h.fr hF id id id) hz hcl.1 hcl.2)
  have hc1 := hcl.1
  have HF := Lib.hid hF
  clear h hcl hF
  go_enter Tryz.func214, Tryz.ntmps214
  go_wp2_with (go_at_call 240; refine HP.out.mono ?_; rintro e w' ⟨rfl, hs, hf⟩)
  go_ret
  exact ⟨rfl, hs, Fr.trans (HF.out.mono fun _ _ e => e.elim) hf⟩

set_option maxRecDepth 100000 in
set_option maxHeartbeats 1000000 in
/-- Align where there is room. -/
theorem alignTo_ok (b p g a z x : Nat) (bs : List UInt8) (w : World) (h : Sat w b p g a z x bs) (hz : al8 x ≤ z) :
    Calls Tryz.prog 215 #[.pointer (some ⟨b, 0, none⟩)] w fun e w' => e = .returned (.int .i64 0) ∧ Sat w' b p g a z (al8 x) (put bs x (List.replicate (al8 x - x) 0)) ∧ Both b g w w' := by
  have H := Lib.hid h
  have hbd := h.bd
  obtain ⟨t, ht⟩ : ∃ t, al8 x = t := ⟨_, rfl⟩
  rw [ht] at hz ⊢
  have ht8 : t % 8 = 0 ∧ x ≤ t ∧ t < x + 8 := by unfold al8 at ht; omega
  obtain ⟨nb, hnn⟩ : ∃ nb, bs.length = nb := ⟨_, rfl⟩
  rw [hnn] at hbd
  have HNN := Lib.hid hnn
  clear h ht hnn
  go_enter Tryz.func215, Tryz.ntmps215
  go_wp2
  go_loopw [2] (fun v wr => v = .int .i64 0 ∧ ∃ k : Nat, x ≤ k ∧ k ≤ t ∧ (wr.cell? ⟨b, 3, none⟩ = some (.int .i64 k)) ∧ Sat wr b p g a z k (put bs x (List.replicate (k - x) 0)) ∧ Both b g w wr) (fun _ wr => match wr.cell? ⟨b, 3, none⟩ with | some v => t - (intOf v).toNat | none => 0)
  case atStart => exact ⟨rfl, x, Nat.le_refl _, ht8.2.1, H.out.cells.2.2.2, by rw [put_none]; exact H.out, Fr.refl _ _⟩
  case round =>
    obtain ⟨rfl, k, hk1, hk2, hc, hS, hF⟩ := hrel
    have HS := Lib.hid hS
    have HF := Lib.hid hF
    have HC := Lib.hid hc
    have HH := Lib.hid (here_any b p g a z k _ wr hS)
    clear hS hF hc
    by_cases hkt : k = t
    · subst hkt
      have h8' : ((k : Int) % 8 != 0) = false := by
        have : (k : Int) % 8 = 0 := by omega
        simp [this]
      go_wp2_with (go_at_call 61; refine HH.out.mono ?_; rintro e w' ⟨rfl, rfl⟩)
      go_ret
      exact ⟨rfl, HS.out, HF.out⟩
    · have h8' : ((k : Int) % 8 != 0) = true := by
        have : ¬ (k : Int) % 8 = 0 := by omega
        simp [this]
      have hch := char_ok b p g a z k _ 0 wr HS.out (by omega)
      rw [put_next bs x k hk1 (by have := HNN.out; omega)] at hch
      have HCH := Lib.hid hch
      clear hch
      go_wp2_with (first | (go_at_call 61; refine HH.out.mono ?_; rintro e w' ⟨rfl, h0⟩; obtain rfl := h0.symm) | (go_at_call 214; refine HCH.out.mono ?_; rintro e w9 ⟨rfl, hs9, hf9⟩))
      go_roundw
      case rel => exact ⟨rfl, k + 1, by omega, by omega, hs9.cells.2.2.2, hs9, HF.out.trans hf9⟩
      case measure =>
        rw [hs9.cells.2.2.2, HC.out]
        simp only [intOf]
        omega
end Go.Proofs.YthkmbnkkohomeaaGreatDoor.Mem
