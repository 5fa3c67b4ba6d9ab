/- Contracts of package head: Create where there is room. -/
import Derived.Test.YthkmbnkkohomeaaGreatDoorSwam
set_option linter.unusedSimpArgs false
set_option linter.unusedVariables false

namespace Go.Proofs.YthkmbnkkohomeaaGreatDoor.Mem
open Go.RowKit

theorem four_new (w : World) (u0 u1 u2 u3 : Value) (t0 t1 t2 t3 : TypeId) (row : Obj) :
    let W := ((((w.alloc (.cells #[u0] t0)).alloc (.cells #[u1] t1)).alloc (.cells #[u2] t2)).alloc (.cells #[u3] t3)).alloc row
    W.heap[w.heap.size]? = some (.cells #[u0] t0) ∧ W.heap[w.heap.size + 1]? = some (.cells #[u1] t1) ∧ W.heap[w.heap.size + 2]? = some (.cells #[u2] t2) ∧ W.heap[w.heap.size + 3]? = some (.cells #[u3] t3) ∧ W.heap[w.heap.size + 4]? = some row ∧ W.heap.size = w.heap.size + 5 := by
  have s1 : (w.alloc (.cells #[u0] t0)).heap.size = w.heap.size + 1 := by simp
  have s2 : ((w.alloc (.cells #[u0] t0)).alloc (.cells #[u1] t1)).heap.size = w.heap.size + 2 := by simp
  have s3 : (((w.alloc (.cells #[u0] t0)).alloc (.cells #[u1] t1)).alloc (.cells #[u2] t2)).heap.size = w.heap.size + 3 := by simp
  have s4 : ((((w.alloc (.cells #[u0] t0)).alloc (.cells #[u1] t1)).alloc (.cells #[u2] t2)).alloc (.cells #[u3] t3)).heap.size = w.heap.size + 4 := by simp
  have k0 := heap_alloc_last w (.cells #[u0] t0)
  have k1 := heap_alloc_last (w.alloc (.cells #[u0] t0)) (.cells #[u1] t1)
  have k2 := heap_alloc_last ((w.alloc (.cells #[u0] t0)).alloc (.cells #[u1] t1)) (.cells #[u2] t2)
  have k3 := heap_alloc_last (((w.alloc (.cells #[u0] t0)).alloc (.cells #[u1] t1)).alloc (.cells #[u2] t2)) (.cells #[u3] t3)
  have k4 := heap_alloc_last ((((w.alloc (.cells #[u0] t0)).alloc (.cells #[u1] t1)).alloc (.cells #[u2] t2)).alloc (.cells #[u3] t3)) row
  rw [s1] at k1
  rw [s2] at k2
  rw [s3] at k3
  rw [s4] at k4
  have up : ∀ {w : World} {i : Nat} {o : Obj} (o' : Obj), i < w.heap.size → w.heap[i]? = some o → (w.alloc o').heap[i]? = some o := fun o' hi h => (Below.heap_alloc _ _ _ hi).trans h
  exact ⟨up _ (by omega) (up _ (by omega) (up _ (by omega) (up _ (by omega) k0))), up _ (by omega) (up _ (by omega) (up _ (by omega) k1)), up _ (by omega) (up _ (by omega) k2), up _ (by omega) k3, k4, by simp⟩

set_option maxRecDepth 100000 in
set_option maxHeartbeats 2000000 in
theorem puts_new (b wb : Nat) (L cd : Int) (w : World) :
    Calls Tryz.prog 243 #[.pointer (some ⟨b, 0, none⟩), .pointer (some ⟨wb, 0, none⟩), .int .i64 L, .int .i64 cd] w
      fun e w' => e = .returned (.slice (some ⟨w.heap.size + 4, 0, none⟩) 6 6) ∧
        w' = ((((w.alloc (.cells #[.pointer (some ⟨b, 0, none⟩)] 106)).alloc (.cells #[.pointer (some ⟨wb, 0, none⟩)] 102)).alloc (.cells #[.int .i64 L] 2)).alloc (.cells #[.int .i64 cd] 2)).alloc
          (.cells #[.func (.func 215) #[.pointer (some ⟨b, 0, none⟩)] #[],
            .func (.func 331) #[] #[.pointer (some ⟨w.heap.size, 0, none⟩), .pointer (some ⟨w.heap.size + 1, 0, none⟩), .pointer (some ⟨w.heap.size + 2, 0, none⟩)],
            .func (.func 332) #[] #[.pointer (some ⟨w.heap.size, 0, none⟩), .pointer (some ⟨w.heap.size + 1, 0, none⟩)],
            .func (.func 333) #[] #[.pointer (some ⟨w.heap.size, 0, none⟩), .pointer (some ⟨w.heap.size + 1, 0, none⟩)],
            .func (.func 215) #[.pointer (some ⟨b, 0, none⟩)] #[],
            .func (.func 335) #[] #[.pointer (some ⟨w.heap.size, 0, none⟩), .pointer (some ⟨w.heap.size + 1, 0, none⟩), .pointer (some ⟨w.heap.size + 3, 0, none⟩)]] 155) := by
  have hmf : ∀ (fn : Fn) (first cap : Array Value) (w : World), (Instr.makeFunc fn first cap).run Tryz.prog w = .ok (.func fn first cap) w := fun _ _ _ _ => rfl
  go_enter Tryz.func243, Tryz.ntmps243
  go_wp2_with fail
  go_ret
  exact ⟨rfl, rfl⟩
theorem results_cell1 {P : Program} {fn : Func} {p u : Tmp} {ty : TypeId} (h : fn.results = #[.cell p ty, .tmp u]) (tmps : Array Value) (w : World) (g : Nat) (t : TypeId) (cs : Array Value) (fr : Nat × Nat) (d : TypeDesc)
    (hp : tmps.getD p undef = .pointer (some ⟨g, 0, none⟩)) (hg : w.heap[g]? = some (.cells cs t fr))
    (hu : P.underlying ty = some d) (hd : (match d with | .struct _ | .array _ _ => true | _ => false) = true) (hi : (P.info? ty).map (·.size) = some cs.size) :
    (results fn tmps).run P w = .ok (.tuple #[.agg cs, tmps.getD u undef]) w := by
  have hp' : tmps[p]?.getD undef = .pointer (some ⟨g, 0, none⟩) := by simpa using hp
  simp [results, h, hp', asAddr, run_loadVar_row w g t ty cs fr d hg hu hd hi]

/-- Where a new word's parts go: so many of them put. -/
def hpos (x len : Nat) : Nat → Nat
  | 0 => x
  | 1 => al8 x
  | 2 => al8 x + 8
  | 3 => al8 x + 16
  | 4 => al8 x + 16 + len
  | 5 => al8 (al8 x + 16 + len)
  | _ => al8 (al8 x + 16 + len) + 8
def hmem (bs : List UInt8) (x root : Nat) (low : List UInt8) (fl cd : Int) : Nat → List UInt8
  | 0 => bs
  | 1 => put bs x (List.replicate (al8 x - x) 0)
  | 2 => setv (hmem bs x root low fl cd 1) (al8 x) (cellv bs root)
  | 3 => setv (hmem bs x root low fl cd 2) (al8 x + 8) (low.length + 256 * fl)
  | 4 => put (hmem bs x root low fl cd 3) (al8 x + 16) low
  | 5 => put (hmem bs x root low fl cd 4) (al8 x + 16 + low.length) (List.replicate (al8 (al8 x + 16 + low.length) - (al8 x + 16 + low.length)) 0)
  | 6 => setv (hmem bs x root low fl cd 5) (al8 (al8 x + 16 + low.length)) cd
  | _ + 7 => []
theorem hput_mem (bs : List UInt8) (x root : Nat) (low : List UInt8) (fl cd : Int) : setv (hmem bs x root low fl cd 6) root (al8 x) = hput bs x root low fl cd := by simp only [hmem, hput]
theorem al8_8 (x : Nat) : al8 x % 8 = 0 ∧ x ≤ al8 x ∧ al8 x < x + 8 := by unfold al8; omega

set_option maxRecDepth 100000 in
set_option maxHeartbeats 8000000 in
theorem create_ok (b p g a z x root : Nat) (bs : List UInt8) (nm : ByteArray) (fl cd : Int) (w : World) (h : Sat w b p g a z x bs) (hr : root + 8 ≤ x) (hr8 : root % 8 = 0) (hn0 : nm.toList ≠ []) (hn : nm.size ≤ 31) (hz : al8 (al8 x + 16 + nm.size) + 8 ≤ z) (hfl : 0 ≤ fl ∧ fl ≤ 255) :
    Calls Tryz.prog 127 #[.pointer (some ⟨b, 0, none⟩), .int .i64 root, .string nm, .int .i64 fl, .int .i64 cd] w
      fun e w' => e = .returned (.tuple #[.agg #[.int .i64 (al8 x : Nat), .int .i64 (al8 (al8 x + 16 + nm.size) : Nat), .int .i64 fl, .string ⟨(lower nm.data.toList).toArray⟩], .int .i64 0]) ∧
        Sat w' b p g a z (al8 (al8 x + 16 + nm.size) + 8) (hput bs x root (lower nm.data.toList) fl cd) ∧ Both b g w w' := by
  have hlow : (lower nm.data.toList).length = nm.size := by simp [lower]
  obtain ⟨low, hlo⟩ : ∃ l, lower nm.data.toList = l := ⟨_, rfl⟩
  have HL := Lib.hid (fun W => lower_any nm W (by omega))
  rw [hlo] at hlow
  simp only [hlo] at HL ⊢
  rw [← hlow] at hz ⊢
  have hbd := h.bd
  have hcell : cell bs (root : Int) = (cellv bs root, 0) := by
    unfold cell
    rw [if_pos (code_of (by omega) (by omega) (by omega)), Int.toNat_natCast]
  have HC := Lib.hid (fun (W : World) (hW : Sat W b p g a z x bs) => (by
    have h := cell_any p g bs (root : Int) W hW.mat
    rw [hcell] at h
    exact h : Calls Tryz.prog 100 #[.pointer (some ⟨p, 0, none⟩), .int .i64 (root : Int)] W fun e w' => e = .returned (.tuple #[.int .i64 (cellv bs root), .int .i64 0]) ∧ w' = W))
  have HH := Lib.hid (fun W (hW : Sat W b p g a z x bs) => here_any b p g a z x bs W hW)
  obtain ⟨L, hL⟩ : ∃ L, cellv bs root = L := ⟨_, rfl⟩
  rw [hL] at HC
  have HLL := Lib.hid hL
  have HP := Lib.hid (fun wb W => puts_new b wb L cd W)
  have HS := Lib.hid h
  have hne : ¬ nm.toList = [] := hn0
  have hne' : nm.toList.isEmpty = false := by simpa using hn0
  have hn31 : ¬ (31 : Int) < (nm.size : Int) := by omega
  have hA := heap_alloc_last w (.cells #[.int .i64 0, .int .i64 0, .int .i64 0, .string ⟨#[]⟩] 101)
  have HA := Lib.hid hA
  obtain ⟨W0, hW0⟩ : ∃ W0, w.alloc (.cells #[.int .i64 0, .int .i64 0, .int .i64 0, .string ⟨#[]⟩] 101) = W0 := ⟨_, rfl⟩
  have hf0 : Fr (fun _ => False) w W0 := hW0 ▸ (Fr.refl _ _).alloc _
  have hs0 := h.fr hf0 id id id
  obtain ⟨q0, q1, q2, q3⟩ := hs0.cells
  have HS0 := Lib.hid hs0
  have HSw := Lib.hid h
  have HF0 := Lib.hid hf0
  clear h hA hs0 hf0
  go_enter Tryz.func127, Tryz.ntmps127
  go_wp2_with (first
    | (go_at_call 100; refine (HC.out _ HS0.out).mono ?_; rintro e w9 ⟨rfl, h0⟩; obtain rfl := h0.symm)
    | (go_at_call 61; refine (HH.out _ HS0.out).mono ?_; rintro e w9 ⟨rfl, h0⟩; obtain rfl := h0.symm)
    | (go_at_call 92; refine (HL.out _).mono ?_; rintro e w1 ⟨rfl, hf1⟩)
    | (go_at_call 243; refine (HP.out _ _).mono ?_; rintro e w2 ⟨rfl, hw2⟩; have HW2 := Lib.hid hw2; clear hw2))
  obtain ⟨W1, hW1⟩ : ∃ W1, w1.alloc (.cells #[.int .i64 0, .int .i64 0, .int .i64 fl, .string ⟨low.toArray⟩] 101) = W1 := ⟨_, rfl⟩
  obtain ⟨wb, hwb⟩ : ∃ n, w1.heap.size = n := ⟨_, rfl⟩
  have hs1 : W1.heap.size = wb + 1 := by rw [← hW1, ← hwb]; simp
  have hw2 := HW2.out
  rw [hW1] at hw2
  rw [hwb] at hw2
  simp only [hW1, hwb]
  have hf1' := (HF0.out.trans hf1)
  have hsw1 := hf1'.size
  have hsw0 : w.heap.size + 1 ≤ wb := by
    have h9 := hf1.size
    rw [← hW0, hwb] at h9
    simpa using h9
  obtain ⟨lb, lp, lg⟩ := HS0.out.lt
  obtain ⟨lb', lp', lg'⟩ := HSw.out.lt
  obtain ⟨n0, n1, n2, n3, n4, n5⟩ := four_new W1 (.pointer (some ⟨b, 0, none⟩)) (.pointer (some ⟨wb, 0, none⟩)) (.int .i64 L) (.int .i64 cd) 106 102 2 2 _
  rw [← hw2] at n0 n1 n2 n3 n4 n5
  have hfw2 : Fr (fun _ => False) W1 w2 := by rw [hw2]; exact ((((((Fr.refl _ _).alloc _).alloc _).alloc _).alloc _).alloc _)
  have hfW1 : Fr (fun _ => False) w1 W1 := hW1 ▸ (Fr.refl _ _).alloc _
  have hwrd : Wrd w2 wb 0 0 fl low := hfw2.obj (by rw [← hW1, ← hwb]; exact heap_alloc_last w1 _) id
  have hsat2 := HSw.out.fr ((hf1'.trans hfW1).trans hfw2) id id id
  have HFw2 := Lib.hid ((hf1'.trans hfW1).trans hfw2)
  have r0 := cell_of_row w2 _ 0 _ _ _ n4
  have r1 := cell_of_row w2 _ 1 _ _ _ n4
  have r2 := cell_of_row w2 _ 2 _ _ _ n4
  have r3 := cell_of_row w2 _ 3 _ _ _ n4
  have r4 := cell_of_row w2 _ 4 _ _ _ n4
  have r5 := cell_of_row w2 _ 5 _ _ _ n4
  have k0 := cell_of_one n0
  have k1 := cell_of_one n1
  have k2 := cell_of_one n2
  have k3 := cell_of_one n3
  rw [hs1] at r0 r1 r2 r3 r4 r5 k0 k1 k2 k3 n5
  have hA0 := HA.out
  rw [hW0] at hA0
  have HA2 := Lib.hid (hfw2.obj (hfW1.obj (hf1.obj hA0 id) id) id)
  clear hA0
  have HW := Lib.hid hwrd
  have HS2 := Lib.hid hsat2
  have R := Lib.hid (And.intro r0 (And.intro r1 (And.intro r2 (And.intro r3 (And.intro r4 r5)))))
  have KK := Lib.hid (And.intro k0 (And.intro k1 (And.intro k2 k3)))
  have z1 := al8_8 x
  have z2 := al8_8 (al8 x + 16 + low.length)
  clear n0 n1 n2 n3 n4 r0 r1 r2 r3 r4 r5 k0 k1 k2 k3 hw2 hwrd hsat2 hf1' hfw2 hfW1 hf1 hW1 HW2
  go_loopw [54] (fun iv wr => ∃ k : Nat, k ≤ 6 ∧ iv = .int .i64 k ∧ Sat wr b p g a z (hpos x low.length k) (hmem bs x root low fl cd k) ∧ Wrd wr wb (if 2 ≤ k then (al8 x : Int) else 0) (if 6 ≤ k then (al8 (al8 x + 16 + low.length) : Int) else 0) fl low ∧ Three b g wb w2 wr) (fun iv _ => 6 - (intOf iv).toNat)
  case atStart => exact ⟨0, Nat.zero_le _, rfl, by simp only [hpos, hmem]; exact HS2.out, by rw [if_neg (by omega), if_neg (by omega)]; exact HW.out, Fr.refl _ _⟩
  case round =>
    obtain ⟨k, hk, hiv, hS, hW, hF⟩ := hrel
    by_cases hlt : k < 6
    · have y0 := hF.cell KK.out.1 (fun e => by rcases e with e | e | e <;> dsimp only at e <;> omega)
      have y1 := hF.cell KK.out.2.1 (fun e => by rcases e with e | e | e <;> dsimp only at e <;> omega)
      have y2 := hF.cell KK.out.2.2.1 (fun e => by rcases e with e | e | e <;> dsimp only at e <;> omega)
      have y3 := hF.cell KK.out.2.2.2 (fun e => by rcases e with e | e | e <;> dsimp only at e <;> omega)
      have HF1 := Lib.hid hF
      have hLL := HLL.out
      rcases (by omega : k = 0 ∨ k = 1 ∨ k = 2 ∨ k = 3 ∨ k = 4 ∨ k = 5) with rfl | rfl | rfl | rfl | rfl | rfl
      · subst hiv
        have e0 : wr.cell? ⟨wb + 1 + 4, 0, none⟩ = some (.func (.func 215) #[.pointer (some ⟨b, 0, none⟩)] #[]) := hF.cell (by simpa using R.out.1) (fun e => by rcases e with e | e | e <;> dsimp only at e <;> omega)
        simp only [hpos, hmem] at hS
        try rw [if_neg (by omega), if_neg (by omega)] at hW
        have HK := Lib.hid (alignTo_ok b p g a z x bs wr hS (by omega))
        clear hS y0 y1 y2 y3 hF
        go_wp2_with (go_at_call 215; refine HK.out.mono ?_; rintro e w3 ⟨rfl, hs3, hf3⟩; have hw3 := hW.after hf3 (by omega) (by omega))
        go_roundw
        case rel =>
          refine ⟨1, by omega, by go_num, ?_, ?_, HF1.out.trans (hf3.mono fun _ _ e => e.elim .inl fun e => .inr (.inl e))⟩
          · simp only [hpos, hmem]
            exact hs3
          · rw [if_neg (by omega), if_neg (by omega)]
            exact hw3
        case measure => simp [intOf]
      · subst hiv
        have e1 : wr.cell? ⟨wb + 1 + 4, 1, none⟩ = some (.func (.func 331) #[] #[.pointer (some ⟨wb + 1, 0, none⟩), .pointer (some ⟨wb + 1 + 1, 0, none⟩), .pointer (some ⟨wb + 1 + 2, 0, none⟩)]) := hF.cell (by simpa using R.out.2.1) (fun e => by rcases e with e | e | e <;> dsimp only at e <;> omega)
        simp only [hpos, hmem] at hS
        try rw [if_neg (by omega), if_neg (by omega)] at hW
        have HK := Lib.hid (puts1_ok b p g a z (al8 x) wb (wb + 1) (wb + 1 + 1) (wb + 1 + 2) _ _ _ L low _ wr hS (by omega) (by omega) hW ⟨y0, y1, y2, by omega, by omega, by omega, by omega⟩)
        clear hS y0 y1 y2 y3 hF
        go_wp2_with (go_at_call 331; refine HK.out.mono ?_; rintro e w3 ⟨rfl, hs3, hw3, hf3⟩)
        go_roundw
        case rel =>
          refine ⟨2, by omega, by go_num, ?_, ?_, HF1.out.trans hf3⟩
          · simp only [hpos, hmem]
            rw [hLL]
            exact hs3
          · rw [if_pos (by omega), if_neg (by omega)]
            exact hw3
        case measure => simp [intOf]
      · subst hiv
        have e2 : wr.cell? ⟨wb + 1 + 4, 2, none⟩ = some (.func (.func 332) #[] #[.pointer (some ⟨wb + 1, 0, none⟩), .pointer (some ⟨wb + 1 + 1, 0, none⟩)]) := hF.cell (by simpa using R.out.2.2.1) (fun e => by rcases e with e | e | e <;> dsimp only at e <;> omega)
        simp only [hpos, hmem] at hS
        try rw [if_pos (by omega), if_neg (by omega)] at hW
        have HK := Lib.hid (puts2_ok b p g a z (al8 x + 8) wb (wb + 1) (wb + 1 + 1) _ _ _ low _ wr hS (by omega) (by omega) hW hfl (by omega) ⟨y0, y1⟩)
        clear hS y0 y1 y2 y3 hF
        go_wp2_with (go_at_call 332; refine HK.out.mono ?_; rintro e w3 ⟨rfl, hs3, hf3⟩; have hw3 := hW.after hf3 (by omega) (by omega))
        go_roundw
        case rel =>
          refine ⟨3, by omega, by go_num, ?_, ?_, HF1.out.trans (hf3.mono fun _ _ e => e.elim .inl fun e => .inr (.inl e))⟩
          · simp only [hpos, hmem]
            exact hs3
          · rw [if_pos (by omega), if_neg (by omega)]
            exact hw3
        case measure => simp [intOf]
      · subst hiv
        have e3 : wr.cell? ⟨wb + 1 + 4, 3, none⟩ = some (.func (.func 333) #[] #[.pointer (some ⟨wb + 1, 0, none⟩), .pointer (some ⟨wb + 1 + 1, 0, none⟩)]) := hF.cell (by simpa using R.out.2.2.2.1) (fun e => by rcases e with e | e | e <;> dsimp only at e <;> omega)
        simp only [hpos, hmem] at hS
        try rw [if_pos (by omega), if_neg (by omega)] at hW
        have HK := Lib.hid (puts3_ok b p g a z (al8 x + 16) wb (wb + 1) (wb + 1 + 1) _ _ _ low _ wr hS (by omega) hW ⟨y0, y1⟩)
        clear hS y0 y1 y2 y3 hF
        go_wp2_with (go_at_call 333; refine HK.out.mono ?_; rintro e w3 ⟨rfl, hs3, hf3⟩; have hw3 := hW.after hf3 (by omega) (by omega))
        go_roundw
        case rel =>
          refine ⟨4, by omega, by go_num, ?_, ?_, HF1.out.trans (hf3.mono fun _ _ e => e.elim .inl fun e => .inr (.inl e))⟩
          · simp only [hpos, hmem]
            exact hs3
          · rw [if_pos (by omega), if_neg (by omega)]
            exact hw3
        case measure => simp [intOf]
      · subst hiv
        have e4 : wr.cell? ⟨wb + 1 + 4, 4, none⟩ = some (.func (.func 215) #[.pointer (some ⟨b, 0, none⟩)] #[]) := hF.cell (by simpa using R.out.2.2.2.2.1) (fun e => by rcases e with e | e | e <;> dsimp only at e <;> omega)
        simp only [hpos, hmem] at hS
        try rw [if_pos (by omega), if_neg (by omega)] at hW
        have HK := Lib.hid (alignTo_ok b p g a z (al8 x + 16 + low.length) _ wr hS (by omega))
        clear hS y0 y1 y2 y3 hF
        go_wp2_with (go_at_call 215; refine HK.out.mono ?_; rintro e w3 ⟨rfl, hs3, hf3⟩; have hw3 := hW.after hf3 (by omega) (by omega))
        go_roundw
        case rel =>
          refine ⟨5, by omega, by go_num, ?_, ?_, HF1.out.trans (hf3.mono fun _ _ e => e.elim .inl fun e => .inr (.inl e))⟩
          · simp only [hpos, hmem]
            exact hs3
          · rw [if_pos (by omega), if_neg (by omega)]
            exact hw3
        case measure => simp [intOf]
      · subst hiv
        have e5 : wr.cell? ⟨wb + 1 + 4, 5, none⟩ = some (.func (.func 335) #[] #[.pointer (some ⟨wb + 1, 0, none⟩), .pointer (some ⟨wb + 1 + 1, 0, none⟩), .pointer (some ⟨wb + 1 + 3, 0, none⟩)]) := hF.cell (by simpa using R.out.2.2.2.2.2) (fun e => by rcases e with e | e | e <;> dsimp only at e <;> omega)
        simp only [hpos, hmem] at hS
        try rw [if_pos (by omega), if_neg (by omega)] at hW
        have HK := Lib.hid (puts4_ok b p g a z (al8 (al8 x + 16 + low.length)) wb (wb + 1) (wb + 1 + 1) (wb + 1 + 3) _ _ _ cd low _ wr hS (by omega) (by omega) hW ⟨y0, y1, y3, by omega, by omega, by omega, by omega⟩)
        clear hS y0 y1 y2 y3 hF
        go_wp2_with (go_at_call 335; refine HK.out.mono ?_; rintro e w3 ⟨rfl, hs3, hw3, hf3⟩)
        go_roundw
        case rel =>
          refine ⟨6, by omega, by go_num, ?_, ?_, HF1.out.trans hf3⟩
          · simp only [hpos, hmem]
            exact hs3
          · rw [if_pos (by omega), if_pos (by omega)]
            exact hw3
        case measure => simp [intOf]
    · obtain rfl : k = 6 := by omega
      subst hiv
      have hbd6 := hS.bd
      obtain ⟨M, hM⟩ : ∃ M, hmem bs x root low fl cd 6 = M := ⟨_, rfl⟩
      rw [hM] at hS hbd6
      rw [if_pos (by omega), if_pos (by omega)] at hW
      have hset := fun W hW => setCell_any p g M (root : Int) (al8 x : Nat) W hW
      have hcd : code M.length (root : Int) = 0 := code_of (by omega) (by omega) (by omega)
      have hsv : setc M (root : Int) (al8 x : Nat) = setv M root (al8 x : Nat) := by
        unfold setc
        rw [if_pos hcd, Int.toNat_natCast]
      rw [hcd, hsv] at hset
      have HSET := Lib.hid hset
      obtain ⟨g0, g1, g2, g3⟩ := hS.cells
      obtain ⟨v0, v1, v2, v3, _⟩ := four_cells hW
      have hA6 := hF.obj HA2.out (fun e => by rcases e with e | e | e <;> omega)
      have HS6 := Lib.hid hS
      have HW6 := Lib.hid hW
      have HA6 := Lib.hid hA6
      have HF6 := Lib.hid hF
      have HM6 := Lib.hid hM
      clear hS hW hF hset hcd hsv hA6 hM
      go_wp2_with fail
      go_still_tail 7, (by kernel_rfl)
      change wpList _ _ _ _ _ wr.drew
      go_wp2_with (go_at_call 93; refine (HSET.out _ (Mat.drew HS6.out.mat)).mono ?_; rintro e w4 ⟨rfl, hm4, hf4⟩; have hf4' := Fr.undrew hf4; have hW4 := HW6.out.fr hf4' (by omega); have hA4 := hf4'.obj HA6.out (by omega); obtain ⟨u0, u1, u2, u3, _⟩ := four_cells hW4; obtain ⟨s0, s1, s2, s3, _⟩ := four_cells hA4; have f0 := frozen_of_row w4 w.heap.size 0 _ _ hA4; have f1 := frozen_of_row w4 w.heap.size 1 _ _ hA4; have f2 := frozen_of_row w4 w.heap.size 2 _ _ hA4; have f3 := frozen_of_row w4 w.heap.size 3 _ _ hA4; have HA7 := Lib.hid hA4; have HM4 := Lib.hid (HS6.out.wrote hf4' hm4 (setv_length _ _ _)); have HF7 := Lib.hid hf4'; clear hA4 hW4 hm4 hf4 hf4')
      have hS4 := HM4.out
      rw [← HM6.out, hput_mem] at hS4
      simp only [hpos] at hS4
      have FE := ((((Fr.refl (fun j => j = w.heap.size) w4).setOne 0 (.int .i64 (al8 x : Nat))).setOne 1 (.int .i64 (al8 (al8 x + 16 + nm.size) : Nat))).setOne 2 (.int .i64 fl)).setOne 3 (.string ⟨low.toArray⟩)
      have F1 : Both b g w wr := Fr.after (HFw2.out.mono fun _ _ e => e.elim) HF6.out (fun k hk e => by rcases e with e | e | e <;> omega)
      have F2 : Both b g w w4 := Fr.after F1 HF7.out (fun k hk e => .inr e)
      have F3 := Fr.after F2 FE (fun k hk e => by omega)
      rw [hlow] at hS4 ⊢
      exact bodyPost_ret (results_cell1 rfl _ _ w.heap.size 101 _ (0, 0) _ rfl (four_set HA7.out _ _ _ _) Tryz.underlying101 rfl (by kernel_rfl)) rfl ⟨rfl, hS4.fr FE (by omega) (by omega) (by omega), F3⟩
end Go.Proofs.YthkmbnkkohomeaaGreatDoor.Mem
