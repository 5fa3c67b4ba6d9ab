/- The law ScriptParses. -/
import Derived.Test.YthkmbnkkohomeaaGreatDoorPwad
import Derived.Test.YthkmbnkkohomeaaGreatDoorSwbk
set_option linter.unusedSimpArgs false
set_option linter.unusedVariables false

namespace Go.Proofs.YthkmbnkkohomeaaGreatDoor.Mem
open Go.RowKit Go.Maps

theorem parseB_two : ∀ (k : Nat) (s : Scr) (n : Nat) (l : List UInt8), 1 ≤ n → (parseB k s n l).2 = 0 ∨ (parseB k s n l).1 = scrZ ∧ 1 ≤ (parseB k s n l).2
  | 0, _, n, _, hn => .inr ⟨rfl, hn⟩
  | k + 1, s, n, l, hn => by
    rw [parseB]
    split
    · exact .inl rfl
    · split
      · exact .inr ⟨rfl, hn⟩
      · split
        · exact parseB_two k _ (n + 1) _ (by omega)
        · exact .inr ⟨rfl, by show 1 ≤ n + 1; omega⟩
theorem parseB_le : ∀ (k : Nat) (s : Scr) (n : Nat) (l : List UInt8), (parseB k s n l).2 ≤ n + k
  | 0, _, n, _ => Nat.le_refl _
  | k + 1, s, n, l => by
    rw [parseB]
    split
    · exact Nat.zero_le _
    · split
      · show n ≤ n + (k + 1); omega
      · split
        · exact Nat.le_trans (parseB_le k _ (n + 1) _) (by omega)
        · show n + 1 ≤ n + (k + 1); omega

set_option maxRecDepth 100000 in
set_option maxHeartbeats 2000000 in
theorem parses_law (t : ByteArray) (hm : t.size ≤ 9223372036854775807) (w : World) (hk : Kn w) :
    Calls Tryz.prog 3 #[.string t] w fun e w' => LivesPost w e w' := by
  have HLV := Lib.hid (fun W (hW : Fr (fun _ => False) w W) => lives22 W (hk.fr hW))
  by_cases hbig : 5000 < t.size
  · have hb : (5000 : Int) < t.size := by omega
    clear hk
    go_enter Tryz.func3, Tryz.ntmps3
    go_wp2_with fail
    refine (HLV.out _ (Fr.refl _ _)).mono ?_
    rintro e w1 ⟨rfl, f1⟩
    have F1 := Lib.hid f1
    clear f1
    go_wp2_with fail
    refine (HLV.out _ F1.out).mono ?_
    rintro e w2 ⟨rfl, f2⟩
    go_wp2_with fail
    go_ret
    exact ⟨rfl, F1.out.trans f2⟩
  · have hb : decide ((5000 : Int) < t.size) = false := by simp; omega
    have HP := Lib.hid (fun W (hW : Fr (fun _ => False) w W) => parse_script t (by omega) W (hk.fr hW))
    have HQ := Lib.hid (fun W => rparse_ok t (by omega) W)
    have htwo := parseB_two (t.size + 1) scr0 1 t.data.toList (Nat.le_refl _)
    have hle := parseB_le (t.size + 1) scr0 1 t.data.toList
    obtain ⟨⟨s, n⟩, hR⟩ : ∃ R, parseB (t.size + 1) scr0 1 t.data.toList = R := ⟨_, rfl⟩
    rw [hR] at HP HQ htwo hle
    simp only at htwo hle
    have hn : n ≤ 5002 := by omega
    have HO := Lib.hid (fun W => of_ok s W)
    clear hk hR hle
    unfold ParsePost at HP
    unfold RParsePost at HQ
    unfold OfPost at HO
    simp only at HP HQ
    obtain ⟨di, da, re, he, sl, tx, inn, fu⟩ := s
    simp only [Scr.row, Scr.row22] at HP HQ HO
    go_enter Tryz.func3, Tryz.ntmps3
    go_wp2_with fail
    refine (HLV.out _ (Fr.refl _ _)).mono ?_
    rintro e w1 ⟨rfl, f1⟩
    have F1 := Lib.hid f1
    clear f1
    go_wp2_with fail
    refine (HP.out _ F1.out).mono ?_
    rintro e w2 ⟨rfl, f2⟩
    have F2 := Lib.hid (F1.out.trans f2)
    clear f2
    go_wp2_with fail
    have hA := heap_alloc_last w2 (.cells #[.int .i64 di, .int .i64 da, .int .i64 re, .int .i64 he, .int .i64 sl, .string tx, .string inn, .int .i64 fu] 26)
    have fA := (Fr.refl (fun _ => False) w2).alloc (.cells #[.int .i64 di, .int .i64 da, .int .i64 re, .int .i64 he, .int .i64 sl, .string tx, .string inn, .int .i64 fu] 26)
    obtain ⟨w3, hw3⟩ : ∃ W, w2.alloc (.cells #[.int .i64 di, .int .i64 da, .int .i64 re, .int .i64 he, .int .i64 sl, .string tx, .string inn, .int .i64 fu] 26) = W := ⟨_, rfl⟩
    rw [hw3] at hA fA
    obtain ⟨pb, hpb⟩ : ∃ b, w2.heap.size = b := ⟨_, rfl⟩
    rw [hpb] at hA
    rw [hw3, hpb]
    have HA := Lib.hid hA
    have F3 := Lib.hid (F2.out.trans fA)
    clear hA fA hw3 hpb
    refine (HQ.out _).mono ?_
    rintro e w4 ⟨rfl, f4⟩
    have hA4 := f4.obj HA.out id
    have HA4 := Lib.hid hA4
    have F4 := Lib.hid (F3.out.trans f4)
    have hB := heap_alloc_last w4 (.cells #[.int .i64 di, .int .i64 da, .int .i64 re, .int .i64 he, .int .i64 sl, .int .i64 fu, .string inn, .string tx] 31)
    have fB := (Fr.refl (fun _ => False) w4).alloc (.cells #[.int .i64 di, .int .i64 da, .int .i64 re, .int .i64 he, .int .i64 sl, .int .i64 fu, .string inn, .string tx] 31)
    obtain ⟨w5, hw5⟩ : ∃ W, w4.alloc (.cells #[.int .i64 di, .int .i64 da, .int .i64 re, .int .i64 he, .int .i64 sl, .int .i64 fu, .string inn, .string tx] 31) = W := ⟨_, rfl⟩
    rw [hw5] at hB fB
    obtain ⟨qb, hqb⟩ : ∃ b, w4.heap.size = b := ⟨_, rfl⟩
    rw [hqb] at hB
    have hA5 := fB.obj HA4.out id
    have p0 : w5.cell? ⟨pb, 0, none⟩ = some (.int .i64 di) := cell_of_row w5 pb 0 _ _ _ hA5
    have p1 : w5.cell? ⟨pb, 1, none⟩ = some (.int .i64 da) := cell_of_row w5 pb 1 _ _ _ hA5
    have p2 : w5.cell? ⟨pb, 2, none⟩ = some (.int .i64 re) := cell_of_row w5 pb 2 _ _ _ hA5
    have p3 : w5.cell? ⟨pb, 3, none⟩ = some (.int .i64 he) := cell_of_row w5 pb 3 _ _ _ hA5
    have p4 : w5.cell? ⟨pb, 4, none⟩ = some (.int .i64 sl) := cell_of_row w5 pb 4 _ _ _ hA5
    have p5 : w5.cell? ⟨pb, 5, none⟩ = some (.string tx) := cell_of_row w5 pb 5 _ _ _ hA5
    have p6 : w5.cell? ⟨pb, 6, none⟩ = some (.string inn) := cell_of_row w5 pb 6 _ _ _ hA5
    have p7 : w5.cell? ⟨pb, 7, none⟩ = some (.int .i64 fu) := cell_of_row w5 pb 7 _ _ _ hA5
    have q0 : w5.cell? ⟨qb, 0, none⟩ = some (.int .i64 di) := cell_of_row w5 qb 0 _ _ _ hB
    have q1 : w5.cell? ⟨qb, 1, none⟩ = some (.int .i64 da) := cell_of_row w5 qb 1 _ _ _ hB
    have q2 : w5.cell? ⟨qb, 2, none⟩ = some (.int .i64 re) := cell_of_row w5 qb 2 _ _ _ hB
    have q3 : w5.cell? ⟨qb, 3, none⟩ = some (.int .i64 he) := cell_of_row w5 qb 3 _ _ _ hB
    have q4 : w5.cell? ⟨qb, 4, none⟩ = some (.int .i64 sl) := cell_of_row w5 qb 4 _ _ _ hB
    have q5 : w5.cell? ⟨qb, 5, none⟩ = some (.int .i64 fu) := cell_of_row w5 qb 5 _ _ _ hB
    have q6 : w5.cell? ⟨qb, 6, none⟩ = some (.string inn) := cell_of_row w5 qb 6 _ _ _ hB
    have q7 : w5.cell? ⟨qb, 7, none⟩ = some (.string tx) := cell_of_row w5 qb 7 _ _ _ hB
    have F5 := Lib.hid (F4.out.trans fB)
    have HB := Lib.hid hB
    clear hA4 f4 hB fB hA5
    by_cases h0 : n = 0
    · subst h0
      clear htwo
      have heq := eql22 di da re he sl fu inn tx
      go_wp2_with fail
      go_region_held3 (fun W => W.cell? ⟨pb, 0, none⟩ = some (.int .i64 di) ∧ W.cell? ⟨pb, 1, none⟩ = some (.int .i64 da) ∧ W.cell? ⟨pb, 2, none⟩ = some (.int .i64 re) ∧ W.cell? ⟨pb, 3, none⟩ = some (.int .i64 he) ∧ W.cell? ⟨pb, 4, none⟩ = some (.int .i64 sl) ∧ W.cell? ⟨pb, 5, none⟩ = some (.string tx) ∧ W.cell? ⟨pb, 6, none⟩ = some (.string inn) ∧ W.cell? ⟨pb, 7, none⟩ = some (.int .i64 fu) ∧ W.cell? ⟨qb, 0, none⟩ = some (.int .i64 di) ∧ W.cell? ⟨qb, 1, none⟩ = some (.int .i64 da) ∧ W.cell? ⟨qb, 2, none⟩ = some (.int .i64 re) ∧ W.cell? ⟨qb, 3, none⟩ = some (.int .i64 he) ∧ W.cell? ⟨qb, 4, none⟩ = some (.int .i64 sl) ∧ W.cell? ⟨qb, 5, none⟩ = some (.int .i64 fu) ∧ W.cell? ⟨qb, 6, none⟩ = some (.string inn) ∧ W.cell? ⟨qb, 7, none⟩ = some (.string tx) ∧ Fr (fun _ => False) w5 W)
        ((go_split_ands; refine (fun hF => ⟨Fr.cell hF p0 id, Fr.cell hF p1 id, Fr.cell hF p2 id, Fr.cell hF p3 id, Fr.cell hF p4 id, Fr.cell hF p5 id, Fr.cell hF p6 id, Fr.cell hF p7 id, Fr.cell hF q0 id, Fr.cell hF q1 id, Fr.cell hF q2 id, Fr.cell hF q3 id, Fr.cell hF q4 id, Fr.cell hF q5 id, Fr.cell hF q6 id, Fr.cell hF q7 id, hF⟩ : Fr (fun _ => False) w5 _ → _) ?_; repeat' with_reducible first | exact Fr.refl _ _ | assumption | apply Fr.drew | apply Fr.alloc))
        (first | (go_at_call 8; go_split_ands; (with_reducible refine (HO.out _).mono ?_); rintro e w6 ⟨rfl, f6⟩; have F6 : Fr (fun _ => False) w5 w6 := Fr.trans (by repeat' with_reducible first | exact Fr.refl _ _ | assumption | apply Fr.drew) f6) | fail)
      have HF6 := Lib.hid (F5.out.trans F6)
      clear F6
      go_wp2_with fail
      go_ret
      exact ⟨rfl, HF6.out.trans (by repeat' with_reducible first | exact Fr.refl _ _ | apply Fr.drew)⟩
    · have hn0 : (0 : Int) < n := by omega
      have HZ := Lib.hid ((htwo.resolve_left h0).1)
      have heq : ∀ W : World, (binOp .eql 31 (.agg #[.int .i64 di, .int .i64 da, .int .i64 re, .int .i64 he, .int .i64 sl, .int .i64 fu, .string inn, .string tx]) (.agg #[.int .i64 0, .int .i64 0, .int .i64 0, .int .i64 0, .int .i64 0, .int .i64 0, .string ⟨#[]⟩, .string ⟨#[]⟩])).run Tryz.prog W = .ok (.bool true) W := by
        intro W
        have hz := HZ.out
        unfold scrZ at hz
        injection hz with z1 z2 z3 z4 z5 z6 z7 z8
        rw [z1, z2, z3, z4, z5, z6, z7, z8]
        exact eql22 0 0 0 0 0 0 _ _ W
      clear htwo
      go_wp2_with fail
      refine (HO.out _).mono ?_
      rintro e w6 ⟨rfl, f6⟩
      go_wp2_with fail
      go_ret
      exact ⟨rfl, F5.out.trans f6⟩
end Go.Proofs.YthkmbnkkohomeaaGreatDoor.Mem
