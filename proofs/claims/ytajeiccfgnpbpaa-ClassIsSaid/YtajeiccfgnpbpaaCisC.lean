/- The statement ClassIs: its walk, of few bytes. -/
import Derived.Test.YtajeiccfgnpbpaaCisB
import Derived.Deep.DeepCutAuto
import Derived.Deep.DrawnRows
namespace Go.Proofs.Ytajeiccfgnpbpaa.Mem
open Go.RowKit
attribute [local go_sem ↓] Go.wp_at_zero Go.wp_at_succ

theorem ret_bool' {a b : Bool} (h : a = b) : Ending.returned (.bool a) = .returned (.bool b) := by rw [h]

/-- The bytes of an argument. -/
def IsBytes (W : World) (a : Option Addr) (n : Nat) (L : Nat → Nat) : Prop :=
  n = 0 ∨ ∃ bb off, a = some ⟨bb, off, none⟩ ∧ bb < W.heap.size ∧ ∀ j, j < n → W.cell? ⟨bb, off + j, none⟩ = some (.int .u8 (L j : Nat)) ∧ L j ≤ 255

theorem cw_zero : CW 0 (setv (List.replicate 65536 0) 8 0) := by
  refine ⟨by rw [setv_length, List.length_replicate], by rw [cellv_same _ _ _ (by rw [List.length_replicate]; omega) (by omega)]; rfl, ?_, ?_, ?_, ?_, ?_⟩ <;> intro j hj <;> omega
theorem lwi_start {wb p g b : Nat} {w : World} (ho : w.heap[wb]? = some (.cells #[.pointer (some ⟨p, 0, none⟩), .pointer (some ⟨b, 0, none⟩), .int .i64 8, .slice none 0 0, .slice none 0 0] 56 (0, 0))) (hs : Sat w b p g 8 65536 16 (setv (List.replicate 65536 0) 8 0)) : LWi wb p g b 0 w :=
  ⟨_, [], _, _, ho, hs, cw_zero, rfl, by simp, .inl ⟨rfl, rfl, rfl⟩⟩

set_option maxRecDepth 100000 in
set_option maxHeartbeats 4000000 in
theorem cisLoop_any (a : Option Addr) (n c : Nat) (L : Nat → Nat) (at_ off : Int) (w : World) (h : IsBytes w a n L) (hn : n ≤ 40) (hoff : -32768 ≤ off ∧ off ≤ 32767) :
    Calls Try.prog 4 #[.slice a n c, .int .i64 at_, .int .i16 off] w (fun e w' => e = .returned (.bool true) ∧ Fr (fun _ => False) w w') := by
  go_enter Try.func4, Try.ntmps4
  go_wp2_with fail
  refine (lives11_any w).mono ?_
  rintro e w1 ⟨rfl, hf⟩
  have F1 := Lib.hid hf
  clear hf
  go_wp2_with fail
  refine (wnew_ok 65536 w1 (by omega) (by omega) (by omega)).mono ?_
  rintro e w2 ⟨p, g, b, rfl, hp0, hg0, hb0, hs, hf⟩
  have O2 := Lib.hid (heap_alloc_last w2 (.cells #[.pointer (some ⟨p, 0, none⟩), .pointer (some ⟨b, 0, none⟩), .int .i64 8, .slice none 0 0, .slice none 0 0] 56))
  have S2 := Lib.hid (hs.fr ((Fr.refl (fun _ => False) w2).alloc (.cells #[.pointer (some ⟨p, 0, none⟩), .pointer (some ⟨b, 0, none⟩), .int .i64 8, .slice none 0 0, .slice none 0 0] 56)) id id id)
  have F2 := Lib.hid ((F1.out.trans hf).alloc (.cells #[.pointer (some ⟨p, 0, none⟩), .pointer (some ⟨b, 0, none⟩), .int .i64 8, .slice none 0 0, .slice none 0 0] 56))
  have HD := Lib.hid (show b < w2.heap.size ∧ p < w2.heap.size ∧ g < w2.heap.size from by have := hs.lt; omega)
  have HB := Lib.hid (show w.heap.size ≤ w2.heap.size ∧ w.heap.size ≤ b ∧ w.heap.size ≤ g from by have := F1.out.size; have := hf.size; omega)
  clear hs hf hp0 hg0 hb0
  go_wp2_with fail
  obtain ⟨wb, hwb⟩ : ∃ wb, w2.heap.size = wb := ⟨_, rfl⟩
  obtain ⟨w3, hw3⟩ : ∃ w3, w2.alloc (.cells #[.pointer (some ⟨p, 0, none⟩), .pointer (some ⟨b, 0, none⟩), .int .i64 8, .slice none 0 0, .slice none 0 0] 56) = w3 := ⟨_, rfl⟩
  rw [hwb] at O2 HD HB ⊢
  rw [hw3] at O2 S2 F2 ⊢
  clear hwb hw3
  go_loopw [23] (fun iv wr => ∃ k : Nat, k ≤ n ∧ iv = .int .i64 k ∧ LWi wb p g b k wr ∧ Fr (fun _ => False) w wr) (fun iv _ => n - (intOf iv).toNat)
  case atStart => exact ⟨0, Nat.zero_le _, rfl, lwi_start O2.out S2.out, F2.out⟩
  case round =>
    obtain ⟨k, hk, rfl, hW, hF⟩ := hrel
    have HW := Lib.hid hW
    have HF := Lib.hid hF
    clear hW hF
    by_cases hlt : k < n
    · obtain ⟨bb, o, rfl, hbb, hc⟩ := h.resolve_left (by omega)
      obtain ⟨hc1, hc2⟩ := hc k hlt
      have hc3 := HF.out.cell hc1 id
      clear hc hc1
      go_wp2_with (go_at_call 26; refine (make_step _ _ HW.out (by omega) (by omega) HD.out).mono ?_; rintro e w4 ⟨rfl, hW4, hf4⟩; have HW4 := Lib.hid hW4; have HF4 := Lib.hid hf4; clear hW4 hf4)
      go_roundw
      case rel => exact ⟨k + 1, by omega, by go_num, HW4.out, HF.out.after HF4.out (S := fun _ => False) (fun j hj e => by have := HB.out; omega)⟩
      case measure => simp [intOf]; omega
    · obtain rfl : k = n := by omega
      obtain ⟨wo, hwo⟩ : ∃ wo, wo = wr := ⟨_, rfl⟩
      subst hwo
      obtain ⟨bs, Lr, vA, vL, hob, hs, hcw, _, _, hv⟩ := HW.out
      obtain ⟨q0, q1, q2, q3, q4, _, _, _, _, _, hwl⟩ := five_cells hob
      have HIS := Lib.hid (fun x W h => is_any p g bs 8 x W h)
      have HM := Lib.hid hs.mat
      have HI := Lib.hid (fun x => hcw.isIn (by omega) x)
      have HOB := Lib.hid hob
      clear hob hs hcw
      rcases hv with ⟨rfl, rfl, rfl⟩ | ⟨hk0, gA, cA, gL, cL, rfl, rfl, hne, hoA, hoL⟩
      · have HNN := Lib.hid (fun x (W : World) (hW : Fr (fun _ => False) wo W) => number_nil wb p b x 8 _ W (hW.obj HOB.out id))
        have HA0 := Lib.hid (fun x (W : World) (h : Mat 108 W p g bs) => (show Calls Try.prog 27 #[.pointer (some ⟨p, 0, none⟩), .int .i64 8, .int .i64 x] W fun e w' => e = .returned (.bool false) ∧ Fr (fun _ => False) W w' by
          have := HIS.out x W h
          rwa [HI.out, decide_eq_false (by simp [atc])] at this))
        go_wp2_with fail
        refine wp_loop_rounds 1 ?_
        rw [rounds_succ]
        go_wp2_with fail
        go_region_held3 (fun W => W.cell? ⟨wb, 0, none⟩ = some (.pointer (some ⟨p, 0, none⟩)) ∧ W.cell? ⟨wb, 2, none⟩ = some (.int .i64 8) ∧ Fr (fun _ => False) wo W)
          ((go_split_ands; refine (fun hF => ⟨Fr.cell hF q0 id, Fr.cell hF q2 id, hF⟩ : Fr (fun _ => False) wo _ → _) ?_; repeat' first | exact Fr.refl _ _ | assumption | apply Fr.drew | apply Fr.alloc))
          (first | (go_at_call 27; go_split_ands; (with_reducible refine (HA0.out _ _ ?_).mono ?_); (exact Mat.fr HM.out (by assumption) id id); rintro e wq ⟨rfl, hq⟩; have hq1 : Fr (fun _ => False) wo wq := Fr.trans (by assumption) hq; clear hq) | (go_at_call 28; go_split_ands; (with_reducible refine (HNN.out _ _ ?_).mono ?_); assumption; rintro e wq3 ⟨rfl, rfl⟩) | fail)
        all_goals
          go_wp2_with fail
          go_ret
          exact ⟨rfl, HF.out.trans (by repeat' first | assumption | apply Fr.drew | apply Fr.alloc)⟩
      · go_wp2_with fail
        have HNB := Lib.hid (fun x (W : World) (hW : Fr (fun _ => False) wo W) => number_any wb p b gA cA k x 8 _ (atc k) W (wb + 1) (hW.obj HOB.out id) (hW.owns hoA (fun _ _ => id)) (by omega))
        have HCA := Lib.hid (fun j (hj : j < k) => (show wo.cell? ⟨gA, j, none⟩ = some (.int .i64 ((104 + 128 * j : Nat) : Int)) by
          have := owns_holds hoA ⟨gA, 0, none⟩ rfl j (.int .i64 ((104 + 128 * j : Nat) : Int)) (by rw [List.getElem?_map, atc_get k j hj]; rfl)
          rwa [addr_add'] at this))
        clear hoA hoL
        go_loopw [35] (fun jv ws => ∃ j : Nat, j ≤ k ∧ jv = .int .i64 j ∧ Fr (fun _ => False) wo ws) (fun jv _ => k - (intOf jv).toNat)
        case atStart => exact ⟨0, Nat.zero_le _, rfl, Fr.refl _ _⟩
        case round =>
          obtain ⟨j, hj, rfl, hG⟩ := hrel
          have HG := Lib.hid hG
          have r0 := hG.cell q0 id
          have r2 := hG.cell q2 id
          have r3 := hG.cell q3 id
          by_cases hjk : j < k
          · have ra := hG.cell (HCA.out j hjk) id
            have hmem : ((104 + 128 * j : Nat) : Int) ∈ atc k := List.mem_of_getElem? (atc_get k j hjk)
            have hxb : 0 ≤ ((104 + 128 * j : Nat) : Int) ∧ ((104 + 128 * j : Nat) : Int) ≤ 10000 := by omega
            obtain ⟨x0, hx0⟩ : ∃ x0, ((104 + 128 * j : Nat) : Int) = x0 := ⟨_, rfl⟩
            rw [hx0] at ra hmem hxb
            have his := HIS.out x0
            rw [HI.out x0, decide_eq_true hmem] at his
            have HS1 := Lib.hid his
            clear his hG hx0 hmem
            go_wp2_with (first | (go_at_call 27; refine (HS1.out _ (Mat.fr HM.out HG.out id id)).mono ?_; rintro e wq ⟨rfl, hq⟩; have hq1 : Fr (fun _ => False) wo wq := Fr.trans HG.out hq; have s0 := hq1.cell q0 id; have s2 := hq1.cell q2 id; have HQ1 := Lib.hid hq1; clear hq hq1 HG) | (go_at_call 27; refine (HIS.out _ _ (Mat.fr HM.out HQ1.out id id)).mono ?_; rintro e wq2 ⟨rfl, hq⟩; have hq2 : Fr (fun _ => False) wo wq2 := Fr.trans HQ1.out hq; have HQ2 := Lib.hid hq2; clear hq hq2 HQ1) | (go_at_call 28; refine (HNB.out _ _ HQ2.out).mono ?_; rintro e wq3 ⟨i, rfl, hi, rfl⟩; have HNI := Lib.hid hi; clear hi))
            · rename_i hx
              rw [HI.out, HNI.out] at hx
              exact absurd hx (by cases decide (x0 + off ∈ atc k) <;> decide)
            · exact ⟨⟨j + 1, by omega, by go_num, HQ2.out⟩, by simp [intOf]; omega⟩
          · obtain rfl : j = k := by omega
            have h8 : (8 : Int) ∉ atc j := fun hm => by
              obtain ⟨q, _, e⟩ := List.mem_map.1 hm
              omega
            have ha8 := HIS.out 8
            rw [HI.out, decide_eq_false h8] at ha8
            have HA8 := Lib.hid ha8
            have HN8 := Lib.hid (fun (W : World) (hW : Fr (fun _ => False) wo W) => (HNB.out 8 W hW).mono fun e w' ⟨i, he, hi, hw⟩ => (⟨i, he, by rw [decide_eq_false h8] at hi; exact hi, hw⟩ : ∃ i : Int, e = Ending.returned (.int .i64 i) ∧ decide (0 ≤ i) = false ∧ w' = W))
            clear ha8
            by_cases hat : at_ ∈ atc j
            · have ha1 := HIS.out at_
              rw [HI.out, decide_eq_true hat] at ha1
              have HA1 := Lib.hid ha1
              have HN1 := Lib.hid (fun (W : World) (hW : Fr (fun _ => False) wo W) => (HNB.out at_ W hW).mono fun e w' ⟨i, he, hi, hw⟩ => (⟨i, he, by rw [decide_eq_true hat] at hi; simpa using hi, hw⟩ : ∃ i : Int, e = Ending.returned (.int .i64 i) ∧ 0 ≤ i ∧ w' = W))
              clear ha1
              go_wp2_with fail
              go_region_held3 (fun W => W.cell? ⟨wb, 0, none⟩ = some (.pointer (some ⟨p, 0, none⟩)) ∧ W.cell? ⟨wb, 2, none⟩ = some (.int .i64 8) ∧ Fr (fun _ => False) wo W)
                ((go_split_ands; refine (fun hF => ⟨Fr.cell hF q0 id, Fr.cell hF q2 id, hF⟩ : Fr (fun _ => False) wo _ → _) ?_; repeat' first | exact Fr.refl _ _ | assumption | exact HG.out | apply Fr.drew | apply Fr.alloc))
                (first | (go_at_call 27; go_split_ands; (with_reducible refine (HA1.out _ ?_).mono ?_); (exact Mat.fr HM.out (by assumption) id id); rintro e wq ⟨rfl, hq⟩; have hq1 : Fr (fun _ => False) wo wq := Fr.trans (by assumption) hq; clear hq) | (go_at_call 27; go_split_ands; (with_reducible refine (HA8.out _ ?_).mono ?_); (exact Mat.fr HM.out (by assumption) id id); rintro e wq2 ⟨rfl, hq⟩; have hq2 : Fr (fun _ => False) wo wq2 := Fr.trans (by assumption) hq; clear hq) | (go_at_call 28; go_split_ands; (with_reducible refine (HN1.out _ ?_).mono ?_); assumption; rintro e wq3 ⟨i, rfl, hi, rfl⟩) | (go_at_call 28; go_split_ands; (with_reducible refine (HN8.out _ ?_).mono ?_); assumption; rintro e wq4 ⟨i8, rfl, hi8, rfl⟩) | fail)
              all_goals
                go_wp2_with fail
                go_ret
                exact ⟨rfl, HF.out.trans (by repeat' first | assumption | apply Fr.drew | apply Fr.alloc)⟩
            · have ha1 := HIS.out at_
              rw [HI.out, decide_eq_false hat] at ha1
              have HA1 := Lib.hid ha1
              have HN1 := Lib.hid (fun (W : World) (hW : Fr (fun _ => False) wo W) => (HNB.out at_ W hW).mono fun e w' ⟨i, he, hi, hw⟩ => (⟨i, he, by rw [decide_eq_false hat] at hi; exact hi, hw⟩ : ∃ i : Int, e = Ending.returned (.int .i64 i) ∧ decide (0 ≤ i) = false ∧ w' = W))
              clear ha1
              go_wp2_with fail
              go_region_held3 (fun W => W.cell? ⟨wb, 0, none⟩ = some (.pointer (some ⟨p, 0, none⟩)) ∧ W.cell? ⟨wb, 2, none⟩ = some (.int .i64 8) ∧ Fr (fun _ => False) wo W)
                ((go_split_ands; refine (fun hF => ⟨Fr.cell hF q0 id, Fr.cell hF q2 id, hF⟩ : Fr (fun _ => False) wo _ → _) ?_; repeat' first | exact Fr.refl _ _ | assumption | exact HG.out | apply Fr.drew | apply Fr.alloc))
                (first | (go_at_call 27; go_split_ands; (with_reducible refine (HA1.out _ ?_).mono ?_); (exact Mat.fr HM.out (by assumption) id id); rintro e wq ⟨rfl, hq⟩; have hq1 : Fr (fun _ => False) wo wq := Fr.trans (by assumption) hq; clear hq) | (go_at_call 27; go_split_ands; (with_reducible refine (HA8.out _ ?_).mono ?_); (exact Mat.fr HM.out (by assumption) id id); rintro e wq2 ⟨rfl, hq⟩; have hq2 : Fr (fun _ => False) wo wq2 := Fr.trans (by assumption) hq; clear hq) | (go_at_call 28; go_split_ands; (with_reducible refine (HN1.out _ ?_).mono ?_); assumption; rintro e wq3 ⟨i, rfl, hi, rfl⟩) | (go_at_call 28; go_split_ands; (with_reducible refine (HN8.out _ ?_).mono ?_); assumption; rintro e wq4 ⟨i8, rfl, hi8, rfl⟩) | fail)
              all_goals
                go_wp2_with fail
                go_ret
                exact ⟨rfl, HF.out.trans (by repeat' first | assumption | apply Fr.drew | apply Fr.alloc)⟩
end Go.Proofs.Ytajeiccfgnpbpaa.Mem
