/- Maps of functions that the call has made: copied into one another. -/
import Derived.Test.YthkmbnkkohomeaaGreatDoorSwae
import Derived.StringKeys
set_option linter.unusedSimpArgs false
set_option linter.unusedVariables false

namespace Go.Proofs.YthkmbnkkohomeaaGreatDoor.Mem
open Go.RowKit Go.Maps

open Classical in
set_option maxRecDepth 100000 in
set_option maxHeartbeats 2000000 in
theorem copy_ok (bd bs nd ns : Nat) (Fd Fs : Lit → Option Value) (w : World) (hd : FMap w 9 bd nd Fd) (hs : FMap w 9 bs ns Fs) (hne : bd ≠ bs) (hroom : nd + ns < maxLen) :
    Calls Tryz.prog 117 #[.map (some bd), .map (some bs)] w
      fun e w' => e = .returned (.tuple #[]) ∧ FMap w' 9 bd (nd + ns) (fun k => if (Fs k).isSome = true then Fs k else Fd k) ∧ Fr (fun j => j = bd) w w' := by
  obtain ⟨Ds, hown, hi, hU, hh, hfn⟩ := hs
  have hsz := hown.size_le
  have hdl := hd.lt
  have hsl := hown.lt
  have HD := Lib.hid hd
  have HU := Lib.hid hU
  have HH := Lib.hid hh
  have HFN := Lib.hid hfn
  have HI := Lib.hid hi
  clear hU hh hfn hi hd
  go_enter Tryz.func117, Tryz.ntmps117
  go_wp2_with (at_range; refine wpList_range_own _ rfl _ 188 rfl 9 193 strKey Tryz.underlying188 _ bs ns _ rfl hown ?_; intro w0 hrg0 hg0 hs0)
  go_frame
  have HG0 := Lib.hid hg0
  have HS0 := Lib.hid hs0
  clear hg0 hs0
  go_loopw [4] (fun _ wr => ∃ (left : Lit → Bool) (cnt : Nat), wr.ranges Tryz.prog 9 fnElem bs w.heap.size ns Ds left cnt ∧ cnt ≤ ns ∧ FMap wr 9 bd (nd + (ns - cnt)) (fun k => if (has Ds k && !left k) = true then Fs k else Fd k) ∧ Fr (fun j => j = bd) w wr)
    (fun _ wr => wr.rangeLeft bs w.heap.size)
  case atStart =>
    refine ⟨_, _, hrg0, hsz, ?_, Fr.grown (Fr.refl _ _) HG0.out (fun k hk => by cases hk)⟩
    have hf : Fr (fun _ => False) w w0 := Fr.grown (Fr.refl _ _) HG0.out (fun k hk => by cases hk)
    have := (HD.out.fr hf id).mono (n' := nd + (ns - Maps.size Ds)) (Nat.le_add_right _ _)
    have e : (fun k => if (has Ds k && !has Ds k) = true then Fs k else Fd k) = Fd := funext fun k => by simp
    rw [e]
    exact this
  case round =>
    obtain ⟨left, cnt, hrg, hcs, hout, hF⟩ := hrel
    have HOUT := Lib.hid hout
    have HF := Lib.hid hF
    clear hout hF
    go_wp2_with (at_next; refine wpList_next_ranges _ rfl _ rfl 9 strKey fnElem Value.string (fun v : Value => v) (fun key kl h => (by obtain ⟨s, e, _⟩ := WideMaps.string_of_keyOf Tryz.underlying9 h; exact ⟨s, e⟩)) (fun v _ _ => ⟨v, rfl⟩) bs w.heap.size ns _ _ _ rfl hrg ?_ ?_)
    · intro hc0 hl0
      go_wp2_with fail
      go_end0
      subst hc0
      refine ⟨rfl, ?_, HF.out⟩
      have := HOUT.out
      have e : (fun k => if (has Ds k && !left k) = true then Fs k else Fd k) = fun k => if (Fs k).isSome = true then Fs k else Fd k := funext fun k => by rw [hl0 k, HH.out k]; simp
      rw [e] at this
      simpa using this
    · intro x c kl y yp w1 cnt1 hkx hlx hwc hat hrg1 hlt hg1 hs1 hen
      have hkl : has Ds kl = true := has_true_of_atKey hat
      obtain ⟨hy0, _⟩ := fnElem_some hwc
      obtain ⟨hy, _⟩ := Prod.mk.inj hy0
      have hat0 := hat (.held .nilFunc)
      rw [HU.out, hy] at hat0
      try dsimp only at hat0
      have hsm : (Fs kl).isSome = true := by rw [← HH.out]; exact hkl
      obtain ⟨v, hv⟩ := Option.isSome_iff_exists.1 hsm
      rw [hv] at hat0
      obtain rfl : v = c := by simpa using hat0
      obtain ⟨f, p, q, rfl⟩ := HFN.out kl v hv
      obtain ⟨s, hsx, hskl, _⟩ := WideMaps.string_of_keyOf Tryz.underlying9 hkx
      have hkll : WideAt.IsKeyLit kl := by rw [hskl]; trivial
      have hg1' : Fr (fun j => j = w.heap.size) wr w1 := Fr.grown (S := fun j => j = w.heap.size) (Fr.refl _ _) hg1 (fun k hk => .inr (Option.some.inj hk).symm)
      have HOUT1 := Lib.hid (HOUT.out.fr hg1' (fun e => by omega))
      have HF1 := Lib.hid (HF.out.after hg1' (fun k hk e => by omega))
      have HE := Lib.hid hv
      clear hg1' hat hat0 hsm hwc hy hy0 hsx hv
      go_wp2_with (at_mapUpdate; refine wpList_store_fmap _ rfl _ _ _ 188 9 193 (.inl rfl) strKey Tryz.underlying188 bd _ _ rfl HOUT1.out (by omega) _ kl rfl hkx hkll f p q rfl ?_; intro w2 hout2 ht2; go_frame)
      have hg2 := ht2.grown
      have hrg2 := hrg1.kept hg2 (fun e => by have := Option.some.inj e; omega) (fun e => by have := Option.some.inj e; omega)
      go_roundw
      case rel =>
        refine ⟨_, cnt1, hrg2, by omega, ?_, HF1.out.trans (fr_turnedF ht2)⟩
        have h2 := hout2.mono (n' := nd + (ns - cnt1)) (by omega)
        have e : (fun z => if z = kl then some (Value.func f p q) else if (has Ds z && !left z) = true then Fs z else Fd z) = fun k => if (has Ds k && !(left k && !k.sameKey kl)) = true then Fs k else Fd k := funext fun z => by
          by_cases hz : z = kl
          · subst hz
            rw [if_pos rfl, hkl, WideAt.sameKey_self hkll, HE.out]
            simp
          · have hns : z.sameKey kl = false := by
              cases hb : z.sameKey kl with
              | false => rfl
              | true => exact absurd (WideAt.sameKey_eq hb) hz
            rw [if_neg hz, hns]
            simp
        rw [← e]
        exact h2
      case measure => rw [hrg2.left_eq, hrg.left_eq]; exact hlt
end Go.Proofs.YthkmbnkkohomeaaGreatDoor.Mem
