/- Contracts of package class at one class: Set. -/
import Derived.Test.YtajeiccfgnpbpaaClsI
namespace Go.Proofs.Ytajeiccfgnpbpaa.Mem
open Go.RowKit

set_option maxRecDepth 100000 in
set_option maxHeartbeats 4000000 in
theorem set_one (p g : Nat) (bs : List UInt8) (root sel xt : Int) (c : Cl) (w : World) (h : Mat 108 w p g bs) (hs : visited bs root = [c]) (hca : (Lit.int .i64 c.a).wf = true) (hcp : (Lit.int .i64 c.par).wf = true)
    (hsel : 1 ≤ sel) (hmay : may bs c.tab sel = true) :
    Calls Try.prog 35 #[.pointer (some ⟨p, 0, none⟩), .int .i64 root, .int .i64 c.a, .int .i64 sel, .int .i64 xt] w
      fun e w' => e = .returned (.int .i64 0) ∧ Mat 108 w' p g (putb bs c.tab ⟨sel, xt, c.a⟩) ∧ Only g w w' := by
  have hh := heirs_one p g bs root sel c w h hs hca hcp
  have hm := fun W h => may_any p g bs c.tab sel W h
  rw [hmay] at hm
  have hp := fun W h => put_any p g bs c.tab ⟨sel, xt, c.a⟩ W h
  simp only [entv] at hp
  obtain ⟨y0, y1, y2, y3, y4⟩ := c
  simp only [clcells, List.flatMap_cons, List.flatMap_nil, List.append_nil] at hh
  dsimp only at hm hp ⊢
  have HH := Lib.hid hh
  have HM := Lib.hid hm
  have HP := Lib.hid hp
  have H := Lib.hid h
  have HG := Lib.hid h.lt.2
  clear hh hm hp h hs hca hcp hmay
  go_enter Try.func35, Try.ntmps35
  go_wp2_with fail
  refine HH.out.mono ?_
  rintro e w1 ⟨v, rfl, ho, hf⟩
  obtain ⟨o, cc, rfl, hn1, hn2, h3, h4⟩ := owns_form ho
  obtain ⟨gA, rfl, hgA, hgl⟩ : ∃ gA, o = some ⟨gA, 0, none⟩ ∧ w.heap.size ≤ gA ∧ gA < w1.heap.size := by
    cases o with
    | none => have := h3 rfl; omega
    | some bb =>
      obtain ⟨e1, e2, e3, e4⟩ := h4 bb rfl
      obtain ⟨b0, o0, p0⟩ := bb
      dsimp only at *
      subst e1; subst e2
      exact ⟨b0, rfl, e3, e4⟩
  have HO := Lib.hid ho
  have F1 := Lib.hid hf
  have hcells : ∀ W S, Fr S w1 W → ¬ S gA → W.cell? ⟨gA, 0, none⟩ = some (.int .i64 y0) ∧ W.cell? ⟨gA, 1, none⟩ = some (.int .i64 y1) ∧ W.cell? ⟨gA, 2, none⟩ = some (.int .i64 y2) ∧ W.cell? ⟨gA, 3, none⟩ = some (.int .i64 y3) ∧ W.cell? ⟨gA, 4, none⟩ = some (.int .i64 y4) := by
    intro W S hF hS
    have c0 := ho.cells rfl 0 _ rfl
    have c1 := ho.cells rfl 1 _ rfl
    have c2 := ho.cells rfl 2 _ rfl
    have c3 := ho.cells rfl 3 _ rfl
    have c4 := ho.cells rfl 4 _ rfl
    rw [addr_add''] at c0 c1 c2 c3 c4
    exact ⟨hF.cell c0 hS, hF.cell c1 hS, hF.cell c2 hS, hF.cell c3 hS, hF.cell c4 hS⟩
  have HC := Lib.hid hcells
  clear h3 h4 ho hf hcells
  go_wp2_with fail
  go_loopw [28] (fun iv wr => (iv = .int .i64 0 ∧ wr = w1) ∨ (iv = .int .i64 1 ∧ Fr (fun _ => False) w1 wr)) (fun iv _ => (1 - intOf iv).toNat)
  case atStart => exact .inl ⟨rfl, rfl⟩
  case round =>
    rcases hrel with ⟨rfl, rfl⟩ | ⟨rfl, hF⟩
    · obtain ⟨c0, c1, c2, c3, c4⟩ := HC.out _ _ (Fr.refl (fun _ => False) _) id
      go_wp2_with fail
      refine (HM.out _ (H.out.fr (F1.out.alloc _) id id)).mono ?_
      rintro e w2 ⟨rfl, hf⟩
      have F2 := Lib.hid (((Fr.refl (fun _ => False) wr).alloc _).trans hf)
      clear hf
      go_wp2_with fail
      exact ⟨.inr ⟨rfl, F2.out⟩, by simp [intOf]⟩
    · have F2 := Lib.hid hF
      have hgr : gA < wr.heap.size := by have := hF.size; omega
      clear hF
      go_wp2_with fail
      obtain ⟨wL, hwL⟩ : ∃ wL : World, wL = wr := ⟨_, rfl⟩
      go_loopw [41] (fun iv wr' => (iv = .int .i64 0 ∧ wr' = wr) ∨ (iv = .int .i64 1 ∧ Mat 108 wr' p g (putb bs y3 ⟨sel, xt, y0⟩) ∧ Only g wr wr')) (fun iv _ => (1 - intOf iv).toNat)
      case atStart => exact .inl ⟨rfl, rfl⟩
      case round =>
        rcases hrel with ⟨rfl, rfl⟩ | ⟨rfl, hM, hF⟩
        · obtain ⟨c0, c1, c2, c3, c4⟩ := HC.out _ _ F2.out id
          go_wp2_with fail
          refine (HP.out _ (H.out.fr ((F1.out.trans F2.out).alloc _) id id)).mono ?_
          rintro e w3 ⟨rfl, hm, hf⟩
          have M3 := Lib.hid hm
          have F3 := Lib.hid (((Fr.refl (fun j => j = g) _).alloc _).trans hf)
          clear hm hf
          go_wp2_with fail
          exact ⟨.inr ⟨rfl, M3.out, F3.out⟩, by simp [intOf]⟩
        · have M3 := Lib.hid hM
          have F3 := Lib.hid ((Fr.some (F1.out.trans F2.out) fun _ e => e.elim).trans hF)
          clear hM hF
          go_wp2_with fail
          go_ret
          exact ⟨rfl, M3.out, F3.out⟩
end Go.Proofs.Ytajeiccfgnpbpaa.Mem
