/- Several texts in one: VbC, VbD, VbE. -/
import Derived.Test.YthkmbnkkohomeaaGreatDoorSwaw
import Derived.StillTailTactics
import Derived.Test.YthkmbnkkohomeaaGreatDoorSwas
set_option linter.unusedSimpArgs false
set_option linter.unusedVariables false
/- Contracts of package vm: take of one number; tell, tellNumber; the word '.'. -/
namespace Go.Proofs.YthkmbnkkohomeaaGreatDoor.Mem
open Go.RowKit

theorem VmS.popped {w w' : World} {v : VB} {m : MR} {bs : List UInt8} {x dd dd' rd : Nat} (h : VmS w v m bs x dd rd) (f : Fr (fun j => j = v.db) w w') (hs : Stk w' v.db v.p v.di v.da dd' (-3) (-4)) : VmS w' v m bs x dd' rd := by
  obtain ⟨n, hn, hn2⟩ := h.dot
  have h1 := h.ne1
  have h2 := h.ne2
  have h3 := h.ne3
  exact ⟨h.row.fr f h1.2.1, h.sp, h.d, h.r, h.does, h.sat.fr f (fun e => h3.1 e.symm) (fun e => h3.2.2.1 e.symm) (fun e => h2.2.1 e), hs, h.rs.fr f (fun e => h3.2.1 e.symm), ⟨n, hn.fr f (fun e => h3.2.2.2.1 e.symm), hn2⟩, f.obj h.dotc (fun e => h3.2.2.2.2 e.symm), h.d8, h.fits, h1, h2, h3⟩
theorem VmS.rowed {w w' : World} {v : VB} {m m' : MR} {bs : List UInt8} {x dd rd : Nat} (h : VmS w v m bs x dd rd) (f : Fr (fun j => j = v.mb) w w') (hr : Mch w' v.mb m') (e1 : m'.sp = m.sp) (e2 : m'.d = m.d) (e3 : m'.r = m.r) (e4 : m'.does = m.does) : VmS w' v m' bs x dd rd := by
  obtain ⟨n, hn, hn2⟩ := h.dot
  have h1 := h.ne1
  exact ⟨hr, e1.trans h.sp, e2.trans h.d, e3.trans h.r, e4.trans h.does, h.sat.fr f (fun e => h1.1 e.symm) (fun e => h1.2.2.2.1 e.symm) (fun e => h1.2.2.2.2.1 e.symm), h.ds.fr f (fun e => h1.2.1 e.symm), h.rs.fr f (fun e => h1.2.2.1 e.symm), ⟨n, hn.fr f (fun e => h1.2.2.2.2.2.1 e.symm), hn2⟩, f.obj h.dotc (fun e => h1.2.2.2.2.2.2 e.symm), h.d8, h.fits, h1, h.ne2, h.ne3⟩

set_option maxRecDepth 100000 in
set_option maxHeartbeats 1000000 in
theorem take1_ok (v : VB) (m : MR) (bs : List UInt8) (x dd rd : Nat) (w : World) (h : VmS w v m bs x (dd + 1) rd) (hd : dd + 1 ≤ v.da) :
    Calls Tryz.prog 308 #[.pointer (some ⟨v.mb, 0, none⟩), .int .i64 1] w
      fun e w' => e = .returned (.tuple #[.slice (some ⟨w.heap.size, 0, none⟩) 1 1, .int .i64 0]) ∧ w'.cell? ⟨w.heap.size, 0, none⟩ = some (.int .i64 (cellv bs (v.di + dd * 8))) ∧ VmS w' v m bs x dd rd ∧ Fr (fun j => j = v.db) w w' := by
  have q1 : w.cell? ⟨v.mb, 1, none⟩ = some (.pointer (some ⟨v.db, 0, none⟩)) := by rw [← h.d]; exact h.row.cells.2.1
  have hf := h.fits
  have HD := Lib.hid (depth_any v.db v.p v.di v.da (dd + 1) (-3) (-4) w h.ds)
  have HP := Lib.hid (pop1_ok v.db v.p v.g v.di v.da dd bs (-3) (-4) w h.ds h.sat.mat h.d8 (by omega) hd)
  have H := Lib.hid h
  have h1 : decide (((dd : Int) + 1) < 1) = false := decide_eq_false (by omega)
  clear h hf hd
  go_enter Tryz.func308, Tryz.ntmps308
  go_wp2_with (first | (go_at_call 99; refine HD.out.mono ?_; rintro e w' ⟨rfl, h0⟩; obtain rfl := h0.symm; clear h0) | (go_at_call 372; refine HP.out.mono ?_; rintro e w2 ⟨rfl, hc, hs, hf⟩))
  go_ret2
  exact ⟨rfl, hc, H.out.popped hf hs, hf⟩

set_option maxRecDepth 100000 in
set_option maxHeartbeats 1000000 in
theorem tellnum_ok (mb : Nat) (m : MR) (s : ByteArray) (w : World) (h : Mch w mb m) (hs : m.out.size + s.size < 65535) (h0 : s.toList.isEmpty = false) :
    Calls Tryz.prog 222 #[.pointer (some ⟨mb, 0, none⟩), .string s] w fun e w' => e = .returned (.int .i64 0) ∧ Mch w' mb { m with out := m.out ++ (s ++ ⟨#[32]⟩) } ∧ Fr (fun j => j = mb) w w' := by
  have hz : (s ++ (⟨#[32]⟩ : ByteArray)).size = s.size + 1 := by rw [ByteArray.size_append]; rfl
  have HP := Lib.hid (putout_ok mb m (s ++ ⟨#[32]⟩) w h (by omega))
  have HT : Hid (Calls Tryz.prog 218 #[.pointer (some ⟨mb, 0, none⟩), .string (s ++ ⟨#[32]⟩)] w fun e w' => e = .returned (.int .i64 0) ∧ Mch w' mb { m with out := m.out ++ (s ++ ⟨#[32]⟩) } ∧ Fr (fun j => j = mb) w w') := by
    refine Lib.hid ?_
    obtain ⟨u, hu⟩ : ∃ u, s ++ (⟨#[32]⟩ : ByteArray) = u := ⟨_, rfl⟩
    rw [hu] at HP ⊢
    clear hz hu h0 hs h
    go_enter Tryz.func218, Tryz.ntmps218
    go_wp2_with (go_at_call 170; refine HP.out.mono ?_; rintro e w2 ⟨rfl, hm, hf⟩)
    go_ret
    exact ⟨rfl, hm, hf⟩
  have h3 : (s.size : Int) ≤ 65536 := by omega
  have h4 : s.size ≤ 65536 := by omega
  clear hz hs h
  go_enter Tryz.func222, Tryz.ntmps222
  go_wp2_with (go_at_call 218; refine HT.out.mono ?_; rintro e w2 ⟨rfl, hm, hf⟩)
  go_ret
  exact ⟨rfl, hm, hf⟩
end Go.Proofs.YthkmbnkkohomeaaGreatDoor.Mem

/- The word '.': number.Show, output's closure, with's closure. -/
namespace Go.Proofs.YthkmbnkkohomeaaGreatDoor.Mem
open Go.RowKit

set_option maxRecDepth 100000 in
set_option maxHeartbeats 1000000 in
theorem dot_ok (v : VB) (m : MR) (bs : List UInt8) (x dd rd n : Nat) (w : World) (h : VmS w v m bs x dd rd) (hb : m.base = 16) (hc : cell bs 16 = (10, 0)) (hn : n ≤ 9223372036854775807)
    (hs : m.out.size + (Num.udig 10 n).length < 65535) (h0 : (⟨(Num.udig 10 n).toArray⟩ : ByteArray).toList.isEmpty = false) :
    Calls Tryz.prog 221 #[.pointer (some ⟨v.mb, 0, none⟩), .int .i64 n] w
      fun e w' => e = .returned (.int .i64 0) ∧ VmS w' v { m with out := m.out ++ (⟨(Num.udig 10 n).toArray⟩ ++ ⟨#[32]⟩) } bs x dd rd ∧ Fr (fun j => j = v.mb) w w' := by
  have HB := Lib.hid (base_ok v m bs x dd rd w h hb hc)
  have H := Lib.hid h
  obtain ⟨s, hsd⟩ : ∃ s, (⟨(Num.udig 10 n).toArray⟩ : ByteArray) = s := ⟨_, rfl⟩
  have hsz : s.size = (Num.udig 10 n).length := by rw [← hsd]; simp [ByteArray.size]
  have HSH := Lib.hid (fun W => Num.show_pos n 10 W (by decide) (by decide) hn)
  rw [hsd] at HSH h0 ⊢
  have HTN := Lib.hid (fun W hW => tellnum_ok v.mb m s W hW (by omega) h0)
  clear h hb hc hn hs h0 hsd hsz
  go_enter Tryz.func221, Tryz.ntmps221
  go_wp2_with (first
    | (go_at_call 168; refine HB.out.mono ?_; rintro e w1 ⟨rfl, hf1⟩)
    | (go_at_call 223; refine (HSH.out _).mono ?_; rintro e w2 ⟨rfl, hb2⟩; have hf2 := Fr.of_below hb2 (fun _ => False))
    | (go_at_call 222; refine (HTN.out _ (H.out.row.fr (hf1.trans hf2) id)).mono ?_; rintro e w3 ⟨rfl, hm3, hf3⟩))
  go_ret
  exact ⟨rfl, (H.out.nf (hf1.trans hf2)).rowed hf3 hm3 rfl rfl rfl rfl, ((hf1.trans hf2).mono fun _ _ e => e.elim).trans hf3⟩

set_option maxRecDepth 100000 in
set_option maxHeartbeats 1000000 in
theorem with_dot_ok (v : VB) (m : MR) (bs : List UInt8) (x dd rd n : Nat) (w : World) (h : VmS w v m bs x (dd + 1) rd) (hd : dd + 1 ≤ v.da) (hv : cellv bs (v.di + dd * 8) = n) (hb : m.base = 16) (hc : cell bs 16 = (10, 0)) (hn : n ≤ 9223372036854775807)
    (hs : m.out.size + (Num.udig 10 n).length < 65535) (h0 : (⟨(Num.udig 10 n).toArray⟩ : ByteArray).toList.isEmpty = false) :
    Calls Tryz.prog 309 #[.pointer (some ⟨v.mb, 0, none⟩), .pointer (some ⟨v.cd, 0, none⟩)] w
      fun e w' => e = .returned (.int .i64 0) ∧ VmS w' v { m with out := m.out ++ (⟨(Num.udig 10 n).toArray⟩ ++ ⟨#[32]⟩) } bs x dd rd ∧ Fr (fun j => j = v.mb ∨ j = v.db) w w' := by
  have HT := Lib.hid (take1_ok v m bs x dd rd w h hd)
  rw [hv] at HT
  have HD := Lib.hid (fun W hW => dot_ok v m bs x dd rd n W hW hb hc hn hs h0)
  have hq := h.ne3
  have HC := Lib.hid h.dotc
  obtain ⟨M2, hM2⟩ : ∃ M, ({ m with out := m.out ++ (⟨(Num.udig 10 n).toArray⟩ ++ ⟨#[32]⟩) } : MR) = M := ⟨_, rfl⟩
  rw [hM2] at HD ⊢
  clear h hd hv hb hc hn hs h0 hM2
  go_enter Tryz.func309, Tryz.ntmps309
  go_wp2_with (go_at_call 308; refine HT.out.mono ?_; rintro e w1 ⟨rfl, hq1, hv1, hf1⟩)
  have hcd := cell_of_one (show w1.heap[v.cd]? = _ from hf1.obj HC.out (fun e => hq.2.2.2.2 e.symm))
  have HV1 := Lib.hid hv1
  have HF1 := Lib.hid hf1
  clear hv1 hf1
  go_wp2_with fail
  go_still_tail 5, (by kernel_rfl)
  change wpList _ _ _ _ _ w1.drew
  go_wp2_with (go_at_call 221; refine (HD.out _ (HV1.out.nf (Fr.refl _ _).drew)).mono ?_; rintro e w2 ⟨rfl, hv2, hf2⟩)
  go_ret
  exact ⟨rfl, hv2, (HF1.out.mono fun _ _ e => .inr e).trans (Fr.undrew (hf2.mono fun _ _ e => .inl e))⟩
end Go.Proofs.YthkmbnkkohomeaaGreatDoor.Mem

/- Executing the word '.': enter, step, Run. -/
namespace Go.Proofs.YthkmbnkkohomeaaGreatDoor.Mem
open Go.RowKit

set_option maxRecDepth 100000 in
set_option maxHeartbeats 2000000 in
theorem enter_dot (v : VB) (m : MR) (bs : List UInt8) (x dd rd n : Nat) (xt : Int) (w : World) (h : VmS w v m bs x (dd + 1) rd) (hd : dd + 1 ≤ v.da) (hv : cellv bs (v.di + dd * 8) = n) (hb : m.base = 16) (hc : cell bs 16 = (10, 0)) (hn : n ≤ 9223372036854775807)
    (hs : m.out.size + (Num.udig 10 n).length < 65535) (h0 : (⟨(Num.udig 10 n).toArray⟩ : ByteArray).toList.isEmpty = false) (hx : cell bs xt = (68, 0)) :
    Calls Tryz.prog 197 #[.pointer (some ⟨v.mb, 0, none⟩), .int .i64 xt] w
      fun e w' => e = .returned (.int .i64 0) ∧ VmS w' v { m with out := m.out ++ (⟨(Num.udig 10 n).toArray⟩ ++ ⟨#[32]⟩) } bs x dd rd ∧ Fr (fun j => j = v.mb ∨ j = v.db) w w' := by
  have hM := cell_any v.p v.g bs xt w h.sat.mat
  rw [hx] at hM
  have HM := Lib.hid hM
  have q0 : w.cell? ⟨v.mb, 0, none⟩ = some (.pointer (some ⟨v.sb, 0, none⟩)) := by rw [← h.sp]; exact h.row.cells.1
  have q17 : w.cell? ⟨v.mb, 17, none⟩ = some (.map (some v.cm)) := by rw [← h.does]; exact h.row.cells.2.2.2.2.2.2.2.2.2.2.2.2.2.2.2.2.2
  have s0 := h.sat.cells.1
  have HW := Lib.hid (with_dot_ok v m bs x dd rd n w h hd hv hb hc hn hs h0)
  obtain ⟨nn, ⟨G, hG, hg⟩, hnn⟩ := h.dot
  have HG := Lib.hid hG
  obtain ⟨M2, hM2⟩ : ∃ M, ({ m with out := m.out ++ (⟨(Num.udig 10 n).toArray⟩ ++ ⟨#[32]⟩) } : MR) = M := ⟨_, rfl⟩
  rw [hM2] at HW ⊢
  have hg' : G (.int .i64 68) = some (.func (.func 309) #[] #[.pointer (some ⟨v.cd, 0, none⟩)]) := hg
  clear h hd hv hb hc hn hs h0 hx hM hG hM2 hg
  go_enter Tryz.func197, Tryz.ntmps197
  go_wp2_with (first | (go_at_call 100; refine HM.out.mono ?_; rintro e w' ⟨rfl, hw0⟩; obtain rfl := hw0.symm; clear hw0) | (at_lookup; refine wpList_lookOk_fmap _ rfl _ _ 110 2 193 rfl intKey Tryz.underlying110 rfl v.cm nn G rfl HG.out (.int .i64 68) (.int .i64 68) rfl rfl ?_; rw [hg']) | (go_at_call 309; refine HW.out.mono ?_; rintro e w2 ⟨rfl, hv2, hf2⟩))
  go_ret
  exact ⟨rfl, hv2, hf2⟩
end Go.Proofs.YthkmbnkkohomeaaGreatDoor.Mem
