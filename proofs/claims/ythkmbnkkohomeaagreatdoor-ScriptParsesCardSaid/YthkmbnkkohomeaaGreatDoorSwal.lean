/- Several texts in one: ItP, SpF, LwA. -/
import Derived.Shelf.SlIter.Nil
import Derived.Shelf.SortM.Plain
import Derived.Shelf.SortM.SortNone
import Derived.Ground.GgzProg
import Derived.Ground.SlgmProg
import Derived.Test.YthkmbnkkohomeaaGreatDoorProg
import Derived.Test.YthkmbnkkohomeaaGreatDoorSwah
import Derived.Laws.IdiomStrings
import Derived.Laws.BytesArg
set_option linter.unusedSimpArgs false
set_option linter.unusedVariables false
/- The library's contracts on slices.Sorted(maps.Keys(m)) at the dump of ScriptParses and ScriptShows (lay-iter, made plain): THE NUMBERS ARE THAT DUMP's. -/
namespace Go.Proofs
open Go.RowKit Go.Maps Go.Sort Go.Shelf
def Tryz.keys91_ren : Go.Shelf.Ren := ⟨fun | 7 => 91 | 10 => 161 | n => n, fun | 23 => 97 | 26 => 9 | 3 => 130 | 28 => 161 | 0 => 0 | 27 => 160 | 33 => 35 | 4 => 4 | n => n, fun | n => n⟩
theorem Tryz.keys91 : Go.Proofs.SlLaysZ.n7 Tryz.prog Tryz.keys91_ren := {
  mixed := by kernel_rfl
  f7 := ⟨Tryz.f91.name, by decide, Tryz.func91.trans (congrArg some (by kernel_rfl))⟩
  f10 := ⟨Tryz.f161.name, by decide, Tryz.func161.trans (congrArg some (by kernel_rfl))⟩
  t0 := Tryz.underlying0
  a0 := Tryz.isAgg0
  z0 := Tryz.sizeOf0
  v0 := Tryz.zeroValue0
  t4 := Tryz.underlying4
  a4 := Tryz.isAgg4
  z4 := Tryz.sizeOf4
  v4 := Tryz.zeroValue4
  t23 := Tryz.underlying97
  a23 := Tryz.isAgg97
  z23 := Tryz.sizeOf97
  v23 := Tryz.zeroValue97
  t26 := Tryz.underlying9
  a26 := Tryz.isAgg9
  z26 := Tryz.sizeOf9
  v26 := Tryz.zeroValue9
  t27 := Tryz.underlying160
  a27 := Tryz.isAgg160
  z27 := Tryz.sizeOf160
  v27 := Tryz.zeroValue160
  t28 := Tryz.underlying161
  a28 := Tryz.isAgg161
  z28 := Tryz.sizeOf161
  v28 := Tryz.zeroValue161
  t33 := Tryz.underlying35
  a33 := Tryz.isAgg35
  z33 := Tryz.sizeOf35
  v33 := Tryz.zeroValue35 }
def Tryz.sorted90_ren : Go.Shelf.Ren := ⟨fun | 6 => 90 | 8 => 159 | 9 => 160 | 11 => 294 | 13 => 296 | 12 => 295 | 23 => 369 | 24 => 70 | 14 => 360 | 15 => 361 | 16 => 362 | 17 => 363 | 18 => 364 | 19 => 365 | 20 => 366 | 21 => 367 | 22 => 368 | 25 => 390 | 26 => 391 | 27 => 392 | 28 => 393 | 29 => 394 | 30 => 395 | 31 => 403 | n => n, fun | 26 => 9 | 28 => 161 | 24 => 70 | 0 => 0 | 3 => 3 | 37 => 117 | 48 => 141 | 50 => 74 | 4 => 4 | 40 => 344 | 39 => 343 | 45 => 349 | 5 => 5 | 9 => 9 | 51 => 369 | 55 => 373 | 57 => 388 | 58 => 389 | 33 => 35 | n => n, fun | n => n⟩
theorem Tryz.sorted90 : Go.Proofs.SlLaysZ.n6 Tryz.prog Tryz.sorted90_ren := {
  mixed := by kernel_rfl
  f6 := ⟨Tryz.f90.name, by decide, Tryz.func90.trans (congrArg some (by kernel_rfl))⟩
  f8 := ⟨Tryz.f159.name, by decide, Tryz.func159.trans (congrArg some (by kernel_rfl))⟩
  f11 := ⟨Tryz.f294.name, by decide, Tryz.func294.trans (congrArg some (by kernel_rfl))⟩
  t0 := Tryz.underlying0
  a0 := Tryz.isAgg0
  z0 := Tryz.sizeOf0
  v0 := Tryz.zeroValue0
  t24 := Tryz.underlying70
  a24 := Tryz.isAgg70
  z24 := Tryz.sizeOf70
  v24 := Tryz.zeroValue70
  t26 := Tryz.underlying9
  a26 := Tryz.isAgg9
  z26 := Tryz.sizeOf9
  v26 := Tryz.zeroValue9
  t28 := Tryz.underlying161
  a28 := Tryz.isAgg161
  z28 := Tryz.sizeOf161
  v28 := Tryz.zeroValue161
  i26 := by kernel_rfl }
def Tryz.sort160_ren : Go.Shelf.Ren := ⟨fun | 6 => 160 | 8 => 296 | 9 => 295 | 19 => 369 | 20 => 70 | 21 => 360 | 22 => 361 | 23 => 362 | 24 => 363 | 25 => 364 | 26 => 365 | 27 => 366 | 28 => 367 | 29 => 368 | 36 => 390 | 31 => 391 | 32 => 392 | 37 => 393 | 38 => 394 | 39 => 395 | 41 => 403 | n => n, fun | 27 => 70 | 29 => 9 | 3 => 3 | 32 => 117 | 26 => 70 | 0 => 0 | 44 => 141 | 46 => 74 | 4 => 4 | 36 => 344 | 35 => 343 | 41 => 349 | 5 => 5 | 9 => 9 | 53 => 369 | 57 => 373 | 63 => 388 | 64 => 389 | n => n, fun | n => n⟩
theorem Tryz.sort160 : Go.Proofs.SlLaysM.n6 Tryz.prog Tryz.sort160_ren := {
  mixed := by kernel_rfl
  f6 := ⟨Tryz.f160.name, by decide, Tryz.func160.trans (congrArg some (by kernel_rfl))⟩
  f8 := Tryz.func296.trans (congrArg some (by kernel_rfl))
  f9 := ⟨Tryz.f295.name, by decide, Tryz.func295.trans (congrArg some (by kernel_rfl))⟩
  f19 := Tryz.func369.trans (congrArg some (by kernel_rfl))
  f20 := Tryz.func70.trans (congrArg some (by kernel_rfl))
  f21 := ⟨Tryz.f360.name, by decide, Tryz.func360.trans (congrArg some (by kernel_rfl))⟩
  f22 := ⟨Tryz.f361.name, by decide, Tryz.func361.trans (congrArg some (by kernel_rfl))⟩
  f23 := ⟨Tryz.f362.name, by decide, Tryz.func362.trans (congrArg some (by kernel_rfl))⟩
  f24 := ⟨Tryz.f363.name, by decide, Tryz.func363.trans (congrArg some (by kernel_rfl))⟩
  f25 := ⟨Tryz.f364.name, by decide, Tryz.func364.trans (congrArg some (by kernel_rfl))⟩
  f26 := ⟨Tryz.f365.name, by decide, Tryz.func365.trans (congrArg some (by kernel_rfl))⟩
  f27 := ⟨Tryz.f366.name, by decide, Tryz.func366.trans (congrArg some (by kernel_rfl))⟩
  f28 := ⟨Tryz.f367.name, by decide, Tryz.func367.trans (congrArg some (by kernel_rfl))⟩
  f29 := ⟨Tryz.f368.name, by decide, Tryz.func368.trans (congrArg some (by kernel_rfl))⟩
  f31 := Tryz.func391.trans (congrArg some (by kernel_rfl))
  f32 := Tryz.func392.trans (congrArg some (by kernel_rfl))
  f36 := ⟨Tryz.f390.name, by decide, Tryz.func390.trans (congrArg some (by kernel_rfl))⟩
  f37 := ⟨Tryz.f393.name, by decide, Tryz.func393.trans (congrArg some (by kernel_rfl))⟩
  f38 := ⟨Tryz.f394.name, by decide, Tryz.func394.trans (congrArg some (by kernel_rfl))⟩
  f39 := ⟨Tryz.f395.name, by decide, Tryz.func395.trans (congrArg some (by kernel_rfl))⟩
  f41 := ⟨Tryz.f403.name, by decide, Tryz.func403.trans (congrArg some (by kernel_rfl))⟩
  t0 := Tryz.underlying0
  a0 := Tryz.isAgg0
  z0 := Tryz.sizeOf0
  v0 := Tryz.zeroValue0
  t3 := Tryz.underlying3
  a3 := Tryz.isAgg3
  z3 := Tryz.sizeOf3
  v3 := Tryz.zeroValue3
  t4 := Tryz.underlying4
  a4 := Tryz.isAgg4
  z4 := Tryz.sizeOf4
  v4 := Tryz.zeroValue4
  t5 := Tryz.underlying5
  a5 := Tryz.isAgg5
  z5 := Tryz.sizeOf5
  v5 := Tryz.zeroValue5
  t9 := Tryz.underlying9
  a9 := Tryz.isAgg9
  z9 := Tryz.sizeOf9
  v9 := Tryz.zeroValue9
  t26 := Tryz.underlying70
  a26 := Tryz.isAgg70
  z26 := Tryz.sizeOf70
  v26 := Tryz.zeroValue70
  t27 := Tryz.underlying70
  a27 := Tryz.isAgg70
  z27 := Tryz.sizeOf70
  v27 := Tryz.zeroValue70
  t29 := Tryz.underlying9
  a29 := Tryz.isAgg9
  z29 := Tryz.sizeOf9
  v29 := Tryz.zeroValue9
  t32 := Tryz.underlying117
  a32 := Tryz.isAgg117
  z32 := Tryz.sizeOf117
  v32 := Tryz.zeroValue117
  t35 := Tryz.underlying343
  a35 := Tryz.isAgg343
  z35 := Tryz.sizeOf343
  v35 := Tryz.zeroValue343
  t36 := Tryz.underlying344
  a36 := Tryz.isAgg344
  z36 := Tryz.sizeOf344
  v36 := Tryz.zeroValue344
  t41 := Tryz.underlying349
  a41 := Tryz.isAgg349
  z41 := Tryz.sizeOf349
  v41 := Tryz.zeroValue349
  t44 := Tryz.underlying141
  a44 := Tryz.isAgg141
  z44 := Tryz.sizeOf141
  v44 := Tryz.zeroValue141
  t46 := Tryz.underlying74
  a46 := Tryz.isAgg74
  z46 := Tryz.sizeOf74
  v46 := Tryz.zeroValue74
  t53 := Tryz.underlying369
  a53 := Tryz.isAgg369
  z53 := Tryz.sizeOf369
  v53 := Tryz.zeroValue369
  t57 := Tryz.underlying373
  a57 := Tryz.isAgg373
  z57 := Tryz.sizeOf373
  v57 := Tryz.zeroValue373
  t63 := Tryz.underlying388
  a63 := Tryz.isAgg388
  z63 := Tryz.sizeOf388
  v63 := Tryz.zeroValue388
  t64 := Tryz.underlying389
  a64 := Tryz.isAgg389
  z64 := Tryz.sizeOf389
  v64 := Tryz.zeroValue389 }
theorem Tryz.sorts90 (m : Nat) : AnyZ.SortsIn Tryz.prog Tryz.sorted90_ren Fence.wide m :=
  ⟨fun blk off cap ss W hH hblk hsz => callsIn_wide.2 (AnyM.slices_Sort_string Tryz.sort160 blk off cap ss W hH hblk hsz),
   fun p cap W => callsIn_wide.2 (AnyM.slices_Sort_string_none Tryz.sort160 p cap W)⟩

theorem Tryz.maps_Keys_91 (mb : Option Nat) (W : World) : CallsIn Fence.wide 5 Tryz.prog 91 #[.map mb] W fun e w' => e = .returned (.func (.func 161) #[] #[.pointer (some ⟨W.heap.size, 0, none⟩)]) ∧ w' = W.alloc (.cells #[.map mb] 97) :=
  AnyZ.keys_in Tryz.keys91 Fence.wide 5 trivial rfl mb W

set_option maxHeartbeats 1000000 in
theorem Tryz.slices_Sorted_keys_90_91 {H : Type} (b nn : Nat) (D0 : DataW H) (R : Value → Option (DataW H × List MemPlace)) (w : World) (hown : w.ownsMap Tryz.prog 9 R b nn D0) (hmax : Maps.size D0 ≤ maxLen) (hbytes : Maps.size D0 * 16 ≤ 140737488355328) :
    CallsIn Fence.wide 5 Tryz.prog 90 #[.func (.func 161) #[] #[.pointer (some ⟨w.heap.size, 0, none⟩)]] (w.alloc (.cells #[.map (some b)] 97)) fun e w' => ∃ (v : Value) (ss : List (List UInt8)), e = .returned v ∧ ss.Perm (strKeys D0) ∧
      w'.ownsRow (w.alloc (.cells #[.map (some b)] 97)).heap.size 9 1 v ss.length ((ss.mergeSort (fun x y => decide (x ≤ y))).map encStr) ∧ (v = .slice none 0 0 ↔ ss = []) ∧ Below (w.alloc (.cells #[.map (some b)] 97)).heap.size (w.alloc (.cells #[.map (some b)] 97)) w' := by
  have hbl := hown.lt
  have hseq : SeqGives Fence.wide 2 Tryz.prog 161 #[.pointer (some ⟨w.heap.size, 0, none⟩)] encStr (fun ss => ss.Perm (strKeys D0)) (Maps.size D0) (w.alloc (.cells #[.map (some b)] 97)) :=
    AnyZ.keys_gives (ρ := Tryz.keys91_ren) { Tryz.keys91 with } Fence.wide _ trivial rfl (by omega) w.heap.size b nn D0 _ (by simp) (by simp) (by
      obtain ⟨es, clock, hb, Ft, hs, hD⟩ := hown
      exact ⟨es, clock, (Below.heap_alloc _ _ b hbl).trans hb, Ft, hs, hD⟩)
  exact AnyZ.sorted_in Tryz.sorted90 Fence.wide 5 trivial trivial trivial trivial rfl (by omega) (Tryz.sorts90 _) (enters_of Tryz.func160 (by kernel_rfl) rfl) 161 #[.pointer (some ⟨w.heap.size, 0, none⟩)] trivial (enters_of Tryz.func161 (by kernel_rfl) rfl) _ _ hmax hbytes _ hseq

set_option maxHeartbeats 1000000 in
theorem Tryz.slices_Sorted_keys_nil_90_91 (w : World) :
    CallsIn Fence.wide 5 Tryz.prog 90 #[.func (.func 161) #[] #[.pointer (some ⟨w.heap.size, 0, none⟩)]] (w.alloc (.cells #[.map none] 97)) fun e w' => ∃ (v : Value) (ss : List (List UInt8)), e = .returned v ∧ ss = [] ∧
      w'.ownsRow (w.alloc (.cells #[.map none] 97)).heap.size 9 1 v ss.length ((ss.mergeSort (fun x y => decide (x ≤ y))).map encStr) ∧ (v = .slice none 0 0 ↔ ss = []) ∧ Below (w.alloc (.cells #[.map none] 97)).heap.size (w.alloc (.cells #[.map none] 97)) w' := by
  have hseq : SeqGives Fence.wide 2 Tryz.prog 161 #[.pointer (some ⟨w.heap.size, 0, none⟩)] encStr (fun ss : List (List UInt8) => ss = []) 0 (w.alloc (.cells #[.map none] 97)) :=
    AnyZ.keys_gives_nil (ρ := Tryz.keys91_ren) { Tryz.keys91 with } Fence.wide _ trivial rfl w.heap.size _ (by simp) (by simp)
  exact AnyZ.sorted_in Tryz.sorted90 Fence.wide 5 trivial trivial trivial trivial rfl (by omega) (Tryz.sorts90 _) (enters_of Tryz.func160 (by kernel_rfl) rfl) 161 #[.pointer (some ⟨w.heap.size, 0, none⟩)] trivial (enters_of Tryz.func161 (by kernel_rfl) rfl) _ 0 (Nat.zero_le _) (by omega) _ hseq

end Go.Proofs

/- Contracts of package space: Chars; of head and class: List, Root. -/
namespace Go.Proofs.YthkmbnkkohomeaaGreatDoor.Mem
open Go.RowKit

set_option maxRecDepth 100000 in
set_option maxHeartbeats 1000000 in
theorem chars1_ok (b p g a z x c1 c2 : Nat) (bs : List UInt8) (s : ByteArray) (w : World) (h : Sat w b p g a z x bs) (hx : x + s.size ≤ bs.length) (h1 : w.cell? ⟨c1, 0, none⟩ = some (.pointer (some ⟨b, 0, none⟩))) (h2 : w.cell? ⟨c2, 0, none⟩ = some (.string s)) :
    Calls Tryz.prog 380 #[.int .i64 x, .pointer (some ⟨c1, 0, none⟩), .pointer (some ⟨c2, 0, none⟩)] w fun e w' => e = .returned (.int .i64 0) ∧ Mat 221 w' p g (put bs x s.data.toList) ∧ Only g w w' := by
  obtain ⟨q0, _, _, _⟩ := h.cells
  have hsz : s.size ≤ 1048576 := by have := h.mat.2.2.2; omega
  have HC := Lib.hid (fun (w : World) (h : Mat 221 w p g bs) => (by
    have hlen : s.data.toList.length = s.size := Array.length_toList
    have hh : has bs.length (x : Int) s.size = true := by simp [has]; omega
    have := setText_any p g bs x s w h hsz
    unfold codet sett at this
    rw [hlen, if_pos hh, if_pos hh, Int.toNat_natCast] at this
    exact this : Calls Tryz.prog 377 #[.pointer (some ⟨p, 0, none⟩), .int .i64 x, .string s] w fun e w' => e = .returned (.int .i64 0) ∧ Mat 221 w' p g (put bs x s.data.toList) ∧ Only g w w'))
  have HM := Lib.hid h.mat
  have hpg := h.mat.1
  have hbg := h.2.1
  have K := Lib.hid (And.intro h1 (And.intro h2 q0))
  clear h hx
  go_enter Tryz.func380, Tryz.ntmps380
  go_wp2
  go_region_with (go_at_call 377; refine (HC.out _ (Mat.drew HM.out)).mono ?_; rintro e w9 ⟨rfl, hm, hf⟩)
  all_goals
    go_wp2
    go_ret
    exact ⟨rfl, hm, Fr.undrew hf⟩
set_option maxRecDepth 100000 in
set_option maxHeartbeats 1000000 in
theorem put_text (b p g a z x c1 c2 : Nat) (bs : List UInt8) (s : ByteArray) (w : World) (h : Sat w b p g a z x bs) (hz : x + s.size ≤ z)
    (k1 : w.cell? ⟨c1, 0, none⟩ = some (.pointer (some ⟨b, 0, none⟩))) (k2 : w.cell? ⟨c2, 0, none⟩ = some (.string s)) :
    Calls Tryz.prog 240 #[.pointer (some ⟨b, 0, none⟩), .int .i64 s.size, .func (.func 380) #[] #[.pointer (some ⟨c1, 0, none⟩), .pointer (some ⟨c2, 0, none⟩)]] w
      fun e w' => e = .returned (.int .i64 0) ∧ Sat w' b p g a z (x + s.size) (put bs x s.data.toList) ∧ Both b g w w' := by
  obtain ⟨h0, h1, h2, h3⟩ := h.cells
  have hb := h.bd
  have HC := Lib.hid (fun w h k1 k2 => chars1_ok b p g a z x c1 c2 bs s w h (by have := h.bd; omega) k1 k2)
  have HS := Lib.hid (fun n => (show Sat (w.drewN n) b p g a z x bs from h))
  have HK := Lib.hid (And.intro k1 k2)
  have hzz : (s.size : Int) ≤ (z : Int) - (x : Int) := by omega
  have hbd : x ≤ 1048576 ∧ z ≤ 1048576 ∧ s.size ≤ 1048576 := by omega
  have HL := Lib.hid ((put_length bs x s.data.toList (by have hlen : s.data.toList.length = s.size := Array.length_toList; omega)))
  have HB := Lib.hid hb
  clear h hb k1 k2
  go_enter Tryz.func240, Tryz.ntmps240
  go_wp2
  go_quiet (fail)
  go_wp2_with (go_at_call 380; refine (HC.out _ (HS.out _) HK.out.1 HK.out.2).mono ?_; rintro e w' ⟨rfl, hm, hf⟩; have hS2 := (HS.out _).wrote hf hm HL.out; obtain ⟨q0, q1, q2, q3⟩ := hS2.cells; have q4 := hS2.free 3; have HS2 := Lib.hid hS2; have HF := Lib.hid hf; clear hS2 hm hf)
  go_ret
  refine ⟨rfl, HS2.out.move (x + s.size) (by have := HB.out; omega) hz, ?_⟩
  refine Fr.setCell (S := fun j => j = b ∨ j = g) ?_ (.inr (.inl rfl)) _
  exact (Fr.drewN' _ HF.out).mono fun k _ e => .inr e

set_option maxRecDepth 100000 in
set_option maxHeartbeats 1000000 in
theorem chars_ok (b p g a z x : Nat) (bs : List UInt8) (s : ByteArray) (w : World) (h : Sat w b p g a z x bs) (hz : x + s.size ≤ z) :
    Calls Tryz.prog 334 #[.pointer (some ⟨b, 0, none⟩), .string s] w
      fun e w' => e = .returned (.int .i64 0) ∧ Sat w' b p g a z (x + s.size) (put bs x s.data.toList) ∧ Both b g w w' := by
  have hmf : ∀ (fn : Fn) (first cap : Array Value) (w : World), (Instr.makeFunc fn first cap).run Tryz.prog w = .ok (.func fn first cap) w := fun _ _ _ _ => rfl
  have hF : Fr (fun _ => False) w ((w.alloc (.cells #[.pointer (some ⟨b, 0, none⟩)] 106)).alloc (.cells #[.string s] 9)) := ((Fr.refl _ _).alloc _).alloc _
  have hcl := two_new w (.pointer (some ⟨b, 0, none⟩)) (.string s) 106 9
  have HP := Lib.hid (put_text b p g a z x w.heap.size (w.heap.size + 1) bs s _ (h.fr hF id id id) hz hcl.1 hcl.2)
  have hc1 := hcl.1
  have HF := Lib.hid hF
  clear h hcl hF
  go_enter Tryz.func334, Tryz.ntmps334
  go_wp2_with (go_at_call 240; refine HP.out.mono ?_; rintro e w' ⟨rfl, hs, hf⟩)
  go_ret
  exact ⟨rfl, hs, Fr.trans (HF.out.mono fun _ _ e => e.elim) hf⟩

set_option maxRecDepth 100000 in
set_option maxHeartbeats 1000000 in
theorem list_ok (b p g a z x : Nat) (bs : List UInt8) (w : World) (h : Sat w b p g a z x bs) (hz : al8 x + 8 ≤ z) :
    Calls Tryz.prog 125 #[.pointer (some ⟨b, 0, none⟩)] w
      fun e w' => e = .returned (.tuple #[.int .i64 (al8 x : Nat), .int .i64 0]) ∧ Sat w' b p g a z (al8 x + 8) (setv (put bs x (List.replicate (al8 x - x) 0)) (al8 x) 0) ∧ Both b g w w' := by
  have HA := Lib.hid (alignTo_ok b p g a z x bs w h (by omega))
  obtain ⟨t, ht⟩ : ∃ t, al8 x = t := ⟨_, rfl⟩
  have h8 : t % 8 = 0 := by unfold al8 at ht; omega
  obtain ⟨cs, hcs⟩ : ∃ cs, put bs x (List.replicate (al8 x - x) 0) = cs := ⟨_, rfl⟩
  rw [hcs] at HA ⊢
  rw [ht] at HA hz ⊢
  have HH := Lib.hid (fun W (hW : Sat W b p g a z t cs) => here_any b p g a z t cs W hW)
  have HC := Lib.hid (fun W (hW : Sat W b p g a z t cs) => comma_ok b p g a z t cs 0 W hW h8 hz)
  clear h ht hcs
  go_enter Tryz.func125, Tryz.ntmps125
  go_wp2_with (first
    | (go_at_call 215; refine HA.out.mono ?_; rintro e w1 ⟨rfl, hs1, hf1⟩)
    | (go_at_call 61; refine (HH.out _ hs1).mono ?_; rintro e w2 ⟨rfl, h0⟩; obtain rfl := h0.symm)
    | (go_at_call 124; refine (HC.out _ hs1).mono ?_; rintro e w3 ⟨rfl, hs3, hf3⟩))
  go_ret2
  exact ⟨rfl, hs3, hf1.trans hf3⟩

set_option maxRecDepth 100000 in
set_option maxHeartbeats 1000000 in
theorem root_ok (b p g a z x : Nat) (bs : List UInt8) (w : World) (h : Sat w b p g a z x bs) (hz : al8 x + 8 ≤ z) :
    Calls Tryz.prog 123 #[.pointer (some ⟨b, 0, none⟩)] w
      fun e w' => e = .returned (.tuple #[.int .i64 (al8 x : Nat), .int .i64 0]) ∧ Sat w' b p g a z (al8 x + 8) (setv (put bs x (List.replicate (al8 x - x) 0)) (al8 x) 0) ∧ Both b g w w' := by
  have HA := Lib.hid (alignTo_ok b p g a z x bs w h (by omega))
  obtain ⟨t, ht⟩ : ∃ t, al8 x = t := ⟨_, rfl⟩
  have h8 : t % 8 = 0 := by unfold al8 at ht; omega
  obtain ⟨cs, hcs⟩ : ∃ cs, put bs x (List.replicate (al8 x - x) 0) = cs := ⟨_, rfl⟩
  rw [hcs] at HA ⊢
  rw [ht] at HA hz ⊢
  have HH := Lib.hid (fun W (hW : Sat W b p g a z t cs) => here_any b p g a z t cs W hW)
  have HC := Lib.hid (fun W (hW : Sat W b p g a z t cs) => comma_ok b p g a z t cs 0 W hW h8 hz)
  clear h ht hcs
  go_enter Tryz.func123, Tryz.ntmps123
  go_wp2_with (first
    | (go_at_call 215; refine HA.out.mono ?_; rintro e w1 ⟨rfl, hs1, hf1⟩)
    | (go_at_call 61; refine (HH.out _ hs1).mono ?_; rintro e w2 ⟨rfl, h0⟩; obtain rfl := h0.symm)
    | (go_at_call 124; refine (HC.out _ hs1).mono ?_; rintro e w3 ⟨rfl, hs3, hf3⟩))
  go_ret2
  exact ⟨rfl, hs3, hf1.trans hf3⟩

end Go.Proofs.YthkmbnkkohomeaaGreatDoor.Mem

/- Contracts of packages intern and source: Lower, New; a text, read word by word. -/
namespace Go.Proofs.YthkmbnkkohomeaaGreatDoor.Mem
open Go.RowKit

/-- A byte's lower case. -/
def lowb (c : UInt8) : UInt8 := if 65 ≤ c.toNat ∧ c.toNat ≤ 90 then UInt8.ofNat (c.toNat + 32) else c
def lower (l : List UInt8) : List UInt8 := l.map lowb
theorem lowb_val (c : UInt8) : ((lowb c).toNat : Int) = if 65 ≤ c.toNat ∧ c.toNat ≤ 90 then (c.toNat : Int) + 32 else c.toNat := by
  unfold lowb
  split
  · rename_i h
    have : (UInt8.ofNat (c.toNat + 32)).toNat = c.toNat + 32 := by simp; omega
    rw [this]
    omega
  · rfl

/-- A text's bytes, the first k of them lowered. -/
def lowk (l : List UInt8) (k : Nat) : List UInt8 := (l.take k).map lowb ++ l.drop k
theorem lowk_length (l : List UInt8) (k : Nat) : (lowk l k).length = l.length := by simp [lowk]; omega
theorem lowk_get (l : List UInt8) (k : Nat) (h : k < l.length) : (lowk l k)[k]? = some l[k] := by
  unfold lowk
  rw [List.getElem?_append_right (by simp; omega)]
  simp [Nat.min_eq_left (Nat.le_of_lt h)]
theorem lowk_next (l : List UInt8) (k : Nat) (h : k < l.length) : (lowk l k).set k (lowb l[k]) = lowk l (k + 1) := by
  unfold lowk
  have hl : ((l.take k).map lowb).length = k := by simp; omega
  rw [List.set_append_right _ _ (by omega), hl, Nat.sub_self, List.drop_eq_getElem_cons h, List.set_cons_zero, List.take_succ_eq_append_getElem h, List.map_append]
  simp
theorem lowk_zero (l : List UInt8) : lowk l 0 = l := by simp [lowk]
theorem lowk_all (l : List UInt8) : lowk l l.length = lower l := by simp [lowk, lower]

theorem List.set_getElem_self' {α : Type} {l : List α} {k : Nat} {c : α} (h : l[k]? = some c) : l.set k c = l := by
  apply List.ext_getElem?
  intro i
  rw [List.getElem?_set]
  by_cases e : k = i
  · subst e
    rw [if_pos rfl, h]
    split
    · rfl
    · rename_i hh
      exact absurd (List.getElem?_eq_some_iff.1 h).1 hh
  · rw [if_neg e]
/-- Bytes in a block of the call's own, that may be written. -/
def LowRow (w : World) (b : Nat) (l : List UInt8) : Prop := b < w.heap.size ∧ ∀ j (h : j < l.length), w.cell? ⟨b, j, none⟩ = some (.int .u8 (l[j].toNat : Int)) ∧ w.frozen? ⟨b, j, none⟩ = false
theorem LowRow.set {w : World} {b : Nat} {l : List UInt8} (h : LowRow w b l) (k : Nat) (c : UInt8) (hk : k < l.length) : LowRow (w.setCell ⟨b, k, none⟩ (.int .u8 (c.toNat : Int))) b (l.set k c) := by
  refine ⟨by simpa [World.setCell] using h.1, fun j hj => ?_⟩
  have hj' : j < l.length := by simpa using hj
  refine ⟨?_, by rw [World.frozen?_setCell]; exact (h.2 j hj').2⟩
  by_cases e : k = j
  · subst e
    rw [World.cell?_setCell_same' _ _ _ (by rw [(h.2 k hj').1]; rfl)]
    simp
  · rw [World.cell?_setCell_other _ _ _ _ (fun h => e (Addr.mk.inj h).2.1), (h.2 j hj').1, List.getElem_set_ne e]

set_option maxRecDepth 100000 in
set_option maxHeartbeats 1000000 in
theorem lower_any (s : ByteArray) (w : World) (hs : s.size ≤ 1048576) :
    Calls Tryz.prog 92 #[.string s] w fun e w' => e = .returned (.string ⟨(lower s.data.toList).toArray⟩) ∧ Fr (fun _ => False) w w' := by
  obtain ⟨l, hl⟩ : ∃ l, s.data.toList = l := ⟨_, rfl⟩
  have hsz : s.size = l.length := by rw [← hl]; exact Array.length_toList.symm
  have hcv := run_bytes_of_string (P := Tryz.prog) w 9 55 5 s Tryz.underlying9 Tryz.underlying55 Tryz.underlying5
  obtain ⟨cap, hcap⟩ : ∃ c, grownCap w s.size 0 5 = c := ⟨_, rfl⟩
  rw [hcap] at hcv
  obtain ⟨w1, hw1⟩ : ∃ w1, w.drew.alloc (.cells (bytesRow s cap) 5 ((bytesRow s cap).size, (bytesRow s cap).size + 1)) = w1 := ⟨_, rfl⟩
  have hF1 : Fr (fun _ => False) w w1 := hw1 ▸ ((Fr.refl _ w).drew.alloc _)
  have hR1 : LowRow w1 w.heap.size l := by
    have hA := heap_alloc_last w.drew (.cells (bytesRow s cap) 5 ((bytesRow s cap).size, (bytesRow s cap).size + 1))
    rw [hw1] at hA
    have hA' : w1.heap[w.heap.size]? = some (.cells (bytesRow s cap) 5 ((bytesRow s cap).size, (bytesRow s cap).size + 1)) := hA
    refine ⟨lt_of_block hA', fun j hj => ?_⟩
    have hjb : j < (bytesRow s cap).size := by
      unfold bytesRow
      simp
      have : s.data.size = l.length := by rw [← hl]; exact Array.length_toList.symm
      omega
    have hv : (bytesRow s cap)[j]? = some (.int .u8 (l[j].toNat : Int)) := by
      unfold bytesRow
      have : s.data.size = l.length := by rw [← hl]; exact Array.length_toList.symm
      rw [Array.getElem?_append_left (by simp; omega)]
      subst hl
      simp
      exact ⟨_, Array.getElem?_eq_getElem _, rfl⟩
    constructor
    · rw [cell_of_row _ _ _ _ _ _ hA', hv]
    · unfold World.frozen?
      rw [hA']
      simp
      omega
  rw [hw1] at hcv
  have HR := Lib.hid hR1
  have HF := Lib.hid hF1
  have HL := Lib.hid hl
  have hlb : l.length ≤ 1048576 := by omega
  obtain ⟨n, hn⟩ : ∃ n, l.length = n := ⟨_, rfl⟩
  rw [hn] at hsz hlb
  rw [hsz] at hcv
  have HN := Lib.hid hn
  have HSZ := Lib.hid hsz
  clear hw1 hF1 hR1 hcap hl hs hn hsz
  go_enter Tryz.func92, Tryz.ntmps92
  go_wp2_with fail
  clear hcv
  go_loopw [10] (fun iv wr => ∃ k : Nat, k ≤ n ∧ iv = .int .i64 k ∧ LowRow wr w.heap.size (lowk l k) ∧ Fr (fun _ => False) w wr) (fun iv _ => n - (intOf iv).toNat)
  case atStart => exact ⟨0, Nat.zero_le _, rfl, by rw [lowk_zero]; exact HR.out, HF.out⟩
  case round =>
    obtain ⟨k, hk, rfl, hR, hF⟩ := hrel
    have HR1 := Lib.hid hR
    have HF1 := Lib.hid hF
    clear hF
    by_cases hlt : k < n
    · obtain ⟨hc, hz⟩ := hR.2 k (by rw [lowk_length]; have := HN.out; omega)
      have hkl : k < l.length := by have := HN.out; omega
      obtain ⟨c, hcc⟩ : ∃ c, l[k] = c := ⟨_, rfl⟩
      have hg := lowk_get l k hkl
      rw [hcc] at hg
      have hg' : (lowk l k)[k]'(by rw [lowk_length]; exact hkl) = c := by
        rw [List.getElem?_eq_getElem (by rw [lowk_length]; exact hkl)] at hg
        exact Option.some.inj hg
      rw [hg'] at hc
      have hcb : c.toNat ≤ 255 := by have := c.toNat_lt; omega
      have hnx := lowk_next l k hkl
      rw [hcc] at hnx
      have hv := lowb_val c
      obtain ⟨cn, hcn⟩ : ∃ m, c.toNat = m := ⟨_, rfl⟩
      rw [hcn] at hc hcb hv
      have HNX := Lib.hid hnx
      have HG := Lib.hid hg
      have HV := Lib.hid hv
      have HCN := Lib.hid hcn
      clear hR hg hg' hnx hv hcn
      by_cases h65 : 65 ≤ cn ∧ cn ≤ 90
      · obtain ⟨h1, h2⟩ := h65
        have h1' : (65 : Int) ≤ cn := by omega
        have h2' : (cn : Int) ≤ 90 := by omega
        go_wp2_with fail
        go_roundw
        case rel =>
          refine ⟨k + 1, by omega, by go_num, ?_, ?_⟩
          · have hs := HR1.out.set k (lowb c) (by rw [lowk_length]; exact hkl)
            rw [HV.out, if_pos ⟨h1, h2⟩, HNX.out] at hs
            first
              | exact hs
              | (have e : (cn : Int) - 65 + 97 = cn + 32 := by omega
                 rw [e]; exact hs)
              | (simpa using hs)
          · exact Fr.setCell HF1.out (.inl (Nat.le_refl _)) _
        case measure => simp [intOf]; omega
      · have hlow : lowb c = c := by
          unfold lowb
          rw [if_neg (by rw [HCN.out]; exact h65)]
        have hsame : lowk l (k + 1) = lowk l k := by
          rw [← HNX.out, hlow]
          exact (List.set_getElem_self' HG.out)
        have hd : decide ((65 : Int) ≤ cn) = true → decide ((cn : Int) ≤ 90) = false := by
          intro h
          simp at h ⊢
          omega
        by_cases h1 : 65 ≤ cn
        · have h1' : (65 : Int) ≤ cn := by omega
          have h2' : ¬ (cn : Int) ≤ 90 := by omega
          have h2'' : ¬ cn ≤ 90 := by omega
          have HSM := Lib.hid hsame
          clear hsame hd h65 hlow
          go_wp2_with fail
          go_roundw
          case rel => exact ⟨k + 1, by omega, by go_num, by rw [HSM.out]; exact HR1.out, HF1.out⟩
          case measure => simp [intOf]; omega
        · have h1' : ¬ (65 : Int) ≤ cn := by omega
          have HSM := Lib.hid hsame
          clear hsame hd h65 hlow
          go_wp2_with fail
          go_roundw
          case rel => exact ⟨k + 1, by omega, by go_num, by rw [HSM.out]; exact HR1.out, HF1.out⟩
          case measure => simp [intOf]; omega
    · obtain rfl : k = n := by omega
      have hall := HR1.out
      rw [← HN.out, lowk_all] at hall
      have hlen : (lower l).length = k := by rw [← HN.out]; simp [lower]
      have hback := run_convert_bytes_back (P := Tryz.prog) wr 55 9 5 ⟨w.heap.size, 0, none⟩ cap (lower l) Tryz.underlying55 Tryz.underlying5 Tryz.underlying9 (fun j hj => by
        have := (hall.2 j hj).1
        rw [show (⟨w.heap.size, 0, none⟩ : Addr).add j = ⟨w.heap.size, j, none⟩ from by unfold Addr.add; split <;> simp_all]
        exact this)
      rw [hlen] at hback
      clear hall hlen hR
      go_wp2_with fail
      go_ret
      exact ⟨by rw [HL.out]; rfl, HF1.out⟩
end Go.Proofs.YthkmbnkkohomeaaGreatDoor.Mem
