/- Several texts in one: VmA, VmB. -/
import Derived.Test.YthkmbnkkohomeaaGreatDoorSwaq
import Derived.Test.YthkmbnkkohomeaaGreatDoorSwcr
import Derived.Test.YthkmbnkkohomeaaGreatDoorSwaj
set_option linter.unusedSimpArgs false
set_option linter.unusedVariables false
/- Contracts of package vm: the tables of what the primitives do. -/
namespace Go.Proofs.YthkmbnkkohomeaaGreatDoor.Mem
open Go.RowKit Go.Maps

set_option maxRecDepth 100000 in
theorem with_any (fn : Fn) (fa fb : Array Value) (w : World) :
    Calls Tryz.prog 179 #[.func fn fa fb] w fun e w' => e = .returned (.func (.func 309) #[] #[.pointer (some ⟨w.heap.size, 0, none⟩)]) ∧ w'.heap[w.heap.size]? = some (.cells #[.func fn fa fb] 241 (0, 0)) ∧ Fr (fun _ => False) w w' := by
  have hmf : ∀ (fn : Fn) (first cap : Array Value) (w : World), (Instr.makeFunc fn first cap).run Tryz.prog w = .ok (.func fn first cap) w := fun _ _ _ _ => rfl
  have hA := heap_alloc_last w (.cells #[.func fn fa fb] 241)
  go_enter Tryz.func179, Tryz.ntmps179
  go_wp2_with fail
  go_ret
  exact ⟨rfl, hA, (Fr.refl _ _).alloc _⟩

set_option maxRecDepth 100000 in
theorem rearrange_any (n : Int) (o : Option Addr) (a b : Nat) (w : World) :
    Calls Tryz.prog 203 #[.int .i64 n, .slice o a b] w fun e w' => (∃ c, e = .returned (.func (.func 315) #[] c)) ∧ Fr (fun _ => False) w w' := by
  have hmf : ∀ (fn : Fn) (first cap : Array Value) (w : World), (Instr.makeFunc fn first cap).run Tryz.prog w = .ok (.func fn first cap) w := fun _ _ _ _ => rfl
  go_enter Tryz.func203, Tryz.ntmps203
  go_wp2_with fail
  go_ret
  exact ⟨⟨_, rfl⟩, ((Fr.refl _ _).alloc _).alloc _⟩

set_option maxRecDepth 100000 in
theorem fetch_any (fn : Fn) (fa fb : Array Value) (w : World) :
    Calls Tryz.prog 207 #[.func fn fa fb] w fun e w' => (∃ c, e = .returned (.func (.func 309) #[] c)) ∧ Fr (fun _ => False) w w' := by
  have hmf : ∀ (fn : Fn) (first cap : Array Value) (w : World), (Instr.makeFunc fn first cap).run Tryz.prog w = .ok (.func fn first cap) w := fun _ _ _ _ => rfl
  go_enter Tryz.func207, Tryz.ntmps207
  go_wp2_with (go_at_call 179; refine (with_any _ _ _ _).mono ?_; rintro e w9 ⟨rfl, _, hf9⟩)
  go_ret
  exact ⟨⟨_, rfl⟩, Fr.trans ((Fr.refl _ _).alloc _) hf9⟩

set_option maxRecDepth 100000 in
theorem store_any (fn : Fn) (fa fb : Array Value) (w : World) :
    Calls Tryz.prog 209 #[.func fn fa fb] w fun e w' => (∃ c, e = .returned (.func (.func 317) #[] c)) ∧ Fr (fun _ => False) w w' := by
  have hmf : ∀ (fn : Fn) (first cap : Array Value) (w : World), (Instr.makeFunc fn first cap).run Tryz.prog w = .ok (.func fn first cap) w := fun _ _ _ _ => rfl
  go_enter Tryz.func209, Tryz.ntmps209
  go_wp2_with fail
  go_ret
  exact ⟨⟨_, rfl⟩, (Fr.refl _ _).alloc _⟩

set_option maxRecDepth 100000 in
set_option maxHeartbeats 4000000 in
theorem flow_nd (w : World) :
    Calls Tryz.prog 111 #[] w fun e w' => e = .returned (.map (some w.heap.size)) ∧ FmP [([46], none)] w' w.heap.size 40 ∧ Fr (fun _ => False) w w' := by
  have hmf : ∀ (fn : Fn) (first cap : Array Value) (w : World), (Instr.makeFunc fn first cap).run Tryz.prog w = .ok (.func fn first cap) w := fun _ _ _ _ => rfl
  have hmm := @run_makeMap Tryz.prog
  have hm := FmP.made [[46]] w
  have hF : Fr (fun j => j = w.heap.size) w (w.alloc (.map #[] 0)) := (Fr.refl _ _).alloc _
  go_enter Tryz.func111, Tryz.ntmps111
  go_wp2_with (first | (refine wpList_ins_fmp _ rfl _ _ _ 188 193 (.inr rfl) Tryz.underlying188 _ _ _ rfl hm (by unfold maxLen; omega) _ rfl (by decide) (by decide) _ _ _ rfl ?_; intro w9 hm9 hf9; replace hm := hm9; replace hF := hF.trans hf9; clear hm9 hf9) | (go_at_call 179; refine (with_any _ _ _ _).mono ?_; rintro e w9 ⟨rfl, _, hf9⟩; replace hm := hm.fr (Fr.trans (by repeat' first | exact Fr.refl _ _ | apply Fr.alloc) hf9) id; replace hF := hF.trans (Fr.trans (by repeat' first | exact Fr.refl _ _ | apply Fr.alloc) (Fr.mono hf9 fun _ _ e => e.elim)); clear hf9) | (go_at_call 203; refine (rearrange_any _ _ _ _ _).mono ?_; rintro e w9 ⟨⟨c9, rfl⟩, hf9⟩; replace hm := hm.fr (Fr.trans (by repeat' first | exact Fr.refl _ _ | apply Fr.alloc) hf9) id; replace hF := hF.trans (Fr.trans (by repeat' first | exact Fr.refl _ _ | apply Fr.alloc) (Fr.mono hf9 fun _ _ e => e.elim)); clear hf9) | (go_at_call 207; refine (fetch_any _ _ _ _).mono ?_; rintro e w9 ⟨⟨c9, rfl⟩, hf9⟩; replace hm := hm.fr (Fr.trans (by repeat' first | exact Fr.refl _ _ | apply Fr.alloc) hf9) id; replace hF := hF.trans (Fr.trans (by repeat' first | exact Fr.refl _ _ | apply Fr.alloc) (Fr.mono hf9 fun _ _ e => e.elim)); clear hf9) | (go_at_call 209; refine (store_any _ _ _ _).mono ?_; rintro e w9 ⟨⟨c9, rfl⟩, hf9⟩; replace hm := hm.fr (Fr.trans (by repeat' first | exact Fr.refl _ _ | apply Fr.alloc) hf9) id; replace hF := hF.trans (Fr.trans (by repeat' first | exact Fr.refl _ _ | apply Fr.alloc) (Fr.mono hf9 fun _ _ e => e.elim)); clear hf9))
  go_ret
  exact ⟨rfl, hm.mono (by omega), Fr.mono hF (fun k hk e => by omega)⟩

set_option maxRecDepth 100000 in
set_option maxHeartbeats 4000000 in
theorem shuffles_nd (w : World) :
    Calls Tryz.prog 112 #[] w fun e w' => e = .returned (.map (some w.heap.size)) ∧ FmP [([46], none)] w' w.heap.size 40 ∧ Fr (fun _ => False) w w' := by
  have hmf : ∀ (fn : Fn) (first cap : Array Value) (w : World), (Instr.makeFunc fn first cap).run Tryz.prog w = .ok (.func fn first cap) w := fun _ _ _ _ => rfl
  have hmm := @run_makeMap Tryz.prog
  have hm := FmP.made [[46]] w
  have hF : Fr (fun j => j = w.heap.size) w (w.alloc (.map #[] 0)) := (Fr.refl _ _).alloc _
  go_enter Tryz.func112, Tryz.ntmps112
  go_wp2_with (first | (refine wpList_ins_fmp _ rfl _ _ _ 188 193 (.inr rfl) Tryz.underlying188 _ _ _ rfl hm (by unfold maxLen; omega) _ rfl (by decide) (by decide) _ _ _ rfl ?_; intro w9 hm9 hf9; replace hm := hm9; replace hF := hF.trans hf9; clear hm9 hf9) | (go_at_call 179; refine (with_any _ _ _ _).mono ?_; rintro e w9 ⟨rfl, _, hf9⟩; replace hm := hm.fr (Fr.trans (by repeat' first | exact Fr.refl _ _ | apply Fr.alloc) hf9) id; replace hF := hF.trans (Fr.trans (by repeat' first | exact Fr.refl _ _ | apply Fr.alloc) (Fr.mono hf9 fun _ _ e => e.elim)); clear hf9) | (go_at_call 203; refine (rearrange_any _ _ _ _ _).mono ?_; rintro e w9 ⟨⟨c9, rfl⟩, hf9⟩; replace hm := hm.fr (Fr.trans (by repeat' first | exact Fr.refl _ _ | apply Fr.alloc) hf9) id; replace hF := hF.trans (Fr.trans (by repeat' first | exact Fr.refl _ _ | apply Fr.alloc) (Fr.mono hf9 fun _ _ e => e.elim)); clear hf9) | (go_at_call 207; refine (fetch_any _ _ _ _).mono ?_; rintro e w9 ⟨⟨c9, rfl⟩, hf9⟩; replace hm := hm.fr (Fr.trans (by repeat' first | exact Fr.refl _ _ | apply Fr.alloc) hf9) id; replace hF := hF.trans (Fr.trans (by repeat' first | exact Fr.refl _ _ | apply Fr.alloc) (Fr.mono hf9 fun _ _ e => e.elim)); clear hf9) | (go_at_call 209; refine (store_any _ _ _ _).mono ?_; rintro e w9 ⟨⟨c9, rfl⟩, hf9⟩; replace hm := hm.fr (Fr.trans (by repeat' first | exact Fr.refl _ _ | apply Fr.alloc) hf9) id; replace hF := hF.trans (Fr.trans (by repeat' first | exact Fr.refl _ _ | apply Fr.alloc) (Fr.mono hf9 fun _ _ e => e.elim)); clear hf9))
  go_ret
  exact ⟨rfl, hm.mono (by omega), Fr.mono hF (fun k hk e => by omega)⟩

set_option maxRecDepth 100000 in
set_option maxHeartbeats 4000000 in
theorem memory_nd (w : World) :
    Calls Tryz.prog 113 #[] w fun e w' => e = .returned (.map (some w.heap.size)) ∧ FmP [([46], none)] w' w.heap.size 40 ∧ Fr (fun _ => False) w w' := by
  have hmf : ∀ (fn : Fn) (first cap : Array Value) (w : World), (Instr.makeFunc fn first cap).run Tryz.prog w = .ok (.func fn first cap) w := fun _ _ _ _ => rfl
  have hmm := @run_makeMap Tryz.prog
  have hm := FmP.made [[46]] w
  have hF : Fr (fun j => j = w.heap.size) w (w.alloc (.map #[] 0)) := (Fr.refl _ _).alloc _
  go_enter Tryz.func113, Tryz.ntmps113
  go_wp2_with (first | (refine wpList_ins_fmp _ rfl _ _ _ 188 193 (.inr rfl) Tryz.underlying188 _ _ _ rfl hm (by unfold maxLen; omega) _ rfl (by decide) (by decide) _ _ _ rfl ?_; intro w9 hm9 hf9; replace hm := hm9; replace hF := hF.trans hf9; clear hm9 hf9) | (go_at_call 179; refine (with_any _ _ _ _).mono ?_; rintro e w9 ⟨rfl, _, hf9⟩; replace hm := hm.fr (Fr.trans (by repeat' first | exact Fr.refl _ _ | apply Fr.alloc) hf9) id; replace hF := hF.trans (Fr.trans (by repeat' first | exact Fr.refl _ _ | apply Fr.alloc) (Fr.mono hf9 fun _ _ e => e.elim)); clear hf9) | (go_at_call 203; refine (rearrange_any _ _ _ _ _).mono ?_; rintro e w9 ⟨⟨c9, rfl⟩, hf9⟩; replace hm := hm.fr (Fr.trans (by repeat' first | exact Fr.refl _ _ | apply Fr.alloc) hf9) id; replace hF := hF.trans (Fr.trans (by repeat' first | exact Fr.refl _ _ | apply Fr.alloc) (Fr.mono hf9 fun _ _ e => e.elim)); clear hf9) | (go_at_call 207; refine (fetch_any _ _ _ _).mono ?_; rintro e w9 ⟨⟨c9, rfl⟩, hf9⟩; replace hm := hm.fr (Fr.trans (by repeat' first | exact Fr.refl _ _ | apply Fr.alloc) hf9) id; replace hF := hF.trans (Fr.trans (by repeat' first | exact Fr.refl _ _ | apply Fr.alloc) (Fr.mono hf9 fun _ _ e => e.elim)); clear hf9) | (go_at_call 209; refine (store_any _ _ _ _).mono ?_; rintro e w9 ⟨⟨c9, rfl⟩, hf9⟩; replace hm := hm.fr (Fr.trans (by repeat' first | exact Fr.refl _ _ | apply Fr.alloc) hf9) id; replace hF := hF.trans (Fr.trans (by repeat' first | exact Fr.refl _ _ | apply Fr.alloc) (Fr.mono hf9 fun _ _ e => e.elim)); clear hf9))
  go_ret
  exact ⟨rfl, hm.mono (by omega), Fr.mono hF (fun k hk e => by omega)⟩

set_option maxRecDepth 100000 in
set_option maxHeartbeats 4000000 in
theorem heaps_nd (w : World) :
    Calls Tryz.prog 115 #[] w fun e w' => e = .returned (.map (some w.heap.size)) ∧ FmP [([46], none)] w' w.heap.size 40 ∧ Fr (fun _ => False) w w' := by
  have hmf : ∀ (fn : Fn) (first cap : Array Value) (w : World), (Instr.makeFunc fn first cap).run Tryz.prog w = .ok (.func fn first cap) w := fun _ _ _ _ => rfl
  have hmm := @run_makeMap Tryz.prog
  have hm := FmP.made [[46]] w
  have hF : Fr (fun j => j = w.heap.size) w (w.alloc (.map #[] 0)) := (Fr.refl _ _).alloc _
  go_enter Tryz.func115, Tryz.ntmps115
  go_wp2_with (first | (refine wpList_ins_fmp _ rfl _ _ _ 188 193 (.inr rfl) Tryz.underlying188 _ _ _ rfl hm (by unfold maxLen; omega) _ rfl (by decide) (by decide) _ _ _ rfl ?_; intro w9 hm9 hf9; replace hm := hm9; replace hF := hF.trans hf9; clear hm9 hf9) | (go_at_call 179; refine (with_any _ _ _ _).mono ?_; rintro e w9 ⟨rfl, _, hf9⟩; replace hm := hm.fr (Fr.trans (by repeat' first | exact Fr.refl _ _ | apply Fr.alloc) hf9) id; replace hF := hF.trans (Fr.trans (by repeat' first | exact Fr.refl _ _ | apply Fr.alloc) (Fr.mono hf9 fun _ _ e => e.elim)); clear hf9) | (go_at_call 203; refine (rearrange_any _ _ _ _ _).mono ?_; rintro e w9 ⟨⟨c9, rfl⟩, hf9⟩; replace hm := hm.fr (Fr.trans (by repeat' first | exact Fr.refl _ _ | apply Fr.alloc) hf9) id; replace hF := hF.trans (Fr.trans (by repeat' first | exact Fr.refl _ _ | apply Fr.alloc) (Fr.mono hf9 fun _ _ e => e.elim)); clear hf9) | (go_at_call 207; refine (fetch_any _ _ _ _).mono ?_; rintro e w9 ⟨⟨c9, rfl⟩, hf9⟩; replace hm := hm.fr (Fr.trans (by repeat' first | exact Fr.refl _ _ | apply Fr.alloc) hf9) id; replace hF := hF.trans (Fr.trans (by repeat' first | exact Fr.refl _ _ | apply Fr.alloc) (Fr.mono hf9 fun _ _ e => e.elim)); clear hf9) | (go_at_call 209; refine (store_any _ _ _ _).mono ?_; rintro e w9 ⟨⟨c9, rfl⟩, hf9⟩; replace hm := hm.fr (Fr.trans (by repeat' first | exact Fr.refl _ _ | apply Fr.alloc) hf9) id; replace hF := hF.trans (Fr.trans (by repeat' first | exact Fr.refl _ _ | apply Fr.alloc) (Fr.mono hf9 fun _ _ e => e.elim)); clear hf9))
  go_ret
  exact ⟨rfl, hm.mono (by omega), Fr.mono hF (fun k hk e => by omega)⟩

set_option maxRecDepth 100000 in
set_option maxHeartbeats 4000000 in
theorem objects_nd (w : World) :
    Calls Tryz.prog 116 #[] w fun e w' => e = .returned (.map (some w.heap.size)) ∧ FmP [([46], none)] w' w.heap.size 40 ∧ Fr (fun _ => False) w w' := by
  have hmf : ∀ (fn : Fn) (first cap : Array Value) (w : World), (Instr.makeFunc fn first cap).run Tryz.prog w = .ok (.func fn first cap) w := fun _ _ _ _ => rfl
  have hmm := @run_makeMap Tryz.prog
  have hm := FmP.made [[46]] w
  have hF : Fr (fun j => j = w.heap.size) w (w.alloc (.map #[] 0)) := (Fr.refl _ _).alloc _
  go_enter Tryz.func116, Tryz.ntmps116
  go_wp2_with (first | (refine wpList_ins_fmp _ rfl _ _ _ 188 193 (.inr rfl) Tryz.underlying188 _ _ _ rfl hm (by unfold maxLen; omega) _ rfl (by decide) (by decide) _ _ _ rfl ?_; intro w9 hm9 hf9; replace hm := hm9; replace hF := hF.trans hf9; clear hm9 hf9) | (go_at_call 179; refine (with_any _ _ _ _).mono ?_; rintro e w9 ⟨rfl, _, hf9⟩; replace hm := hm.fr (Fr.trans (by repeat' first | exact Fr.refl _ _ | apply Fr.alloc) hf9) id; replace hF := hF.trans (Fr.trans (by repeat' first | exact Fr.refl _ _ | apply Fr.alloc) (Fr.mono hf9 fun _ _ e => e.elim)); clear hf9) | (go_at_call 203; refine (rearrange_any _ _ _ _ _).mono ?_; rintro e w9 ⟨⟨c9, rfl⟩, hf9⟩; replace hm := hm.fr (Fr.trans (by repeat' first | exact Fr.refl _ _ | apply Fr.alloc) hf9) id; replace hF := hF.trans (Fr.trans (by repeat' first | exact Fr.refl _ _ | apply Fr.alloc) (Fr.mono hf9 fun _ _ e => e.elim)); clear hf9) | (go_at_call 207; refine (fetch_any _ _ _ _).mono ?_; rintro e w9 ⟨⟨c9, rfl⟩, hf9⟩; replace hm := hm.fr (Fr.trans (by repeat' first | exact Fr.refl _ _ | apply Fr.alloc) hf9) id; replace hF := hF.trans (Fr.trans (by repeat' first | exact Fr.refl _ _ | apply Fr.alloc) (Fr.mono hf9 fun _ _ e => e.elim)); clear hf9) | (go_at_call 209; refine (store_any _ _ _ _).mono ?_; rintro e w9 ⟨⟨c9, rfl⟩, hf9⟩; replace hm := hm.fr (Fr.trans (by repeat' first | exact Fr.refl _ _ | apply Fr.alloc) hf9) id; replace hF := hF.trans (Fr.trans (by repeat' first | exact Fr.refl _ _ | apply Fr.alloc) (Fr.mono hf9 fun _ _ e => e.elim)); clear hf9))
  go_ret
  exact ⟨rfl, hm.mono (by omega), Fr.mono hF (fun k hk e => by omega)⟩

end Go.Proofs.YthkmbnkkohomeaaGreatDoor.Mem

/- Contracts of package vm: the table of all that the primitives do. -/
namespace Go.Proofs.YthkmbnkkohomeaaGreatDoor.Mem
open Go.RowKit Go.Maps

/-- What stands for the word that shows a number: a closure over a cell. -/
def dotV (c : Nat) : Value := .func (.func 309) #[] #[.pointer (some ⟨c, 0, none⟩)]
def DotC (w : World) (c : Nat) : Prop := w.heap[c]? = some (.cells #[.func (.func 221) #[] #[]] 241 (0, 0))

set_option maxRecDepth 100000 in
set_option maxHeartbeats 4000000 in
theorem output_is (w : World) :
    Calls Tryz.prog 114 #[] w fun e w' => e = .returned (.map (some w.heap.size)) ∧ (∃ c, w.heap.size < c ∧ FmP [([46], some (dotV c))] w' w.heap.size 40 ∧ DotC w' c) ∧ Fr (fun _ => False) w w' := by
  have hmf : ∀ (fn : Fn) (first cap : Array Value) (w : World), (Instr.makeFunc fn first cap).run Tryz.prog w = .ok (.func fn first cap) w := fun _ _ _ _ => rfl
  have hmm := @run_makeMap Tryz.prog
  have hm := FmP.made [[46]] w
  have hF : Fr (fun j => j = w.heap.size) w (w.alloc (.map #[] 0)) := (Fr.refl _ _).alloc _
  go_enter Tryz.func114, Tryz.ntmps114
  go_wp2_with (first | (refine wpList_insAt_fmp _ rfl _ _ _ 188 193 (.inr rfl) Tryz.underlying188 _ _ _ _ rfl hm (by unfold maxLen; omega) _ rfl (by decide) rfl _ _ _ rfl ?_; intro w9 hm9 hf9; replace hc := hf9.obj hc hcne; replace hm := hm9; replace hF := hF.trans hf9; clear hm9 hf9) | (refine wpList_ins_fmp _ rfl _ _ _ 188 193 (.inr rfl) Tryz.underlying188 _ _ _ rfl hm (by unfold maxLen; omega) _ rfl (by decide) (by first | decide | simp) _ _ _ rfl ?_; intro w9 hm9 hf9; replace hc := hf9.obj hc hcne; replace hm := hm9; replace hF := hF.trans hf9; clear hm9 hf9) | (refine wpList_ins_fmp _ rfl _ _ _ 188 193 (.inr rfl) Tryz.underlying188 _ _ _ rfl hm (by unfold maxLen; omega) _ rfl (by decide) (by first | decide | simp) _ _ _ rfl ?_; intro w9 hm9 hf9; replace hm := hm9; replace hF := hF.trans hf9; clear hm9 hf9) | (go_at_call 179; refine (with_any (.func 221) #[] #[] _).mono ?_; rintro e w9 ⟨rfl, hc, hf9⟩; have hle := hF.size; have hlt := hm.lt; have hcne := Nat.ne_of_gt hlt; replace hm := hm.fr hf9 id; replace hF := hF.trans (Fr.mono hf9 fun _ _ e => e.elim); clear hf9) | (go_at_call 179; refine (with_any _ _ _ _).mono ?_; rintro e w9 ⟨rfl, _, hf9⟩; replace hc := hf9.obj hc id; replace hm := hm.fr hf9 id; replace hF := hF.trans (Fr.mono hf9 fun _ _ e => e.elim); clear hf9) | (go_at_call 179; refine (with_any _ _ _ _).mono ?_; rintro e w9 ⟨rfl, _, hf9⟩; replace hm := hm.fr hf9 id; replace hF := hF.trans (Fr.mono hf9 fun _ _ e => e.elim); clear hf9))
  go_ret
  exact ⟨rfl, ⟨_, hlt, hm.mono (by omega), hc⟩, Fr.mono hF (fun k hk e => by omega)⟩
end Go.Proofs.YthkmbnkkohomeaaGreatDoor.Mem
