/- Contracts of package table: All. -/
import Derived.Test.YtajeiccfgnpbpaaTabF
import Derived.Deep.DeepCutAuto
import Derived.ArgAppend
namespace Go.Proofs.Ytajeiccfgnpbpaa.Mem
open Go.RowKit

theorem infoEnt : (Try.prog.info? 38).map (fun i => (i.zero, i.size, i.bytes)) = some (some (.agg #[.int .i64 0, .int .i64 0, .int .i64 0]), 3, 24) := by kernel_rfl

theorem cell_three_new (w : World) (x y z : Value) (t : TypeId) : ∀ j u, [x, y, z][j]? = some u → (w.alloc (.cells #[x, y, z] t)).cell? ((⟨w.heap.size, 0, none⟩ : Addr).add j) = some u := by
  intro j u hu
  obtain ⟨h0, h1, h2, _⟩ := three_cells (heap_alloc_last w (.cells #[x, y, z] t))
  have hp : ((⟨w.heap.size, 0, none⟩ : Addr).add j) = ⟨w.heap.size, j, none⟩ := by unfold Addr.add; split <;> simp_all
  rw [hp]
  match j, hu with
  | 0, hu => rw [h0]; exact hu
  | 1, hu => rw [h1]; exact hu
  | 2, hu => rw [h2]; exact hu

theorem cell_three_new2 (w : World) (o : Obj) (x y z : Value) (t : TypeId) : ∀ j u, [x, y, z][j]? = some u → ((w.alloc o).alloc (.cells #[x, y, z] t)).cell? ((⟨w.heap.size + 1, 0, none⟩ : Addr).add j) = some u := by
  have h := cell_three_new (w.alloc o) x y z t
  have hs : (w.alloc o).heap.size = w.heap.size + 1 := by simp
  rw [hs] at h
  exact h

set_option maxRecDepth 100000 in
set_option maxHeartbeats 2000000 in
theorem all_any (p g : Nat) (bs : List UInt8) (t : Int) (w : World) (h : Mat 108 w p g bs) :
    Calls Try.prog 73 #[.pointer (some ⟨p, 0, none⟩), .int .i64 t] w
      fun e w' => ∃ v, e = .returned v ∧ w'.ownsRow w.heap.size 38 3 v (all bs t).length (ents (all bs t)) ∧ Fr (fun _ => False) w w' := by
  obtain ⟨i0, hi, hz0, hz1, hz2⟩ := info_parts infoEnt
  have HI := Lib.hid hi
  have HZ := Lib.hid (And.intro hz0 (And.intro hz1 hz2))
  clear hi hz0 hz1 hz2
  have HS := Lib.hid (slots_any p g bs t w h)
  have H := Lib.hid h
  have hsb := slots_bd bs t
  have hin := @slots_in bs t
  have hbl := h.2.2.2
  unfold all
  obtain ⟨n, hn⟩ : ∃ n : Nat, slots bs t = n := ⟨(slots bs t).toNat, by omega⟩
  rw [hn] at HS hsb hin ⊢
  rw [Int.toNat_natCast]
  have HR := Lib.hid (fun a w h ha => read_any p g bs a w h ha)
  have HL := Lib.hid (fun i w hi => slot_any t i hi w)
  have HIn := Lib.hid hin
  have hnb : n ≤ 1024 := by omega
  clear h hn hin hsb
  go_enter Try.func73, Try.ntmps73
  go_wp2_with (go_at_call 50; refine HS.out.mono ?_; rintro e w' ⟨rfl, h0⟩; obtain rfl := h0.symm)
  go_loopw [5, 11] (fun v iv wr => ∃ k : Nat, k ≤ n ∧ iv = .int .i64 k ∧ wr.ownsRow w.heap.size 38 3 v (allk bs t k).length (ents (allk bs t k)) ∧ Fr (fun _ => False) w wr) (fun _ iv _ => n - (intOf iv).toNat)
  case atStart => exact ⟨0, by omega, rfl, World.ownsRow_nil _ _ _ _, Fr.refl _ _⟩
  case round =>
    obtain ⟨k, hk, rfl, hO, hF⟩ := hrel
    have hal := allk_length bs t k
    have HO := Lib.hid hO
    have HF := Lib.hid hF
    have HK := Lib.hid (show allk bs t (k + 1) = if (read bs (slotAt t k)).sel = 0 then allk bs t k else allk bs t k ++ [read bs (slotAt t k)] from rfl)
    clear hO hF
    obtain ⟨L, hL⟩ : ∃ L, allk bs t k = L := ⟨_, rfl⟩
    rw [hL] at HO HK hal
    have HLL := Lib.hid hL
    clear hL
    by_cases hlt : k < n
    · have hin := HIn.out (by omega)
      have HL2 := Lib.hid (fun w => HL.out k w (by omega))
      have hsb : 0 ≤ slotAt t k ∧ slotAt t k ≤ 1048576000 := by unfold slotAt; omega
      obtain ⟨s, hs⟩ : ∃ s, slotAt t (k : Int) = s := ⟨_, rfl⟩
      rw [hs] at HL2 HK hsb
      have HR2 := Lib.hid (fun w h => HR.out s w h hsb)
      obtain ⟨⟨r0, r1, r2⟩, hr⟩ : ∃ r, read bs s = r := ⟨_, rfl⟩
      rw [hr] at HR2 HK
      dsimp only at HR2 HK
      clear hs hr hin hsb
      by_cases hz : r0 = 0
      · rw [if_pos hz] at HK
        subst hz
        go_wp2_with (first | (go_at_call 105; refine (HL2.out _).mono ?_; rintro e w' ⟨rfl, h0⟩; obtain rfl := h0.symm) | (go_at_call 106; refine (HR2.out _ (H.out.fr HF.out id id)).mono ?_; rintro e w1 ⟨rfl, hf⟩; have HF1 := Lib.hid hf; clear hf))
        go_roundw
        case rel => exact ⟨k + 1, by omega, by go_num, by rw [HK.out]; exact (HF1.out.owns HO.out (fun _ _ => id)).alloc _, (HF.out.trans HF1.out).alloc _⟩
        case measure => simp only [intOf]; omega
      · rw [if_neg hz] at HK
        have hz' : (r0 != 0) = true := by simp [hz]
        clear hz
        go_wp2_with (first | (go_at_call 105; refine (HL2.out _).mono ?_; rintro e w' ⟨rfl, h0⟩; obtain rfl := h0.symm) | (go_at_call 106; refine (HR2.out _ (H.out.fr HF.out id id)).mono ?_; rintro e w1 ⟨rfl, hf⟩; have HF1 := Lib.hid hf; have hls := (HF.out.trans hf).size; have HT := Lib.hid (cell_three_new2 w1 (.cells #[.int .i64 r0, .int .i64 r1, .int .i64 r2] 38) (.int .i64 r0) (.int .i64 r1) (.int .i64 r2) 38); clear hf) | (at_builtin; refine wpList_append_own _ rfl (.tmp 22) (.tmp 24) 134 rfl w.heap.size 38 i0 _ 3 24 Try.underlying134 HI.out HZ.out.1 HZ.out.2.1 HZ.out.2.2 rfl (by decide) _ L.length (ents L) rfl (((HF1.out.owns HO.out (fun _ _ => id)).alloc _).alloc _) ⟨_, 0, none⟩ 1 1 [.int .i64 r0, .int .i64 r1, .int .i64 r2] rfl rfl HT.out (by simp [Value.oneCell']) (by unfold maxLen; omega) (by omega) (by simp; omega) ?_; intro v2 w3 hown2 hgrow2 _; have HV2 := Lib.hid hown2; have HF3 := Lib.hid (Fr.grown (((HF.out.trans HF1.out).alloc _).alloc _) hgrow2 (fun j hj => .inl (HO.out.lt j hj).1)); clear hown2 hgrow2))
        go_roundw
        case rel => exact ⟨k + 1, by omega, by go_num, by rw [HK.out, ents_snoc, List.length_append]; exact HV2.out, HF3.out⟩
        case measure => simp only [intOf]; omega
    · obtain rfl : k = n := by omega
      go_wp2
      go_ret
      exact ⟨_, rfl, by rw [HLL.out]; exact HO.out, HF.out⟩
end Go.Proofs.Ytajeiccfgnpbpaa.Mem
