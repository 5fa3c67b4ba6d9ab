/- Contracts of slices.Clone and slices.Equal at marks. -/
import Derived.Test.YtcimiijmffblgaaCtlA
namespace Go.Proofs.Ytcimiijmffblgaa.Ctl
open Go.RowKit


/-- append on a slice of the call's own, as one step of a region that draws its order. -/
theorem step_append_own {P : Program} {ops : Array Oper} {o : Oper} {a : Act} {w : World} {K : Act → World → Prop} {Q : Exit → Act → World → Prop} {E : Prop}
    (hg : o.guard = none) (s x : Operand) (t : TypeId) (hop : o.op = Op.call { callee := Callee.builtin Builtin.append, args := #[s, x], argTypes := #[t, t] })
    (base : Nat) (e : TypeId) (i : TypeInfo) (z : Value) (size bytes : Nat) (ht : P.underlying t = some (.slice e)) (hi : P.info? e = some i) (hz : i.zero = some z)
    (hsize : i.size = size) (hby : i.bytes = bytes) (hzs : z.cells.size = size) (hsz : 0 < size)
    (v : Value) (n : Nat) (xs : List Value) (hs : a.eval s = v) (hown : w.ownsRow base e size v n xs)
    (ad : Addr) (m c : Nat) (news : List Value) (hx : a.eval x = .slice (some ad) m c) (hl : news.length = m * size) (hnews : ∀ j u, news[j]? = some u → w.cell? (ad.add j) = some u) (h1 : ∀ u ∈ news, u.oneCell' = true)
    (h63 : n + m ≤ maxLen) (hbytes : (n + m) * bytes ≤ 140737488355328) (hbase : base ≤ w.heap.size)
    (h : ∀ v' w', w'.ownsRow base e size v' (n + m) (xs ++ news) → w.grownBy w' v.ownBlock → K (a.put o.dst v') w') :
    if Region.wanted o (yielded ops a.tmps) = true then Oper.wp P o a w K Q else E := by
  have hw : Region.wanted o (yielded ops a.tmps) = true := by simp [Region.wanted, hg]
  rw [if_pos hw]
  exact wp_append_own w s x t hop base e i z size bytes ht hi hz hsize hby hzs hsz v n xs hs hown ad m c news hx hl hnews h1 h63 hbytes hbase (fun v' w' h2 h3 _ => h v' w' h2 h3)

theorem marks_one (l : List (Int × Int)) : ∀ u ∈ marks l, u.oneCell' = true := by
  intro u hu
  simp [marks] at hu
  obtain ⟨a, b, _, h | h⟩ := hu <;> (subst h; rfl)

set_option maxRecDepth 100000 in
set_option maxHeartbeats 400000 in
theorem clone_any (v : Value) (n B : Nat) (l : List (Int × Int)) (w : World) (ho : w.ownsRow B 114 2 v n (marks l)) (hn : n ≤ 1000) :
    Calls Try.prog 58 #[v] w fun e w' => ∃ v', e = .returned v' ∧ w'.ownsRow w.heap.size 114 2 v' n (marks l) ∧ Fr (fun _ => False) w w' := by
  have hq := fun (w : World) (a : Option Addr) (n c : Nat) => Lib.run_eql_slice_nil (P := Try.prog) w 109 114 a n c 0 0 Try.underlying109
  obtain ⟨i0, hi, hz0, hz1, hz2⟩ := info_parts info114
  have HI := Lib.hid hi
  have HZ := Lib.hid (And.intro hz0 (And.intro hz1 hz2))
  clear hi hz0 hz1 hz2
  obtain ⟨o, c, rfl, hf1, hf2, hf3, hf4⟩ := owns_form ho
  cases o with
  | none =>
    obtain ⟨rfl, rfl⟩ := hf3 rfl
    have HO := Lib.hid ho
    clear ho hf1 hf2 hf3 hf4
    go_enter Try.func58, Try.ntmps58
    go_wp2
    go_ret
    refine ⟨_, rfl, ⟨owns_length HO.out, .inl ⟨rfl, rfl⟩⟩, Fr.refl _ _⟩
  | some b =>
    obtain ⟨g, off, sp⟩ := b
    obtain ⟨e1, e2, hB, hlt⟩ := hf4 _ rfl
    simp only at e1 e2
    subst e1 e2
    have HO := Lib.hid (owns_holds (ho.alloc (.cells #[] 114)))
    have HL := Lib.hid (owns_length ho)
    have HM := Lib.hid (World.ownsRow_made (base := w.heap.size) (size := 2) (e := 114) w #[] 0 (Nat.le_refl _) (by decide) (by rfl))
    clear ho hf1 hf2 hf3 hf4
    go_enter Try.func58, Try.ntmps58
    go_wp2_with (at_builtin; refine wpList_append_own _ rfl (.tmp 5) (.tmp 6) 109 rfl w.heap.size 114 i0 _ 2 16 Try.underlying109 HI.out HZ.out.1 HZ.out.2.1 HZ.out.2.2 rfl (by decide) _ 0 [] rfl HM.out ⟨g, 0, none⟩ n c (marks l) rfl HL.out (HO.out _ rfl) (marks_one l) (by unfold maxLen; omega) (by omega) (by simp) ?_; intro v' w1 hown1 hgrow1 _; simp only [Nat.zero_add, List.nil_append] at hown1; have HO1 := Lib.hid hown1; have HG1 := Lib.hid hgrow1; clear hown1 hgrow1)
    go_ret
    exact ⟨_, rfl, HO1.out, ((Fr.refl _ _).alloc _).grown HG1.out (fun k hk => by cases hk; exact .inl (Nat.le_refl _))⟩

theorem cells_at {w : World} {B g n c : Nat} {l : List (Int × Int)} (ho : w.ownsRow B 114 2 (.slice (some ⟨g, 0, none⟩) n c) n (marks l)) (j : Nat) (hj : j < n) (hl : l.length = n) :
    w.cell? ⟨g, j * 2, none⟩ = some (.int .i64 (l.getD j (0, 0)).1) ∧ w.cell? ⟨g, j * 2 + 1, none⟩ = some (.int .i64 (l.getD j (0, 0)).2) := by
  have hg : l[j]? = some ((l.getD j (0, 0)).1, (l.getD j (0, 0)).2) := by
    rw [List.getD_eq_getElem?_getD, List.getElem?_eq_getElem (by omega)]
    rfl
  have hm := marks_at l j _ _ hg
  exact ⟨by rw [ho.cellAt _ (by omega), hm.1], by rw [ho.cellAt _ (by omega), hm.2]⟩

set_option maxRecDepth 100000 in
set_option maxHeartbeats 400000 in
theorem equal_any (g1 g2 n c1 c2 B1 B2 : Nat) (l : List (Int × Int)) (w : World) (h1 : w.ownsRow B1 114 2 (.slice (some ⟨g1, 0, none⟩) n c1) n (marks l)) (h2 : w.ownsRow B2 114 2 (.slice (some ⟨g2, 0, none⟩) n c2) n (marks l))
    (hl : l.length = n) (hn : n ≤ 1000) (hm1 : c1 ≤ maxLen) (hm2 : c2 ≤ maxLen) :
    Calls Try.prog 60 #[.slice (some ⟨g1, 0, none⟩) n c1, .slice (some ⟨g2, 0, none⟩) n c2] w fun e w' => e = .returned (.bool true) ∧ ∃ d, w' = w.drewN d := by
  have H1 := Lib.hid (fun j hj => cells_at h1 j hj hl)
  have H2 := Lib.hid (fun j hj => cells_at h2 j hj hl)
  clear h1 h2 hl
  unfold maxLen at hm1 hm2
  go_enter Try.func60, Try.ntmps60
  go_wp2
  go_loopw [13] (fun i wr => ∃ k d : Nat, k ≤ n ∧ i = .int .i64 k ∧ wr = w.drewN d) (fun i _ => n - (intOf i).toNat)
  case atStart => exact ⟨0, 0, Nat.zero_le _, rfl, rfl⟩
  case round =>
    obtain ⟨k, d, hk, rfl, rfl⟩ := hrel
    by_cases hlt : k < n
    · obtain ⟨a1, a2⟩ := H1.out k hlt
      obtain ⟨b1, b2⟩ := H2.out k hlt
      go_wp2
      go_quiet (fail)
      go_wp2
      go_roundw
      case rel => exact ⟨k + 1, _, by omega, by go_num, rfl⟩
      case measure => simp [intOf]; omega
    · go_wp2
      go_ret
      exact ⟨rfl, d, rfl⟩
set_option maxRecDepth 100000 in
set_option maxHeartbeats 400000 in
theorem equal_zero (o1 o2 : Option Addr) (c1 c2 : Nat) (w : World) :
    Calls Try.prog 60 #[.slice o1 0 c1, .slice o2 0 c2] w fun e w' => e = .returned (.bool true) ∧ ∃ d, w' = w.drewN d := by
  go_enter Try.func60, Try.ntmps60
  go_wp2
  refine wp_loop_rounds 1 ?_
  rw [rounds_succ]
  go_wp2
  go_ret
  exact ⟨rfl, 0, rfl⟩

theorem equal_same (v1 v2 : Value) (B1 B2 : Nat) (l : List (Int × Int)) (w : World) (h1 : w.ownsRow B1 114 2 v1 l.length (marks l)) (h2 : w.ownsRow B2 114 2 v2 l.length (marks l)) (hn : l.length ≤ 1000) :
    Calls Try.prog 60 #[v1, v2] w fun e w' => e = .returned (.bool true) ∧ ∃ d, w' = w.drewN d := by
  rcases h1.2 with ⟨rfl, hz⟩ | ⟨g1, cap1, cur1, rfl, _, _, _, hm1, _⟩
  · obtain ⟨o2, c2, rfl, _⟩ := owns_form h2
    rw [hz]
    exact equal_zero none o2 0 c2 w
  · rcases h2.2 with ⟨rfl, hz⟩ | ⟨g2, cap2, cur2, rfl, _, _, _, hm2, _⟩
    · rw [hz]
      exact equal_zero _ none cap1 0 w
    · exact equal_any g1 g2 l.length cap1 cap2 B1 B2 l w h1 h2 rfl hn hm1 hm2
end Go.Proofs.Ytcimiijmffblgaa.Ctl
