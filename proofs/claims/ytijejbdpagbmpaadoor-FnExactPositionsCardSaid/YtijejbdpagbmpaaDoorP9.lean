import Derived.Test.YtijejbdpagbmpaaDoorP8
import Derived.Test.YtijejbdpagbmpaaDoorP2
import Derived.Test.YtijejbdpagbmpaaDoorP3
import Derived.Test.YtijejbdpagbmpaaDoorP5
namespace Go.Proofs.YtijejbdpagbmpaaDoor
open Go.RowKit

theorem SlF.none (w : World) : SlF mI 0 (fun _ => False) w (.slice none 0 0) [] := ⟨0, 0, ⟨.none, 0, rfl, Nat.zero_le _, fun h => absurd h (by simp)⟩, fun k h1 h2 => by omega⟩

/-- One element more. -/
theorem app_op {base : Nat} {wr w1 W : World} {ops : Array Oper} {rest : List Oper} {o : Oper} {a : Act} {Q : Exit → Act → World → Prop} {v : Value} {ps : List Pc} (x : El) (sv : Value) (T : Nat → Prop) (hgd : o.guard = none) (s y : Operand)
    (ho : o.op = .call { callee := .builtin .append, args := #[s, y], argTypes := #[31, 31] }) (hs : a.eval s = v) (hy : a.eval y = .slice (some ⟨w1.heap.size, 0, none⟩) 1 1)
    (h : GrowP base wr v ps) (hbase : base ≤ wr.heap.size) (hb : Below wr.heap.size wr w1) (hsl : SlF mI 0 T w1 sv x.set) (hT : ∀ k, T k → wr.heap.size ≤ k ∧ k < w1.heap.size) (h1c : sv.oneCell' = true)
    (hP : Pushd w1 W (.cells #[.int .i64 x.kind, sv, .int .i64 x.mn, .int .i64 x.mx] 44)) (hlen : ps.length ≤ 16777216)
    (K : ∀ v' w', GrowP base w' v' (ps ++ [⟨x, sv, T⟩]) → Below base wr w' → wpList Tryd.prog ops Q rest (a.put o.dst v') w') : wpList Tryd.prog ops Q (o :: rest) a W := by
  obtain ⟨j0, hj, hy0, hy1, hy2⟩ := info_parts Tryd.zinOp
  have hown := hP.own (own_keep h.own hb (Nat.le_refl _))
  refine wpList_append_own_at W hgd s y 31 ho base 44 j0 (.agg #[.int .i64 0, .slice none 0 0, .int .i64 0, .int .i64 0]) 4 48 Tryd.underlying31 hj hy0 hy1 hy2 rfl (by decide) v ps.length (cellsP ps) hs hown ⟨w1.heap.size, 0, none⟩ 1 1 (cell4 x sv) hy rfl ?_ ?_ ?_ ?_ ?_ ?_
  · exact Pushd.news hP
  · intro u hu
    simp only [cell4, List.mem_cons, List.not_mem_nil, or_false] at hu
    rcases hu with rfl | rfl | rfl | rfl
    · rfl
    · exact h1c
    · rfl
    · rfl
  · unfold maxLen; omega
  · omega
  · have := hP.size; have := hb.size; omega
  · intro v' w' q1 q2 _ q3
    obtain ⟨r1, r2⟩ := h.app1 hbase hb hsl hT hP q1 q2 q3
    exact K v' w' r1 r2

/-- All of another list's elements more. -/
theorem app_ops {base : Nat} {wr W : World} {ops : Array Oper} {rest : List Oper} {o : Oper} {a : Act} {Q : Exit → Act → World → Prop} {v u : Value} {ps qs : List Pc} (hgd : o.guard = none) (s y : Operand)
    (ho : o.op = .call { callee := .builtin .append, args := #[s, y], argTypes := #[31, 31] }) (hs : a.eval s = v) (hy : a.eval y = u)
    (h : GrowP base wr v ps) (hbase : base ≤ wr.heap.size) (hb : Below wr.heap.size wr W) (hq : GrowP wr.heap.size W u qs) (hq1 : ∀ p ∈ qs, p.s.oneCell' = true) (hlen : ps.length ≤ 16777216) (hlen2 : qs.length ≤ 16777216)
    (K : ∀ v' w', GrowP base w' v' (ps ++ qs) → Below base wr w' → wpList Tryd.prog ops Q rest (a.put o.dst v') w') : wpList Tryd.prog ops Q (o :: rest) a W := by
  obtain ⟨j0, hj, hy0, hy1, hy2⟩ := info_parts Tryd.zinOp
  have hown := own_keep h.own hb (Nat.le_refl _)
  rcases hq.own.2 with ⟨rfl, hz⟩ | ⟨g, cap, cur, rfl, hbg, hgc, hnc, hcm, hcs, htake⟩
  · obtain rfl : qs = [] := List.eq_nil_of_length_eq_zero hz
    refine wpList_append_none_c hgd s y 31 ho base 44 j0 4 Tryd.underlying31 hj v ps.length (cellsP ps) hs hown 0 hy (K v W ?_ (hb.mono hbase))
    rw [List.append_nil]
    exact h.keep hb (Nat.le_refl _)
  · refine wpList_append_own_at W hgd s y 31 ho base 44 j0 (.agg #[.int .i64 0, .slice none 0 0, .int .i64 0, .int .i64 0]) 4 48 Tryd.underlying31 hj hy0 hy1 hy2 rfl (by decide) v ps.length (cellsP ps) hs hown ⟨g, 0, none⟩ qs.length cap (cellsP qs) hy (cellsP_len qs) ?_ (cellsP_one qs hq1) ?_ ?_ ?_ ?_
    · intro j y hj2
      have e3 : (⟨g, 0, none⟩ : Addr).add j = ⟨g, j, none⟩ := by cases j <;> simp [Addr.add]
      rw [e3, hq.own.cellAt j (by have := (List.getElem?_eq_some_iff.1 hj2).1; rw [cellsP_len] at this; exact this)]
      exact hj2
    · unfold maxLen; omega
    · omega
    · have := hb.size; omega
    · intro v' w' q1 q2 _ q3
      exact K v' w' (h.app hbase hb hq.set (fun p hp k hk => ⟨(hq.blk p hp k hk).1, (hq.blk p hp k hk).2.1⟩) hq.dis q1 q2 q3) ((hb.mono hbase).grown q2 (by have := hb.size; omega) (fun k hk => (h.own.lt k hk).1))

theorem Pc.one {w : World} {p : Pc} (h : SlF mI 0 p.T w p.s p.x.set) : p.s.oneCell' = true := by
  obtain ⟨a, c, e⟩ := h.val
  rw [e]; rfl

set_option maxHeartbeats 2000000 in
theorem l1bin_w (k : Int) (vx vy : Value) (xs ys : List El) (w : World) (hx : ElsAt 0 w.heap.size w vx xs) (hy : ElsAt 0 w.heap.size w vy ys) (hlx : xs.length ≤ 1048576) (hly : ys.length ≤ 1048576) (hsx : ∀ i : Nat, (xs[i]?.getD dE).set.length ≤ 1048576) (hsy : ∀ i : Nat, (ys[i]?.getD dE).set.length ≤ 1048576) :
    Calls Tryd.prog 54 #[.int .i64 k, vx, vy] w fun e w' => ∃ v', e = .returned v' ∧ GrowE w.heap.size w' v' (xs ++ ys ++ [⟨k, [], 0, 0⟩]) ∧ Below w.heap.size w w' := by
  obtain ⟨a1, c1, rfl, -, -⟩ := id hx
  obtain ⟨a2, c2, rfl, -, -⟩ := id hy
  have Hx := hide hx
  have Hy := hide hy
  have Sx := hide hsx
  have Sy := hide hsy
  clear hx hy hsx hsy
  go_enter Tryd.func54, Tryd.ntmps54
  go_wp2_with fail
  refine (l1copy_w _ xs _ (unhide Hx) hlx (unhide Sx)).mono ?_
  rintro e w1 ⟨v1, rfl, hg1, hb1⟩
  obtain ⟨o1, d1, rfl⟩ := hg1.form
  obtain ⟨ps, hps, hg1⟩ := hg1
  have hpl : ps.length = xs.length := by rw [← hps, List.length_map]
  have Hg1 := hide hg1
  have Hps := hide hps
  have hz1 := hb1.size
  clear hg1 hps
  go_wp2_with fail
  refine (l1copy_w _ ys _ (by exact (unhide Hy).below hb1 (Nat.le_refl _)) hly (unhide Sy)).mono ?_
  rintro e w2 ⟨v2, rfl, hg2, hb2⟩
  obtain ⟨o2, d2, rfl⟩ := hg2.form
  obtain ⟨qs, hqs, hg2⟩ := hg2
  have hql : qs.length = ys.length := by rw [← hqs, List.length_map]
  have Hg2 := hide hg2
  have Hqs := hide hqs
  clear hg2 hqs
  go_wp2_with (at_builtin; refine app_ops rfl _ _ rfl rfl rfl (unhide Hg1) hz1 hb2 (unhide Hg2) (fun p hp => Pc.one ((unhide Hg2).set p hp)) (by omega) (by omega) ?_)
  intro v3 w3 hg3 hb3
  obtain ⟨o3, d3, rfl⟩ := own_is hg3.own
  have Hg3 := hide hg3
  have hB3 : Below w.heap.size w w3 := hb1.trans hb3
  have hz3 := hB3.size
  clear hg3
  go_wp2_with (at_builtin; refine app_op ⟨k, [], 0, 0⟩ (.slice none 0 0) (fun _ => False) rfl _ _ rfl rfl rfl (unhide Hg3) hz3 (Below.refl _ _) (SlF.none _) (fun k hk => hk.elim) rfl ⟨rfl, rfl, rfl, rfl⟩ (by rw [List.length_append]; omega) ?_)
  intro v4 w4 hg4 hb4
  have hfin : Hid (GrowE w.heap.size w4 v4 (xs ++ ys ++ [⟨k, [], 0, 0⟩])) := ⟨_, by simp [unhide Hps, unhide Hqs], hg4⟩
  clear hg4
  go_wp2
  go_ret
  exact ⟨_, rfl, unhide hfin, hB3.trans hb4⟩

set_option maxHeartbeats 2000000 in
theorem l1alt_w (vx vy : Value) (xs ys : List El) (w : World) (hx : ElsAt 0 w.heap.size w vx xs) (hy : ElsAt 0 w.heap.size w vy ys) (hlx : xs.length ≤ 1048576) (hly : ys.length ≤ 1048576) (hsx : ∀ i : Nat, (xs[i]?.getD dE).set.length ≤ 1048576) (hsy : ∀ i : Nat, (ys[i]?.getD dE).set.length ≤ 1048576) :
    Calls Tryd.prog 56 #[vx, vy] w fun e w' => ∃ v', e = .returned v' ∧ GrowE w.heap.size w' v' (xs ++ ys ++ [⟨3, [], 0, 0⟩]) ∧ Below w.heap.size w w' := by
  obtain ⟨a1, c1, rfl, -, -⟩ := id hx
  obtain ⟨a2, c2, rfl, -, -⟩ := id hy
  have Hx := hide hx
  have Hy := hide hy
  have Sx := hide hsx
  have Sy := hide hsy
  clear hx hy hsx hsy
  go_enter Tryd.func56, Tryd.ntmps56
  go_wp2_with fail
  refine (l1bin_w 3 _ _ xs ys _ (unhide Hx) (unhide Hy) hlx hly (unhide Sx) (unhide Sy)).mono ?_
  rintro e w1 ⟨v1, rfl, hg1, hb1⟩
  have Hg1 := hide hg1
  clear hg1
  go_wp2
  go_ret
  exact ⟨_, rfl, unhide Hg1, hb1⟩

set_option maxHeartbeats 2000000 in
theorem l1rep_w (lo hi : Int) (vx : Value) (xs : List El) (w : World) (hx : ElsAt 0 w.heap.size w vx xs) (hlx : xs.length ≤ 1048576) (hsx : ∀ i : Nat, (xs[i]?.getD dE).set.length ≤ 1048576) :
    Calls Tryd.prog 35 #[vx, .int .i64 lo, .int .i64 hi] w fun e w' => ∃ v', e = .returned v' ∧ GrowE w.heap.size w' v' (xs ++ [⟨4, [], lo, hi⟩]) ∧ Below w.heap.size w w' := by
  obtain ⟨a1, c1, rfl, -, -⟩ := id hx
  have Hx := hide hx
  have Sx := hide hsx
  clear hx hsx
  go_enter Tryd.func35, Tryd.ntmps35
  go_wp2_with fail
  refine (l1copy_w _ xs _ (unhide Hx) hlx (unhide Sx)).mono ?_
  rintro e w1 ⟨v1, rfl, hg1, hb1⟩
  obtain ⟨o1, d1, rfl⟩ := hg1.form
  obtain ⟨ps, hps, hg1⟩ := hg1
  have hpl : ps.length = xs.length := by rw [← hps, List.length_map]
  have Hg1 := hide hg1
  have Hps := hide hps
  have hz1 := hb1.size
  clear hg1 hps
  go_wp2_with (at_builtin; refine app_op ⟨4, [], lo, hi⟩ (.slice none 0 0) (fun _ => False) rfl _ _ rfl rfl rfl (unhide Hg1) hz1 (Below.refl _ _) (SlF.none _) (fun k hk => hk.elim) rfl ⟨rfl, rfl, rfl, rfl⟩ (by omega) ?_)
  intro v4 w4 hg4 hb4
  have hfin : Hid (GrowE w.heap.size w4 v4 (xs ++ [⟨4, [], lo, hi⟩])) := ⟨_, by simp [unhide Hps], hg4⟩
  clear hg4
  go_wp2
  go_ret
  exact ⟨_, rfl, unhide hfin, hb1.trans hb4⟩

theorem GrowE.lit (w : World) : GrowE w.heap.size (w.alloc (.cells #[.int .i64 0, .slice none 0 0, .int .i64 0, .int .i64 0] 44)) (.slice (some ⟨w.heap.size, 0, none⟩) 1 1) [⟨0, [], 0, 0⟩] := by
  refine ⟨[⟨⟨0, [], 0, 0⟩, .slice none 0 0, fun _ => False⟩], rfl, World.ownsRow_lit w _ 1 (Nat.le_refl _) (by unfold maxLen; omega) rfl, fun p hp => ?_, fun p hp k hk => ?_, List.pairwise_singleton _ _⟩
  · obtain rfl := List.mem_singleton.1 hp
    exact SlF.none _
  · obtain rfl := List.mem_singleton.1 hp
    exact hk.elim

set_option maxHeartbeats 2000000 in
theorem l1empty_w (w : World) : Calls Tryd.prog 55 #[] w fun e w' => ∃ v', e = .returned v' ∧ GrowE w.heap.size w' v' [⟨0, [], 0, 0⟩] ∧ Below w.heap.size w w' := by
  have hl := hide (GrowE.lit w)
  go_enter Tryd.func55, Tryd.ntmps55
  go_wp2
  go_ret
  exact ⟨_, rfl, unhide hl, below1 w _⟩

end Go.Proofs.YtijejbdpagbmpaaDoor

namespace Go.Proofs.YtijejbdpagbmpaaDoor
open Go.RowKit

/-- Lists of elements whose numbers lie within 64 bits, with sets of a bounded length. -/
structure Nice (xs : List El) : Prop where
  num : Num xs
  len : ∀ i : Nat, (xs[i]?.getD dE).set.length ≤ 1048576
theorem Nice.nil : Nice [] := ⟨fun i => by simp [dE, In64], fun i => by simp [dE]⟩
theorem Nice.app {a b : List El} (ha : Nice a) (hb : Nice b) : Nice (a ++ b) := by
  refine ⟨fun i => ?_, fun i => ?_⟩
  · by_cases h : i < a.length
    · rw [List.getElem?_append_left h]; exact ha.num i
    · rw [List.getElem?_append_right (by omega)]; exact hb.num _
  · by_cases h : i < a.length
    · rw [List.getElem?_append_left h]; exact ha.len i
    · rw [List.getElem?_append_right (by omega)]; exact hb.len _
theorem Nice.op (k mn mx : Int) (h1 : In64 k) (h2 : In64 mn) (h3 : In64 mx) : Nice [⟨k, [], mn, mx⟩] := by
  refine ⟨fun i => ?_, fun i => ?_⟩
  · cases i with
    | zero => exact ⟨h1, h2, h3, fun j => by simp [In64]⟩
    | succ i => simp [dE, In64]
  · cases i with
    | zero => simp
    | succ i => simp [dE]
theorem GrowE.els {base : Nat} {w : World} {v : Value} {xs : List El} (h : GrowE base w v xs) (hn : Nice xs) : ElsAt 0 w.heap.size w v xs := h.foot.at (fun _ hk => hk.2) hn.num

/-- The model expands this list to that. -/
def XpS (l L : List El) : Prop := ∀ (v : Value) (w : World), ElsAt 0 w.heap.size w v l → l.length ≤ 3000 → Calls Tryd.prog 34 #[v] w fun e w' => ∃ v', e = .returned v' ∧ GrowE w.heap.size w' v' L ∧ Below w.heap.size w w'

set_option maxHeartbeats 2000000 in
theorem xpS_leaf (x : El) (hk : x.kind = 0 ∨ x.kind = 1) (hs : x.set.length ≤ 1048576) : XpS [x] [x] := by
  intro v w hv hlen
  have hv0 := hv
  obtain ⟨a, cp, rfl, -, -⟩ := id hv
  obtain ⟨hlen2, hcap, b, off, rfl, hbn, hel⟩ := ElsAt.last (p := []) hv
  simp only [List.length_singleton, List.length_nil, Nat.zero_mul, Nat.add_zero] at hel hv hv0 ⊢
  obtain ⟨i1, i2, i3, sv, c0, c1, c2, c3, hints⟩ := hel
  obtain ⟨sa, sc, rfl, -, -, -⟩ := id hints
  have Hv := hide (hv.below (below1 w (.cells #[.int .i64 x.kind, .slice sa x.set.length sc, .int .i64 x.mn, .int .i64 x.mx] 44)) (Nat.le_refl _))
  have Hs : Hid (∀ i : Nat, (([x] : List El)[i]?.getD dE).set.length ≤ 1048576) := fun i => by
    cases i with
    | zero => exact hs
    | succ i => simp [dE]
  clear hv hv0 hints i1 i2 i3
  rcases hk with hk | hk
  · rw [hk] at c0
    have Hk := hide hk
    rw [hk] at Hv
    clear hk
    go_enter Tryd.func34, Tryd.ntmps34
    go_wp2_with fail
    refine (l1copy_w _ [x] _ (unhide Hv) (by simp) (unhide Hs)).mono ?_
    rintro e w1 ⟨v1, rfl, hg1, hb1⟩
    have hB : Below w.heap.size w w1 := (below1 w _).trans (hb1.mono (by rw [sz_alloc]; omega))
    have Hg1 : Hid (GrowE w.heap.size w1 v1 [x]) := hg1.base (by rw [sz_alloc]; omega)
    clear hg1
    go_wp2
    go_ret
    exact ⟨_, rfl, unhide Hg1, hB⟩
  · rw [hk] at c0
    have Hk := hide hk
    rw [hk] at Hv
    clear hk
    go_enter Tryd.func34, Tryd.ntmps34
    go_wp2_with fail
    refine (l1copy_w _ [x] _ (unhide Hv) (by simp) (unhide Hs)).mono ?_
    rintro e w1 ⟨v1, rfl, hg1, hb1⟩
    have hB : Below w.heap.size w w1 := (below1 w _).trans (hb1.mono (by rw [sz_alloc]; omega))
    have Hg1 : Hid (GrowE w.heap.size w1 v1 [x]) := hg1.base (by rw [sz_alloc]; omega)
    clear hg1
    go_wp2
    go_ret
    exact ⟨_, rfl, unhide Hg1, hB⟩

set_option maxHeartbeats 2000000 in
theorem xpS_bin (k : Int) (hk : k = 2 ∨ k = 3) (l r L R : List El) (cl cr : Int) (sl : SegM l cl) (sr : SegM r cr) (Hl : XpS l L) (Hr : XpS r R) (nl : Nice L) (nr : Nice R) (ll : L.length ≤ 3000) (lr : R.length ≤ 3000) : XpS (l ++ r ++ [⟨k, [], 0, 0⟩]) (L ++ R ++ [⟨k, [], 0, 0⟩]) := by
  intro v w hv hlen
  have hv0 := hv
  obtain ⟨a, cp, rfl, -, -⟩ := id hv
  obtain ⟨hlen2, hcap, b, off, rfl, hbn, hel⟩ := hv.last
  rw [hlen2] at hv hv0 hcap ⊢
  simp only [List.length_append, List.length_singleton] at hv hv0 hlen hlen2 hel hcap ⊢
  unfold maxLen at hcap
  obtain ⟨i1, i2, i3, sv, c0, c1, c2, c3, hints⟩ := hel
  obtain ⟨sa, sc, rfl, -, -, -⟩ := id hints
  simp only at c0 c2 c3
  clear hlen2 i1 i2 i3 hints
  have e1 : (((l.length + r.length + 1 : Nat) : Int) - 1) = ((l.length + r.length : Nat) : Int) := by omega
  have pl := sl.ne
  have pr := sr.ne
  have hvL : ElsAt 0 w.heap.size w (.slice (some ⟨b, off, none⟩) l.length cp) (l) := by rw [List.append_assoc] at hv0; exact hv0.pre
  have hvR := hv0.mid (cap' := cp - l.length) (by unfold maxLen; omega)
  have HvL := hide hvL
  have HvR := hide hvR
  have Hv0 := hide hv0
  have NL := hide nl
  have NR := hide nr
  clear hvL hvR hv hv0 nl nr
  rcases hk with rfl | rfl
  all_goals
    go_enter Tryd.func34, Tryd.ntmps34
    go_wp2_with fail
    refine (l1start_bin _ l r cr _ _ _ sr (by exact (unhide Hv0).below (below1 w _) (Nat.le_refl _)) (by omega) rfl).mono ?_
    rintro e w1 ⟨rfl, rfl⟩
    go_wp2_with fail
    refine (Hl _ _ (by exact (unhide HvL).below (below1 w _) (Nat.le_refl _)) (by omega)).mono ?_
    rintro e w1 ⟨v1, rfl, hg1, hb1⟩
    obtain ⟨o1, d1, rfl⟩ := hg1.form
    have hB1 : Below w.heap.size w w1 := (below1 w _).trans (hb1.mono (by rw [sz_alloc]; omega))
    have Hg1 := hide hg1
    have Hb1 := hide hb1
    clear hb1 hg1
    go_wp2_with fail
    refine (Hr _ _ (by exact (unhide HvR).below hB1 (Nat.le_refl _)) (by omega)).mono ?_
    rintro e w2 ⟨v2, rfl, hg2, hb2⟩
    obtain ⟨o2, d2, rfl⟩ := hg2.form
    have hB2 : Below w.heap.size w w2 := hB1.trans (hb2.mono hB1.size)
    have hX := hide (((unhide Hg1).keep hb2 (Nat.le_refl _)).els (unhide NL))
    have hY := hide (hg2.els (unhide NR))
    have hz1 := (unhide Hb1).size
    obtain ⟨hcc, -⟩ := bcell ((unhide Hb1).trans (hb2.mono hz1))
    simp only [sz_alloc] at hcc
    clear hb2 hg2 hz1
    go_wp2_with fail
    refine (l1bin_w _ _ _ L R _ (unhide hX) (unhide hY) (by omega) (by omega) (unhide NL).len (unhide NR).len).mono ?_
    rintro e w3 ⟨v3, rfl, hg3, hb3⟩
    have Hg3 := hide (hg3.base hB2.size)
    have hB3 : Below w.heap.size w w3 := hB2.trans (hb3.mono hB2.size)
    clear hg3 hb3 hcc
    go_wp2
    go_ret
    exact ⟨_, rfl, unhide Hg3, hB3⟩

end Go.Proofs.YtijejbdpagbmpaaDoor

namespace Go.Proofs.YtijejbdpagbmpaaDoor
open Go.RowKit

/-- A list of elements, its value and its blocks. -/
structure Pt where
  P : List El
  s : Value
  T : Nat → Prop
theorem Tryd.zinOpS : (Tryd.prog.info? 31).map (fun i => (i.zero, i.size, i.bytes)) = some (some (.slice none 0 0), 1, 24) := by kernel_rfl

/-- v is a slice of its own, from block base on, of these lists. -/
structure PGrow (base : Nat) (w : World) (v : Value) (ps : List Pt) : Prop where
  own : w.ownsRow base 31 1 v ps.length (ps.map Pt.s)
  els : ∀ p ∈ ps, ElsF p.T w p.s p.P
  blk : ∀ p ∈ ps, ∀ k, p.T k → k < w.heap.size ∧ v.ownBlock ≠ some k
theorem PGrow.nil (base : Nat) (w : World) : PGrow base w (.slice none 0 0) [] := ⟨World.ownsRow_nil _ _ _ _, by simp, by simp⟩
theorem PGrow.keep {base m : Nat} {w w' : World} {v : Value} {ps : List Pt} (h : PGrow base w v ps) (hb : Below m w w') (hm : w.heap.size ≤ m) : PGrow base w' v ps :=
  ⟨own_keep h.own hb hm, fun p hp => (h.els p hp).same (fun k hk => hb.block k (by have := (h.blk p hp k hk).1; omega)), fun p hp k hk => ⟨by have h1 := (h.blk p hp k hk).1; have h2 := hb.size; omega, (h.blk p hp k hk).2⟩⟩

theorem ElsF.one {S : Nat → Prop} {w : World} {v : Value} {xs : List El} (h : ElsF S w v xs) : v.oneCell' = true := by
  obtain ⟨a, cap, rfl, -⟩ := h
  rfl

theorem app_part {base : Nat} {wr w1 W : World} {ops : Array Oper} {rest : List Oper} {o : Oper} {a : Act} {Q : Exit → Act → World → Prop} {v : Value} {ps : List Pt} (p : Pt) (hgd : o.guard = none) (s y : Operand)
    (ho : o.op = .call { callee := .builtin .append, args := #[s, y], argTypes := #[99, 99] }) (hs : a.eval s = v) (hy : a.eval y = .slice (some ⟨w1.heap.size, 0, none⟩) 1 1)
    (h : PGrow base wr v ps) (hbase : base ≤ wr.heap.size) (hb : Below wr.heap.size wr w1) (hE : ElsF p.T w1 p.s p.P) (hT : ∀ k, p.T k → k < w1.heap.size ∧ v.ownBlock ≠ some k)
    (hP : Pushd w1 W (.cells #[p.s] 31)) (hlen : ps.length ≤ 16777216)
    (K : ∀ v' w', PGrow base w' v' (ps ++ [p]) → Below base wr w' → wpList Tryd.prog ops Q rest (a.put o.dst v') w') : wpList Tryd.prog ops Q (o :: rest) a W := by
  obtain ⟨j0, hj, hy0, hy1, hy2⟩ := info_parts Tryd.zinOpS
  have hown := hP.own (own_keep h.own hb (Nat.le_refl _))
  have hz := hb.size
  have hZ := hP.size
  refine wpList_append_own_at W hgd s y 99 ho base 31 j0 (.slice none 0 0) 1 24 Tryd.underlying99 hj hy0 hy1 hy2 rfl (by decide) v ps.length (ps.map Pt.s) hs hown ⟨w1.heap.size, 0, none⟩ 1 1 [p.s] hy rfl ?_ ?_ ?_ ?_ ?_ ?_
  · exact Pushd.news hP
  · intro u hu
    obtain rfl := List.mem_singleton.1 hu
    exact hE.one
  · unfold maxLen; omega
  · omega
  · omega
  · intro v' w' q1 q2 _ q3
    have hgz : W.heap.size ≤ w'.heap.size := q2.size
    have hv'b : ∀ k, k < W.heap.size → v.ownBlock ≠ some k → v'.ownBlock ≠ some k := fun k hk hne e => by
      rcases q3 with ho | ho
      · exact hne (by rw [← ho, e])
      · rw [ho] at e; simp at e; omega
    have hblk : ∀ k, k < W.heap.size → v.ownBlock ≠ some k → w'.heap[k]? = W.heap[k]? := fun k hk hne => q2.block k hk (fun e => hne e.symm)
    have hB : Below wr.heap.size wr W := hb.trans (hP.below.mono hb.size)
    refine K v' w' ⟨by rw [List.length_append, List.map_append]; exact q1, fun q hq => ?_, fun q hq k hk => ?_⟩ ((hB.mono hbase).grown q2 (by omega) (fun k hk => (h.own.lt k hk).1))
    · rcases List.mem_append.1 hq with hq | hq
      · refine ((h.els q hq).same (w' := W) (fun k hk => hB.block k (h.blk q hq k hk).1)).same (fun k hk => ?_)
        have := h.blk q hq k hk
        exact hblk k (by omega) this.2
      · obtain rfl := List.mem_singleton.1 hq
        refine (hE.same (w' := W) (fun k hk => hP.old (hT k hk).1)).same (fun k hk => ?_)
        have := hT k hk
        exact hblk k (by omega) this.2
    · rcases List.mem_append.1 hq with hq | hq
      · have := h.blk q hq k hk
        exact ⟨by omega, hv'b k (by omega) this.2⟩
      · obtain rfl := List.mem_singleton.1 hq
        have := hT k hk
        exact ⟨by omega, hv'b k (by omega) this.2⟩

/-- Parts, joined by cat, leftmost first. -/
def catE : El := ⟨2, [], 0, 0⟩
def jn : List (List El) → List El
  | [] => []
  | p :: r => r.foldl (fun acc q => acc ++ q ++ [catE]) p
theorem jn_one (p : List El) : jn [p] = p := rfl
theorem jn_snoc {ps : List (List El)} (h : ps ≠ []) (q : List El) : jn (ps ++ [q]) = jn ps ++ q ++ [catE] := by
  cases ps with
  | nil => exact absurd rfl h
  | cons p r => simp [jn, List.foldl_append]

def optE (X : List El) : List El := X ++ [⟨0, [], 0, 0⟩] ++ [⟨3, [], 0, 0⟩]
/-- The parts of a repetition that is written out. -/
def partsX (X : List El) (mn mx : Int) : List (List El) :=
  if mx = -1 then List.replicate (mn - 1).toNat X ++ [X ++ [⟨4, [], if 1 < mn then 1 else mn, -1⟩]]
  else List.replicate mn.toNat X ++ List.replicate (mx - mn).toNat (optE X)
def repX (X : List El) (mn mx : Int) : List El := if mx = 0 then [⟨0, [], 0, 0⟩] else jn (partsX X mn mx)

set_option maxHeartbeats 4000000 in
set_option maxRecDepth 100000 in
theorem xpS_zero (mn : Int) (x X : List El) (cx : Int) (sx : SegM x cx) (Hx : XpS x X) : XpS (x ++ [⟨4, [], mn, 0⟩]) [⟨0, [], 0, 0⟩] := by
  intro v w hv hlen
  obtain ⟨a, cp, rfl, -, -⟩ := id hv
  obtain ⟨hlen2, hcap, b, off, rfl, hbn, hel⟩ := hv.last
  rw [hlen2] at hv hcap ⊢
  simp only [List.length_append, List.length_singleton] at hv hlen hlen2 hel hcap ⊢
  unfold maxLen at hcap
  obtain ⟨i1, i2, i3, sv, c0, c1, c2, c3, hints⟩ := hel
  obtain ⟨sa, sc, rfl, -, -, -⟩ := id hints
  simp only at c0 c2 c3
  clear hlen2 i1 i2 i3 hints
  have pl := sx.ne
  have hvL : ElsAt 0 w.heap.size w (.slice (some ⟨b, off, none⟩) x.length cp) x := hv.pre
  have HvL := hide hvL
  clear hvL hv
  go_enter Tryd.func34, Tryd.ntmps34
  go_wp2_with fail
  refine (Hx _ _ (by exact (unhide HvL).below (below1 w _) (Nat.le_refl _)) (by omega)).mono ?_
  rintro e w1 ⟨v1, rfl, hg1, hb1⟩
  have hB1 : Below w.heap.size w w1 := (below1 w _).trans (hb1.mono (by rw [sz_alloc]; omega))
  obtain ⟨hcc, -⟩ := bcell hb1
  simp only [sz_alloc] at hcc
  clear hb1 hg1
  go_wp2_with fail
  refine (l1empty_w _).mono ?_
  rintro e w2 ⟨v2, rfl, hg2, hb2⟩
  have Hg2 := hide (hg2.base hB1.size)
  have hB2 : Below w.heap.size w w2 := hB1.trans (hb2.mono hB1.size)
  clear hg2 hb2 hcc
  go_wp2
  go_ret
  exact ⟨_, rfl, unhide Hg2, hB2⟩

end Go.Proofs.YtijejbdpagbmpaaDoor

namespace Go.Proofs.YtijejbdpagbmpaaDoor
open Go.RowKit

theorem own_at_g {base n e : Nat} {w : World} {v : Value} {xs : List Value} (h : w.ownsRow base e 1 v n xs) (hp : 0 < n) : ∃ g cap, v = .slice (some ⟨g, 0, none⟩) n cap ∧ ∀ j : Nat, j < n → w.cell? ⟨g, j, none⟩ = xs[j]? := by
  rcases h.2 with ⟨rfl, hz⟩ | ⟨g, cap, cur, rfl, hbg, hg, hnc, hcm, hcs, htake⟩
  · omega
  · exact ⟨g, cap, rfl, fun j hj => h.cellAt j (by omega)⟩
theorem jn_len (ps : List (List El)) (h : ∀ p ∈ ps, p.length ≤ 3002) : (jn ps).length ≤ ps.length * 3003 := by
  cases ps with
  | nil => simp [jn]
  | cons p r =>
    have key : ∀ (r : List (List El)) (acc : List El), (∀ p ∈ r, p.length ≤ 3002) → (r.foldl (fun acc q => acc ++ q ++ [catE]) acc).length ≤ acc.length + r.length * 3003 := by
      intro r
      induction r with
      | nil => intro acc _; simp
      | cons q r ih =>
        intro acc hq
        have h1 := ih (acc ++ q ++ [catE]) (fun p hp => hq p (by simp [hp]))
        have h2 := hq q (by simp)
        simp only [List.foldl_cons, List.length_cons, List.length_append, List.length_nil] at h1 ⊢
        omega
    have h1 := key r p (fun q hq => h q (by simp [hq]))
    have h2 := h p (by simp)
    simp only [jn, List.length_cons]
    omega
theorem jn_nice (ps : List (List El)) (h : ∀ p ∈ ps, Nice p) : Nice (jn ps) := by
  cases ps with
  | nil => exact Nice.nil
  | cons p r =>
    have key : ∀ (r : List (List El)) (acc : List El), Nice acc → (∀ p ∈ r, Nice p) → Nice (r.foldl (fun acc q => acc ++ q ++ [catE]) acc) := by
      intro r
      induction r with
      | nil => intro acc h _; exact h
      | cons q r ih =>
        intro acc ha hq
        exact ih _ ((ha.app (hq q (by simp))).app (Nice.op 2 0 0 (by simp [In64]) (by simp [In64]) (by simp [In64]))) (fun p hp => hq p (by simp [hp]))
    exact key r p (h p (by simp)) (fun q hq => h q (by simp [hq]))
theorem jn_next {ps : List Pt} {k : Nat} (h : k < ps.length) : jn ((ps.take (k + 1)).map Pt.P) = if k = 0 then (ps[k]).P else jn ((ps.take k).map Pt.P) ++ (ps[k]).P ++ [catE] := by
  rw [List.take_succ_eq_append_getElem h, List.map_append]
  by_cases e : k = 0
  · subst e; simp [jn]
  · rw [if_neg e]
    exact jn_snoc (by intro q; have := congrArg List.length q; rw [List.length_map, List.length_take, List.length_nil] at this; omega) _

set_option maxHeartbeats 4000000 in
set_option maxRecDepth 100000 in
theorem xpS_star (mn : Int) (x X : List El) (cx : Int) (sx : SegM x cx) (Hx : XpS x X) (o2 : 0 ≤ mn) (o3 : mn ≤ 250) (nx : Nice X) (lx : X.length ≤ 3000) : XpS (x ++ [⟨4, [], mn, -1⟩]) (jn (partsX X mn (-1))) := by
  intro v w hv hlen
  obtain ⟨a, cp, rfl, -, -⟩ := id hv
  obtain ⟨hlen2, hcap, b, off, rfl, hbn, hel⟩ := hv.last
  rw [hlen2] at hv hcap ⊢
  simp only [List.length_append, List.length_singleton] at hv hlen hlen2 hel hcap ⊢
  unfold maxLen at hcap
  obtain ⟨i1, i2, i3, sv, c0, c1, c2, c3, hints⟩ := hel
  obtain ⟨sa, sc, rfl, -, -, -⟩ := id hints
  simp only at c0 c2 c3
  clear hlen2 i1 i2 i3 hints
  have pl := sx.ne
  have hvL : ElsAt 0 w.heap.size w (.slice (some ⟨b, off, none⟩) x.length cp) x := hv.pre
  have HvL := hide hvL
  have NX := hide nx
  clear hvL hv nx
  go_enter Tryd.func34, Tryd.ntmps34
  go_wp2_with fail
  refine (Hx _ _ (by exact (unhide HvL).below (below1 w _) (Nat.le_refl _)) (by omega)).mono ?_
  rintro e w1 ⟨v1, rfl, hg1, hb1⟩
  obtain ⟨o1, d1, rfl⟩ := hg1.form
  have hB1 : Below w.heap.size w w1 := (below1 w _).trans (hb1.mono (by rw [sz_alloc]; omega))
  have hz1 := hb1.size
  rw [sz_alloc] at hz1
  have RA := hide ((Row4.new w 44 (.int .i64 4) (.slice sa 0 sc) (.int .i64 mn) (.int .i64 (-1))).below hb1 (by rw [sz_alloc]; omega))
  have hX0 := hg1.foot
  rw [sz_alloc] at hX0
  have HX := hide hX0
  obtain ⟨q0, q1, q2, q3, -⟩ := Row4.facts (unhide RA)
  clear hb1 hg1 hX0
  go_wp2
  go_loopw [9, 10] (fun pv i wr => ∃ j : Nat, i = .int .i64 ((j : Int) + 1) ∧ (j = 0 ∨ (j : Int) + 1 ≤ mn) ∧ PGrow w1.heap.size wr pv (List.replicate j ⟨X, .slice o1 X.length d1, Rng (w.heap.size + 1) w1.heap.size⟩) ∧ Below w1.heap.size w1 wr) (fun _ i _ => (mn - intOf i).toNat)
  case atStart => exact ⟨0, rfl, Or.inl rfl, PGrow.nil _ _, Below.refl _ _⟩
  case round =>
    obtain ⟨j, rfl, hj, hpg, hbr⟩ := hrel
    clear q0 q1 q2 q3
    obtain ⟨q0, q1, q2, q3, -⟩ := Row4.facts ((unhide RA).below hbr (by omega))
    have hzr := hbr.size
    have Hpg := hide hpg
    have hXr := hide ((unhide HX).same (w' := wr) (fun k hk => hbr.block k hk.2))
    have hTr : Hid (∀ k, Rng (w.heap.size + 1) w1.heap.size k → k < wr.heap.size) := fun k hk => Nat.lt_of_lt_of_le hk.2 hzr
    have hown : Hid (∀ k, Rng (w.heap.size + 1) w1.heap.size k → ∀ (u : Value) (n : Nat) (vs : List Value), wr.ownsRow w1.heap.size 31 1 u n vs → u.ownBlock ≠ some k) := fun k hk u n vs h e => by
      have := (h.lt k e).1
      unfold Rng at hk
      omega
    obtain ⟨pa, pc, rfl⟩ := own_is hpg.own
    rw [List.length_replicate] at Hpg ⊢
    clear hpg
    by_cases hlt : (j : Int) + 1 < mn
    · go_wp2_with (at_builtin; refine app_part ⟨X, .slice o1 X.length d1, Rng (w.heap.size + 1) w1.heap.size⟩ rfl _ _ rfl rfl rfl (unhide Hpg) hzr (Below.refl _ _) (unhide hXr) (fun k hk => ⟨unhide hTr k hk, unhide hown k hk _ _ _ (unhide Hpg).own⟩) ⟨rfl, rfl, rfl, rfl⟩ (by rw [List.length_replicate]; omega) ?_)
      intro v2 w2 hg2 hb2
      have Hg2 : Hid (PGrow w1.heap.size w2 v2 (List.replicate (j + 1) ⟨X, .slice o1 X.length d1, Rng (w.heap.size + 1) w1.heap.size⟩)) := by rw [List.replicate_succ']; exact hg2
      clear hg2
      go_wp2
      go_roundw
      case rel => exact ⟨j + 1, by go_num, Or.inr (by omega), unhide Hg2, hbr.trans hb2⟩
      case measure => simp [intOf]; omega
    · have hjj : Hid (j = (mn - 1).toNat) := by show j = (mn - 1).toNat; omega
      have hXe := hide ((unhide hXr).at (fun k hk => unhide hTr k hk) (unhide NX).num)
      by_cases h1 : 1 < mn
      · go_wp2_with fail
        refine (l1rep_w 1 (-1) _ X _ (unhide hXe) (by omega) (unhide NX).len).mono ?_
        rintro e w2 ⟨v2, rfl, hg2, hb2⟩
        obtain ⟨p2, d2, rfl⟩ : ∃ a c, v2 = .slice a (X.length + 1) c := by have := hg2.form; rwa [List.length_append] at this
        have Hf2 := hide hg2.foot
        clear hg2
        go_wp2_with (at_builtin; refine app_part ⟨X ++ [⟨4, [], 1, -1⟩], .slice p2 (X.length + 1) d2, Rng wr.heap.size w2.heap.size⟩ rfl _ _ rfl rfl rfl (unhide Hpg) hzr hb2 (unhide Hf2) (fun k hk => ⟨hk.2, fun e => by have := ((unhide Hpg).own.lt k e).2; unfold Rng at hk; omega⟩) ⟨rfl, rfl, rfl, rfl⟩ (by rw [List.length_replicate]; omega) ?_)
        intro v3 w3 hg3 hb3
        have hB3 : Below w1.heap.size w1 w3 := hbr.trans hb3
        obtain ⟨ps, hps⟩ : ∃ ps, ps = List.replicate j (⟨X, .slice o1 X.length d1, Rng (w.heap.size + 1) w1.heap.size⟩ : Pt) ++ [⟨X ++ [⟨4, [], 1, -1⟩], .slice p2 (X.length + 1) d2, Rng wr.heap.size w2.heap.size⟩] := ⟨_, rfl⟩
        rw [← hps] at hg3
        have hjn : Hid (jn (ps.map Pt.P) = jn (partsX X mn (-1))) := by
          rw [hps, List.map_append, List.map_replicate, unhide hjj]
          unfold partsX
          rw [if_pos rfl, if_pos h1]
          rfl
        have hpl : ps.length ≤ 251 := by rw [hps, List.length_append, List.length_replicate]; simp; omega
        have hpn : Hid (∀ p ∈ ps, Nice p.P ∧ p.P.length ≤ 3002) := fun p hp => by
          rw [hps] at hp
          rcases List.mem_append.1 hp with hp | hp
          · rw [(List.mem_replicate.1 hp).2]
            exact ⟨unhide NX, by show X.length ≤ 3002; omega⟩
          · rw [List.mem_singleton.1 hp]
            exact ⟨(unhide NX).app (Nice.op _ _ _ (by simp [In64]) (by unfold In64; omega) (by simp [In64])), by show (X ++ [_]).length ≤ 3002; rw [List.length_append]; simp; omega⟩
        have Hg3 := hide hg3
        have hB : Below w.heap.size w w3 := hB1.trans (hB3.mono (by omega))
        have hz3 := hB3.size
        obtain ⟨pa3, pc3, rfl⟩ := own_is hg3.own
        clear hg3 hps hb3 hb2 Hf2 q0 q1 q2 q3 Hpg hXr hTr hown hXe
        go_wp2
        go_loopw [13, 14] (fun ov i wl => ∃ k : Nat, k ≤ ps.length ∧ i = .int .i64 k ∧ GrowE w3.heap.size wl ov (jn ((ps.take k).map Pt.P)) ∧ Below w3.heap.size w3 wl) (fun _ i _ => ps.length - (intOf i).toNat)
        case atStart => exact ⟨0, Nat.zero_le _, rfl, GrowE.nil _ _, Below.refl _ _⟩
        case round =>
          obtain ⟨k, hk, rfl, hgo, hbl⟩ := hrel
          have hzl := hbl.size
          by_cases hlt2 : k < ps.length
          · have hmem := List.getElem_mem hlt2
            have hE := (unhide Hg3).els _ hmem
            have hTk := (unhide Hg3).blk _ hmem
            have hNk := unhide hpn _ hmem
            have hEl := hide ((hE.same (w' := wr) (fun k hk => hbl.block k (hTk k hk).1)).at (N := wr.heap.size) (fun k hk => Nat.lt_of_lt_of_le (hTk k hk).1 hzl) hNk.1.num)
            obtain ⟨g, cap, ev, hcell⟩ := own_at_g (own_keep (unhide Hg3).own hbl (Nat.le_refl _)) (by omega)
            simp only [Value.slice.injEq, true_and] at ev
            obtain ⟨rfl, rfl⟩ := ev
            have hx := hcell k hlt2
            rw [List.getElem?_map, List.getElem?_eq_getElem hlt2, Option.map_some] at hx
            have Hnext := hide (jn_next hlt2)
            obtain ⟨sa2, sc2, hsv, -⟩ := hE
            have Hsv := hide hsv
            rw [hsv] at hx hEl
            have hNk1 := hide hNk.1
            have hNk2 := hNk.2
            clear hcell hTk hmem hNk hsv
            generalize (ps[k]).P = P at *
            have hlt3 : (k : Int) < (ps.length : Int) := by omega
            obtain ⟨qa, qc, rfl⟩ := hgo.form
            obtain ⟨os, hos, hgp⟩ := hgo
            have hol : os.length = (jn ((ps.take k).map Pt.P)).length := by rw [← hos, List.length_map]
            have hjl := jn_len ((ps.take k).map Pt.P) (fun p hp => by obtain ⟨q, hq, rfl⟩ := List.mem_map.1 hp; exact (unhide hpn q (List.mem_of_mem_take hq)).2)
            rw [List.length_map, List.length_take] at hjl
            have hol2 : os.length ≤ 800000 := by omega
            have Hos := hide hos
            have Hgp := hide hgp
            clear hos hgp hjl
            have hJ0 : Hid (k = 0 → jn ((ps.take k).map Pt.P) = []) := fun e => by subst e; rfl
            generalize jn ((ps.take k).map Pt.P) = J at *
            go_wp2_with fail
            refine (l1copy_w _ P _ (unhide hEl) (by omega) (unhide hNk1).len).mono ?_
            rintro e w4 ⟨v4, rfl, hg4, hb4⟩
            obtain ⟨qb, qd, rfl⟩ := hg4.form
            obtain ⟨us, hus, hg4⟩ := hg4
            have hul : us.length = P.length := by rw [← hus, List.length_map]
            have Hus := hide hus
            have Hg4 := hide hg4
            clear hus hg4 hx hEl
            go_wp2_with (at_builtin; refine app_ops rfl _ _ rfl rfl rfl (unhide Hgp) hzl hb4 (unhide Hg4) (fun p hp => Pc.one ((unhide Hg4).set p hp)) (by omega) (by omega) ?_)
            intro v5 w5 hg5 hb5
            obtain ⟨qe, qf, rfl⟩ := own_is hg5.own
            have hB5 : Below w3.heap.size w3 w5 := hbl.trans hb5
            have hz5 := hB5.size
            have Hg5 := hide hg5
            clear hg5
            by_cases hk0 : k = 0
            · subst hk0
              have hfin : Hid (GrowE w3.heap.size w5 (.slice qe (os ++ us).length qf) (jn ((ps.take (0 + 1)).map Pt.P))) := ⟨_, by rw [unhide Hnext, if_pos rfl, List.map_append, unhide Hos, unhide Hus, unhide hJ0 rfl]; rfl, unhide Hg5⟩
              go_wp2
              exact ⟨⟨1, by omega, rfl, unhide hfin, hB5⟩, by simp [intOf]; omega⟩
            · have hk1 : (0 : Int) < (k : Int) := by omega
              go_wp2_with (at_builtin; refine app_op ⟨2, [], 0, 0⟩ (.slice none 0 0) (fun _ => False) rfl _ _ rfl rfl rfl (unhide Hg5) hz5 (Below.refl _ _) (SlF.none _) (fun k hk => hk.elim) rfl ⟨rfl, rfl, rfl, rfl⟩ (by rw [List.length_append]; omega) ?_)
              intro v6 w6 hg6 hb6
              have hfin : Hid (GrowE w3.heap.size w6 v6 (jn ((ps.take (k + 1)).map Pt.P))) := ⟨_, by rw [unhide Hnext, if_neg hk0]; simp [unhide Hos, unhide Hus, catE], hg6⟩
              clear hg6
              go_wp2
              exact ⟨⟨k + 1, by omega, by go_num, unhide hfin, hB5.trans hb6⟩, by simp [intOf]; omega⟩
          · obtain rfl : k = ps.length := by omega
            rw [List.take_length, unhide hjn] at hgo
            have Hgo := hide (hgo.base hB.size)
            clear hgo
            go_wp2
            go_ret
            exact ⟨_, rfl, unhide Hgo, hB.trans (hbl.mono hB.size)⟩
      · go_wp2_with fail
        refine (l1rep_w mn (-1) _ X _ (unhide hXe) (by omega) (unhide NX).len).mono ?_
        rintro e w2 ⟨v2, rfl, hg2, hb2⟩
        obtain ⟨p2, d2, rfl⟩ : ∃ a c, v2 = .slice a (X.length + 1) c := by have := hg2.form; rwa [List.length_append] at this
        have Hf2 := hide hg2.foot
        clear hg2
        go_wp2_with (at_builtin; refine app_part ⟨X ++ [⟨4, [], mn, -1⟩], .slice p2 (X.length + 1) d2, Rng wr.heap.size w2.heap.size⟩ rfl _ _ rfl rfl rfl (unhide Hpg) hzr hb2 (unhide Hf2) (fun k hk => ⟨hk.2, fun e => by have := ((unhide Hpg).own.lt k e).2; unfold Rng at hk; omega⟩) ⟨rfl, rfl, rfl, rfl⟩ (by rw [List.length_replicate]; omega) ?_)
        intro v3 w3 hg3 hb3
        have hB3 : Below w1.heap.size w1 w3 := hbr.trans hb3
        obtain ⟨ps, hps⟩ : ∃ ps, ps = List.replicate j (⟨X, .slice o1 X.length d1, Rng (w.heap.size + 1) w1.heap.size⟩ : Pt) ++ [⟨X ++ [⟨4, [], mn, -1⟩], .slice p2 (X.length + 1) d2, Rng wr.heap.size w2.heap.size⟩] := ⟨_, rfl⟩
        rw [← hps] at hg3
        have hjn : Hid (jn (ps.map Pt.P) = jn (partsX X mn (-1))) := by
          rw [hps, List.map_append, List.map_replicate, unhide hjj]
          unfold partsX
          rw [if_pos rfl, if_neg (by omega)]
          rfl
        have hpl : ps.length ≤ 251 := by rw [hps, List.length_append, List.length_replicate]; simp; omega
        have hpn : Hid (∀ p ∈ ps, Nice p.P ∧ p.P.length ≤ 3002) := fun p hp => by
          rw [hps] at hp
          rcases List.mem_append.1 hp with hp | hp
          · rw [(List.mem_replicate.1 hp).2]
            exact ⟨unhide NX, by show X.length ≤ 3002; omega⟩
          · rw [List.mem_singleton.1 hp]
            exact ⟨(unhide NX).app (Nice.op _ _ _ (by simp [In64]) (by unfold In64; omega) (by simp [In64])), by show (X ++ [_]).length ≤ 3002; rw [List.length_append]; simp; omega⟩
        have Hg3 := hide hg3
        have hB : Below w.heap.size w w3 := hB1.trans (hB3.mono (by omega))
        have hz3 := hB3.size
        obtain ⟨pa3, pc3, rfl⟩ := own_is hg3.own
        clear hg3 hps hb3 hb2 Hf2 q0 q1 q2 q3 Hpg hXr hTr hown hXe
        go_wp2
        go_loopw [13, 14] (fun ov i wl => ∃ k : Nat, k ≤ ps.length ∧ i = .int .i64 k ∧ GrowE w3.heap.size wl ov (jn ((ps.take k).map Pt.P)) ∧ Below w3.heap.size w3 wl) (fun _ i _ => ps.length - (intOf i).toNat)
        case atStart => exact ⟨0, Nat.zero_le _, rfl, GrowE.nil _ _, Below.refl _ _⟩
        case round =>
          obtain ⟨k, hk, rfl, hgo, hbl⟩ := hrel
          have hzl := hbl.size
          by_cases hlt2 : k < ps.length
          · have hmem := List.getElem_mem hlt2
            have hE := (unhide Hg3).els _ hmem
            have hTk := (unhide Hg3).blk _ hmem
            have hNk := unhide hpn _ hmem
            have hEl := hide ((hE.same (w' := wr) (fun k hk => hbl.block k (hTk k hk).1)).at (N := wr.heap.size) (fun k hk => Nat.lt_of_lt_of_le (hTk k hk).1 hzl) hNk.1.num)
            obtain ⟨g, cap, ev, hcell⟩ := own_at_g (own_keep (unhide Hg3).own hbl (Nat.le_refl _)) (by omega)
            simp only [Value.slice.injEq, true_and] at ev
            obtain ⟨rfl, rfl⟩ := ev
            have hx := hcell k hlt2
            rw [List.getElem?_map, List.getElem?_eq_getElem hlt2, Option.map_some] at hx
            have Hnext := hide (jn_next hlt2)
            obtain ⟨sa2, sc2, hsv, -⟩ := hE
            have Hsv := hide hsv
            rw [hsv] at hx hEl
            have hNk1 := hide hNk.1
            have hNk2 := hNk.2
            clear hcell hTk hmem hNk hsv
            generalize (ps[k]).P = P at *
            have hlt3 : (k : Int) < (ps.length : Int) := by omega
            obtain ⟨qa, qc, rfl⟩ := hgo.form
            obtain ⟨os, hos, hgp⟩ := hgo
            have hol : os.length = (jn ((ps.take k).map Pt.P)).length := by rw [← hos, List.length_map]
            have hjl := jn_len ((ps.take k).map Pt.P) (fun p hp => by obtain ⟨q, hq, rfl⟩ := List.mem_map.1 hp; exact (unhide hpn q (List.mem_of_mem_take hq)).2)
            rw [List.length_map, List.length_take] at hjl
            have hol2 : os.length ≤ 800000 := by omega
            have Hos := hide hos
            have Hgp := hide hgp
            clear hos hgp hjl
            have hJ0 : Hid (k = 0 → jn ((ps.take k).map Pt.P) = []) := fun e => by subst e; rfl
            generalize jn ((ps.take k).map Pt.P) = J at *
            go_wp2_with fail
            refine (l1copy_w _ P _ (unhide hEl) (by omega) (unhide hNk1).len).mono ?_
            rintro e w4 ⟨v4, rfl, hg4, hb4⟩
            obtain ⟨qb, qd, rfl⟩ := hg4.form
            obtain ⟨us, hus, hg4⟩ := hg4
            have hul : us.length = P.length := by rw [← hus, List.length_map]
            have Hus := hide hus
            have Hg4 := hide hg4
            clear hus hg4 hx hEl
            go_wp2_with (at_builtin; refine app_ops rfl _ _ rfl rfl rfl (unhide Hgp) hzl hb4 (unhide Hg4) (fun p hp => Pc.one ((unhide Hg4).set p hp)) (by omega) (by omega) ?_)
            intro v5 w5 hg5 hb5
            obtain ⟨qe, qf, rfl⟩ := own_is hg5.own
            have hB5 : Below w3.heap.size w3 w5 := hbl.trans hb5
            have hz5 := hB5.size
            have Hg5 := hide hg5
            clear hg5
            by_cases hk0 : k = 0
            · subst hk0
              have hfin : Hid (GrowE w3.heap.size w5 (.slice qe (os ++ us).length qf) (jn ((ps.take (0 + 1)).map Pt.P))) := ⟨_, by rw [unhide Hnext, if_pos rfl, List.map_append, unhide Hos, unhide Hus, unhide hJ0 rfl]; rfl, unhide Hg5⟩
              go_wp2
              exact ⟨⟨1, by omega, rfl, unhide hfin, hB5⟩, by simp [intOf]; omega⟩
            · have hk1 : (0 : Int) < (k : Int) := by omega
              go_wp2_with (at_builtin; refine app_op ⟨2, [], 0, 0⟩ (.slice none 0 0) (fun _ => False) rfl _ _ rfl rfl rfl (unhide Hg5) hz5 (Below.refl _ _) (SlF.none _) (fun k hk => hk.elim) rfl ⟨rfl, rfl, rfl, rfl⟩ (by rw [List.length_append]; omega) ?_)
              intro v6 w6 hg6 hb6
              have hfin : Hid (GrowE w3.heap.size w6 v6 (jn ((ps.take (k + 1)).map Pt.P))) := ⟨_, by rw [unhide Hnext, if_neg hk0]; simp [unhide Hos, unhide Hus, catE], hg6⟩
              clear hg6
              go_wp2
              exact ⟨⟨k + 1, by omega, by go_num, unhide hfin, hB5.trans hb6⟩, by simp [intOf]; omega⟩
          · obtain rfl : k = ps.length := by omega
            rw [List.take_length, unhide hjn] at hgo
            have Hgo := hide (hgo.base hB.size)
            clear hgo
            go_wp2
            go_ret
            exact ⟨_, rfl, unhide Hgo, hB.trans (hbl.mono hB.size)⟩

end Go.Proofs.YtijejbdpagbmpaaDoor

namespace Go.Proofs.YtijejbdpagbmpaaDoor
open Go.RowKit

set_option maxHeartbeats 1000000 in
theorem copies_any (T : TypeId) (y : Value) (n : Int) (w : World) (hn : n ≤ 1000) :
    Calls Tryd.prog 72 #[.iface T y, .int .i64 n] w fun e w' => ∃ v, e = .returned v ∧ w'.ownsRow w.heap.size 52 1 v n.toNat (List.replicate n.toNat (.iface T y)) ∧ Below w.heap.size w w' := by
  obtain ⟨i0, hi, hz0, hz1, hz2⟩ := info_parts Tryd.info52
  go_enter Tryd.func72, Tryd.ntmps72
  go_wp2
  go_loopw [5, 7] (fun ov i wr => ∃ j : Nat, i = .int .i64 (j : Int) ∧ (j = 0 ∨ (j : Int) ≤ n) ∧ wr.ownsRow w.heap.size 52 1 ov j (List.replicate j (.iface T y)) ∧ Below w.heap.size w wr) (fun _ i _ => (n - intOf i).toNat)
  case atStart => exact ⟨0, rfl, Or.inl rfl, World.ownsRow_nil _ _ _ _, Below.refl _ _⟩
  case round =>
    obtain ⟨j, rfl, hj, hown, hb⟩ := hrel
    have hz := hb.size
    have Hown := hide hown
    obtain ⟨oa, oc, rfl⟩ := own_is hown
    clear hown
    by_cases hlt : (j : Int) < n
    · go_wp2_with (at_builtin; refine wpList_append_own _ rfl _ _ 101 rfl w.heap.size 52 i0 .nilIface 1 16 Tryd.underlying101 hi hz0 hz1 hz2 rfl (by decide) _ _ _ rfl ((unhide Hown).alloc _) ⟨wr.heap.size, 0, none⟩ 1 1 [.iface T y] rfl rfl ?_ ?_ ?_ ?_ ?_ ?_)
      · exact cell_one (by simp)
      · intro u hu; simp at hu; subst hu; rfl
      · unfold maxLen; omega
      · omega
      · simp only [sz_alloc]; omega
      intro v' w' h1 hg _
      have H1 : Hid (w'.ownsRow w.heap.size 52 1 v' (j + 1) (List.replicate (j + 1) (.iface T y))) := by rw [List.replicate_succ']; exact h1
      have hB : Below w.heap.size w w' := (hb.alloc hz (.cells #[.iface T y] 52)).grown hg (by rw [sz_alloc]; omega) (fun k hk => ((unhide Hown).lt k hk).1)
      clear h1 hg
      go_wp2
      go_roundw
      case rel => exact ⟨j + 1, by go_num, Or.inr (by omega), unhide H1, hB⟩
      case measure => simp [intOf]; omega
    · have hjn : Hid (n.toNat = j) := by show n.toNat = j; omega
      go_wp2
      go_ret
      exact ⟨_, rfl, by rw [unhide hjn]; exact unhide Hown, hb⟩

/-- The nodes joined by cat, leftmost first. -/
def jV : List Value → Value
  | [] => undef
  | p :: r => r.foldl cV p
theorem foldV (r : List Value) : ∀ p : Value, (∃ T x, p = .iface T x) → ∃ T x, r.foldl cV p = .iface T x := by
  induction r with
  | nil => intro p h; exact h
  | cons q r ih => intro p _; exact ih (cV p q) ⟨_, _, rfl⟩
theorem foldV_next (r : List Value) (p : Value) (j : Nat) (h : j < r.length) : (r.take (j + 1)).foldl cV p = cV ((r.take j).foldl cV p) r[j] := by
  rw [List.take_succ_eq_append_getElem h, List.foldl_append]; rfl

set_option maxHeartbeats 1000000 in
theorem joinParts_any (base : Nat) (v p : Value) (r : List Value) (w : World) (hown : w.ownsRow base 52 1 v (r.length + 1) (p :: r)) (hif : ∀ u ∈ p :: r, ∃ T x, u = .iface T x) (hl : r.length ≤ 1000000) :
    Calls Tryd.prog 71 #[v] w fun e w' => e = .returned (jV (p :: r)) ∧ w' = w := by
  obtain ⟨g, cap, rfl, hcell⟩ := own_at_g hown (by omega)
  have hcap : r.length + 1 ≤ cap := by
    rcases hown.2 with ⟨e, -⟩ | ⟨g', cap', cur, e, -, -, hnc, -⟩
    · simp at e
    · simp only [Value.slice.injEq] at e
      rw [e.2.2]; exact hnc
  have hx0 : w.cell? ⟨g, 0, none⟩ = some p := hcell 0 (by omega)
  have hxs : Hid (∀ j : Nat, (h : j < r.length) → w.cell? ⟨g, 1 + j, none⟩ = some r[j]) := fun j h => by
    rw [hcell (1 + j) (by omega), Nat.add_comm 1 j, List.getElem?_cons_succ, List.getElem?_eq_getElem h]
  obtain ⟨T0, x0, rfl⟩ := hif p (by simp)
  have Hif := hide hif
  have hcI : ((r.length + 1 : Nat) : Int) ≤ (cap : Int) := by omega
  clear hcell hown hif
  by_cases hc1 : cap = 1
  · subst hc1
    obtain rfl : r = [] := List.eq_nil_of_length_eq_zero (by omega)
    go_enter Tryd.func71, Tryd.ntmps71
    go_wp2
    go_loop [3, 12] (fun q i => q = .iface T0 x0 ∧ i = .int .i64 0) (fun _ _ => 0)
    case atStart => exact ⟨rfl, rfl⟩
    case round =>
      obtain ⟨rfl, rfl⟩ := hrel
      go_wp2
      go_ret
      exact ⟨rfl, rfl⟩
  · go_enter Tryd.func71, Tryd.ntmps71
    go_wp2
    go_loop [3, 12] (fun q i => ∃ j : Nat, j ≤ r.length ∧ i = .int .i64 (j : Int) ∧ q = (r.take j).foldl cV (.iface T0 x0)) (fun _ i => r.length - (intOf i).toNat)
    case atStart => exact ⟨0, Nat.zero_le _, rfl, rfl⟩
    case round =>
      obtain ⟨j, hj, rfl, hq⟩ := hrel
      obtain ⟨T1, x1, e1⟩ := foldV (r.take j) _ ⟨T0, x0, rfl⟩
      by_cases hlt : j < r.length
      · have hx := unhide hxs j hlt
        obtain ⟨T2, x2, e2⟩ := unhide Hif r[j] (by simp)
        have Hn := hide (foldV_next r (.iface T0 x0) j hlt)
        rw [e1] at hq Hn
        rw [e2] at hx Hn
        subst hq
        have hlt' : (j : Int) < (r.length : Int) := by omega
        clear e1 e2
        go_wp2
        go_round
        case rel => exact ⟨j + 1, by omega, by go_num, by rw [unhide Hn]; rfl⟩
        case measure => simp [intOf]; omega
      · obtain rfl : j = r.length := by omega
        rw [List.take_length] at hq e1
        have He := hide e1
        rw [e1] at hq
        subst hq
        clear e1
        go_wp2
        go_ret
        exact ⟨by rw [← unhide He]; rfl, rfl⟩

end Go.Proofs.YtijejbdpagbmpaaDoor
