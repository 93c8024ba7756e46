import Derived.Test.YtinhliecfjlocaaGreatX2
namespace Go.Proofs.YtinhliecfjlocaaGreat
open Go.RowKit
theorem SlF.none (w : World) : SlF mI 0 (fun _ => False) w (.slice none 0 0) [] := ⟨0, 0, ⟨.none, 0, rfl, Nat.zero_le _, fun h => absurd h (by simp)⟩, fun k h1 h2 => by omega⟩
theorem app_op {base : Nat} {wr w1 W : World} {ops : Array Oper} {rest : List Oper} {o : Oper} {a : Act} {Q : Exit → Act → World → Prop} {v : Value} {ps : List Pc} (x : El) (sv : Value) (T : Nat → Prop) (hgd : o.guard = none) (s y : Operand)
    (ho : o.op = .call { callee := .builtin .append, args := #[s, y], argTypes := #[23, 23] }) (hs : a.eval s = v) (hy : a.eval y = .slice (some ⟨w1.heap.size, 0, none⟩) 1 1)
    (h : GrowP base wr v ps) (hbase : base ≤ wr.heap.size) (hb : Below wr.heap.size wr w1) (hsl : SlF mI 0 T w1 sv x.set) (hT : ∀ k, T k → wr.heap.size ≤ k ∧ k < w1.heap.size) (h1c : sv.oneCell' = true)
    (hP : Pushd w1 W (.cells #[.int .i64 x.kind, sv, .int .i64 x.mn, .int .i64 x.mx] 114)) (hlen : ps.length ≤ 16777216)
    (K : ∀ v' w', GrowP base w' v' (ps ++ [⟨x, sv, T⟩]) → Below base wr w' → wpList Tryz.prog ops Q rest (a.put o.dst v') w') : wpList Tryz.prog ops Q (o :: rest) a W := by
  obtain ⟨j0, hj, hy0, hy1, hy2⟩ := info_parts Tryz.zinOp
  have hown := hP.own (own_keep h.own hb (Nat.le_refl _))
  refine wpList_append_own_at W hgd s y 23 ho base 114 j0 (.agg #[.int .i64 0, .slice none 0 0, .int .i64 0, .int .i64 0]) 4 48 Tryz.underlying23 hj hy0 hy1 hy2 rfl (by decide) v ps.length (cellsP ps) hs hown ⟨w1.heap.size, 0, none⟩ 1 1 (cell4 x sv) hy rfl ?_ ?_ ?_ ?_ ?_ ?_
  · exact Pushd.news hP
  · intro u hu
    simp only [cell4, List.mem_cons, List.not_mem_nil, or_false] at hu
    rcases hu with rfl | rfl | rfl | rfl
    · rfl
    · exact h1c
    · rfl
    · rfl
  · unfold maxLen; omega
  · omega
  · have := hP.size; have := hb.size; omega
  · intro v' w' q1 q2 _ q3
    obtain ⟨r1, r2⟩ := h.app1 hbase hb hsl hT hP q1 q2 q3
    exact K v' w' r1 r2
theorem app_ops {base : Nat} {wr W : World} {ops : Array Oper} {rest : List Oper} {o : Oper} {a : Act} {Q : Exit → Act → World → Prop} {v u : Value} {ps qs : List Pc} (hgd : o.guard = none) (s y : Operand)
    (ho : o.op = .call { callee := .builtin .append, args := #[s, y], argTypes := #[23, 23] }) (hs : a.eval s = v) (hy : a.eval y = u)
    (h : GrowP base wr v ps) (hbase : base ≤ wr.heap.size) (hb : Below wr.heap.size wr W) (hq : GrowP wr.heap.size W u qs) (hq1 : ∀ p ∈ qs, p.s.oneCell' = true) (hlen : ps.length ≤ 16777216) (hlen2 : qs.length ≤ 16777216)
    (K : ∀ v' w', GrowP base w' v' (ps ++ qs) → Below base wr w' → wpList Tryz.prog ops Q rest (a.put o.dst v') w') : wpList Tryz.prog ops Q (o :: rest) a W := by
  obtain ⟨j0, hj, hy0, hy1, hy2⟩ := info_parts Tryz.zinOp
  have hown := own_keep h.own hb (Nat.le_refl _)
  rcases hq.own.2 with ⟨rfl, hz⟩ | ⟨g, cap, cur, rfl, hbg, hgc, hnc, hcm, hcs, htake⟩
  · obtain rfl : qs = [] := List.eq_nil_of_length_eq_zero hz
    refine wpList_append_none_c hgd s y 23 ho base 114 j0 4 Tryz.underlying23 hj v ps.length (cellsP ps) hs hown 0 hy (K v W ?_ (hb.mono hbase))
    rw [List.append_nil]
    exact h.keep hb (Nat.le_refl _)
  · refine wpList_append_own_at W hgd s y 23 ho base 114 j0 (.agg #[.int .i64 0, .slice none 0 0, .int .i64 0, .int .i64 0]) 4 48 Tryz.underlying23 hj hy0 hy1 hy2 rfl (by decide) v ps.length (cellsP ps) hs hown ⟨g, 0, none⟩ qs.length cap (cellsP qs) hy (cellsP_len qs) ?_ (cellsP_one qs hq1) ?_ ?_ ?_ ?_
    · intro j y hj2
      have e3 : (⟨g, 0, none⟩ : Addr).add j = ⟨g, j, none⟩ := by cases j <;> simp [Addr.add]
      rw [e3, hq.own.cellAt j (by have := (List.getElem?_eq_some_iff.1 hj2).1; rw [cellsP_len] at this; exact this)]
      exact hj2
    · unfold maxLen; omega
    · omega
    · have := hb.size; omega
    · intro v' w' q1 q2 _ q3
      exact K v' w' (h.app hbase hb hq.set (fun p hp k hk => ⟨(hq.blk p hp k hk).1, (hq.blk p hp k hk).2.1⟩) hq.dis q1 q2 q3) ((hb.mono hbase).grown q2 (by have := hb.size; omega) (fun k hk => (h.own.lt k hk).1))
theorem Pc.one {w : World} {p : Pc} (h : SlF mI 0 p.T w p.s p.x.set) : p.s.oneCell' = true := by
  obtain ⟨a, c, e⟩ := h.val
  rw [e]; rfl
set_option maxHeartbeats 2000000 in
theorem l1bin_w (k : Int) (vx vy : Value) (xs ys : List El) (w : World) (hx : ElsAt 0 w.heap.size w vx xs) (hy : ElsAt 0 w.heap.size w vy ys) (hlx : xs.length ≤ 1048576) (hly : ys.length ≤ 1048576) (hsx : ∀ i : Nat, (xs[i]?.getD dE).set.length ≤ 1048576) (hsy : ∀ i : Nat, (ys[i]?.getD dE).set.length ≤ 1048576) :
    Calls Tryz.prog 94 #[.int .i64 k, vx, vy] w fun e w' => ∃ v', e = .returned v' ∧ GrowE w.heap.size w' v' (xs ++ ys ++ [⟨k, [], 0, 0⟩]) ∧ Below w.heap.size w w' := by
  obtain ⟨a1, c1, rfl, -, -⟩ := id hx
  obtain ⟨a2, c2, rfl, -, -⟩ := id hy
  have Hx := hide hx
  have Hy := hide hy
  have Sx := hide hsx
  have Sy := hide hsy
  clear hx hy hsx hsy
  go_enter Tryz.func94, Tryz.ntmps94
  go_wp2_with fail
  refine (l1copy_w _ xs _ (unhide Hx) hlx (unhide Sx)).mono ?_
  rintro e w1 ⟨v1, rfl, hg1, hb1⟩
  obtain ⟨o1, d1, rfl⟩ := hg1.form
  obtain ⟨ps, hps, hg1⟩ := hg1
  have hpl : ps.length = xs.length := by rw [← hps, List.length_map]
  have Hg1 := hide hg1
  have Hps := hide hps
  have hz1 := hb1.size
  clear hg1 hps
  go_wp2_with fail
  refine (l1copy_w _ ys _ (by exact (unhide Hy).below hb1 (Nat.le_refl _)) hly (unhide Sy)).mono ?_
  rintro e w2 ⟨v2, rfl, hg2, hb2⟩
  obtain ⟨o2, d2, rfl⟩ := hg2.form
  obtain ⟨qs, hqs, hg2⟩ := hg2
  have hql : qs.length = ys.length := by rw [← hqs, List.length_map]
  have Hg2 := hide hg2
  have Hqs := hide hqs
  clear hg2 hqs
  go_wp2_with (at_builtin; refine app_ops rfl _ _ rfl rfl rfl (unhide Hg1) hz1 hb2 (unhide Hg2) (fun p hp => Pc.one ((unhide Hg2).set p hp)) (by omega) (by omega) ?_)
  intro v3 w3 hg3 hb3
  obtain ⟨o3, d3, rfl⟩ := own_is hg3.own
  have Hg3 := hide hg3
  have hB3 : Below w.heap.size w w3 := hb1.trans hb3
  have hz3 := hB3.size
  clear hg3
  go_wp2_with (at_builtin; refine app_op ⟨k, [], 0, 0⟩ (.slice none 0 0) (fun _ => False) rfl _ _ rfl rfl rfl (unhide Hg3) hz3 (Below.refl _ _) (SlF.none _) (fun k hk => hk.elim) rfl ⟨rfl, rfl, rfl, rfl⟩ (by rw [List.length_append]; omega) ?_)
  intro v4 w4 hg4 hb4
  have hfin : Hid (GrowE w.heap.size w4 v4 (xs ++ ys ++ [⟨k, [], 0, 0⟩])) := ⟨_, by simp [unhide Hps, unhide Hqs], hg4⟩
  clear hg4
  go_wp2
  go_ret
  exact ⟨_, rfl, unhide hfin, hB3.trans hb4⟩
set_option maxHeartbeats 2000000 in
theorem l1alt_w (vx vy : Value) (xs ys : List El) (w : World) (hx : ElsAt 0 w.heap.size w vx xs) (hy : ElsAt 0 w.heap.size w vy ys) (hlx : xs.length ≤ 1048576) (hly : ys.length ≤ 1048576) (hsx : ∀ i : Nat, (xs[i]?.getD dE).set.length ≤ 1048576) (hsy : ∀ i : Nat, (ys[i]?.getD dE).set.length ≤ 1048576) :
    Calls Tryz.prog 64 #[vx, vy] w fun e w' => ∃ v', e = .returned v' ∧ GrowE w.heap.size w' v' (xs ++ ys ++ [⟨3, [], 0, 0⟩]) ∧ Below w.heap.size w w' := by
  obtain ⟨a1, c1, rfl, -, -⟩ := id hx
  obtain ⟨a2, c2, rfl, -, -⟩ := id hy
  have Hx := hide hx
  have Hy := hide hy
  have Sx := hide hsx
  have Sy := hide hsy
  clear hx hy hsx hsy
  go_enter Tryz.func64, Tryz.ntmps64
  go_wp2_with fail
  refine (l1bin_w 3 _ _ xs ys _ (unhide Hx) (unhide Hy) hlx hly (unhide Sx) (unhide Sy)).mono ?_
  rintro e w1 ⟨v1, rfl, hg1, hb1⟩
  have Hg1 := hide hg1
  clear hg1
  go_wp2
  go_ret
  exact ⟨_, rfl, unhide Hg1, hb1⟩
set_option maxHeartbeats 2000000 in
theorem l1rep_w (lo hi : Int) (vx : Value) (xs : List El) (w : World) (hx : ElsAt 0 w.heap.size w vx xs) (hlx : xs.length ≤ 1048576) (hsx : ∀ i : Nat, (xs[i]?.getD dE).set.length ≤ 1048576) :
    Calls Tryz.prog 63 #[vx, .int .i64 lo, .int .i64 hi] w fun e w' => ∃ v', e = .returned v' ∧ GrowE w.heap.size w' v' (xs ++ [⟨4, [], lo, hi⟩]) ∧ Below w.heap.size w w' := by
  obtain ⟨a1, c1, rfl, -, -⟩ := id hx
  have Hx := hide hx
  have Sx := hide hsx
  clear hx hsx
  go_enter Tryz.func63, Tryz.ntmps63
  go_wp2_with fail
  refine (l1copy_w _ xs _ (unhide Hx) hlx (unhide Sx)).mono ?_
  rintro e w1 ⟨v1, rfl, hg1, hb1⟩
  obtain ⟨o1, d1, rfl⟩ := hg1.form
  obtain ⟨ps, hps, hg1⟩ := hg1
  have hpl : ps.length = xs.length := by rw [← hps, List.length_map]
  have Hg1 := hide hg1
  have Hps := hide hps
  have hz1 := hb1.size
  clear hg1 hps
  go_wp2_with (at_builtin; refine app_op ⟨4, [], lo, hi⟩ (.slice none 0 0) (fun _ => False) rfl _ _ rfl rfl rfl (unhide Hg1) hz1 (Below.refl _ _) (SlF.none _) (fun k hk => hk.elim) rfl ⟨rfl, rfl, rfl, rfl⟩ (by omega) ?_)
  intro v4 w4 hg4 hb4
  have hfin : Hid (GrowE w.heap.size w4 v4 (xs ++ [⟨4, [], lo, hi⟩])) := ⟨_, by simp [unhide Hps], hg4⟩
  clear hg4
  go_wp2
  go_ret
  exact ⟨_, rfl, unhide hfin, hb1.trans hb4⟩
theorem GrowE.lit (w : World) : GrowE w.heap.size (w.alloc (.cells #[.int .i64 0, .slice none 0 0, .int .i64 0, .int .i64 0] 114)) (.slice (some ⟨w.heap.size, 0, none⟩) 1 1) [⟨0, [], 0, 0⟩] := by
  refine ⟨[⟨⟨0, [], 0, 0⟩, .slice none 0 0, fun _ => False⟩], rfl, World.ownsRow_lit w _ 1 (Nat.le_refl _) (by unfold maxLen; omega) rfl, fun p hp => ?_, fun p hp k hk => ?_, List.pairwise_singleton _ _⟩
  · obtain rfl := List.mem_singleton.1 hp
    exact SlF.none _
  · obtain rfl := List.mem_singleton.1 hp
    exact hk.elim
set_option maxHeartbeats 2000000 in
theorem l1empty_w (w : World) : Calls Tryz.prog 65 #[] w fun e w' => ∃ v', e = .returned v' ∧ GrowE w.heap.size w' v' [⟨0, [], 0, 0⟩] ∧ Below w.heap.size w w' := by
  have hl := hide (GrowE.lit w)
  go_enter Tryz.func65, Tryz.ntmps65
  go_wp2
  go_ret
  exact ⟨_, rfl, unhide hl, below1 w _⟩
end Go.Proofs.YtinhliecfjlocaaGreat
