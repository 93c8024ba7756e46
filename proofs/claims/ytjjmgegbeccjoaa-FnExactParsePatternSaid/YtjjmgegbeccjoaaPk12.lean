import Derived.Test.YtjjmgegbeccjoaaX1
import Derived.Test.YtjjmgegbeccjoaaW4
import Derived.Test.YtjjmgegbeccjoaaPk9
import Derived.Laws.AppendOwnNone
import Derived.Deep.AppendLies
import Derived.Deep.RegionLaw
import Derived.BigRegion
namespace Go.Proofs.Ytjjmgegbeccjoaa
open Go.RowKit

theorem Try.zinOp : (Try.prog.info? 71).map (fun i => (i.zero, i.size, i.bytes)) = some (some (.agg #[.int .i64 0, .slice none 0 0, .int .i64 0, .int .i64 0]), 4, 48) := by kernel_rfl

theorem GrowP.app1 {base : Nat} {wr w1 W w' : World} {v v' : Value} {ps : List Pc} {x : El} {s : Value} {T : Nat → Prop} {o : Obj} (h : GrowP base wr v ps) (hbase : base ≤ wr.heap.size) (hb : Below wr.heap.size wr w1) (hs : SlF mI 0 T w1 s x.set) (hT : ∀ k, T k → wr.heap.size ≤ k ∧ k < w1.heap.size) (hP : Pushd w1 W o)
    (h1 : w'.ownsRow base 71 4 v' (ps.length + 1) (cellsP ps ++ cell4 x s)) (hg : W.grownBy w' v.ownBlock) (ho : v'.ownBlock = v.ownBlock ∨ v'.ownBlock = some W.heap.size) : GrowP base w' v' (ps ++ [⟨x, s, T⟩]) ∧ Below base wr w' := by
  have hB : Below wr.heap.size wr W := hb.trans (hP.below.mono hb.size)
  refine ⟨h.app (qs := [⟨x, s, T⟩]) hbase hB (fun p hp => ?_) (fun p hp k hk => ?_) (List.pairwise_singleton _ _) (by simpa [cellsP] using h1) hg ho, (hB.mono hbase).grown hg (by have := hB.size; omega) (fun k hk => (h.own.lt k hk).1)⟩
  · obtain rfl := List.mem_singleton.1 hp
    exact hs.same (fun k hk => hP.old (hT k hk).2)
  · obtain rfl := List.mem_singleton.1 hp
    have := hT k hk
    have := hP.size
    exact ⟨(hT k hk).1, by omega⟩

set_option maxHeartbeats 2000000 in
set_option maxRecDepth 100000 in
theorem l1copy_w (v : Value) (xs : List El) (w : World) (hv : ElsAt 0 w.heap.size w v xs) (hlen : xs.length ≤ 1048576) (hset : ∀ i : Nat, (xs[i]?.getD dE).set.length ≤ 1048576) :
    Calls Try.prog 48 #[v] w fun e w' => ∃ v', e = .returned v' ∧ GrowE w.heap.size w' v' xs ∧ Below w.heap.size w w' := by
  obtain ⟨a, cap, rfl, hl, hc⟩ := hv
  obtain ⟨i0, hi, hz0, hz1, hz2⟩ := info_parts Try.zinInt
  obtain ⟨j0, hj, hy0, hy1, hy2⟩ := info_parts Try.zinOp
  have Hset := hide hset
  clear hset
  go_enter Try.func48, Try.ntmps48
  go_wp2
  go_loopw [3, 4] (fun ov i wr => ∃ k : Nat, k ≤ xs.length ∧ i = .int .i64 k ∧ GrowE w.heap.size wr ov (xs.take k) ∧ Below w.heap.size w wr) (fun _ i _ => xs.length - (intOf i).toNat)
  case atStart => exact ⟨0, Nat.zero_le _, rfl, GrowE.nil _ _, Below.refl _ _⟩
  case round =>
    obtain ⟨k, hk, rfl, hgr, hb⟩ := hrel
    have hszr := hb.size
    by_cases hlt : k < xs.length
    · obtain ⟨b, off, rfl, -, hbn, hel⟩ := hc (by omega)
      obtain ⟨i1, i2, i3, sv, c0, c1, c2, c3, hints⟩ := (hel k hlt).same (Same.of_below hb (Nat.le_refl _)) (Nat.zero_le _) hbn
      have hsk := unhide Hset k
      have Htk := hide (take_next hlt)
      have Hsv := hide (ints_sl (hints.mono (Nat.le_refl _) hb.size))
      generalize xs[k]?.getD dE = x at *
      obtain ⟨sa, sc, rfl, -, -, -⟩ := id hints
      obtain ⟨ps, hps, hgp⟩ := hgr
      have Hps := hide hps
      have Hgp := hide hgp
      have hpl : ps.length = k := by
        have := congrArg List.length hps
        rw [List.length_map, List.length_take] at this
        omega
      subst hpl
      obtain ⟨oa, oc, rfl⟩ := own_is hgp.own
      have hlt' : (ps.length : Int) < (xs.length : Int) := by omega
      have hbw : b < wr.heap.size := by omega
      clear hel hc hints i1 i2 i3 hps hgp
      go_wp2_with (at_builtin; refine app_ints rfl _ _ rfl rfl _ rfl x.set (unhide Hsv) hsk ?_)
      intro sv' w1 hb1 hsl h1c
      have d0 : w1.cell? ⟨b, off + ps.length * 4, none⟩ = some (.int .i64 x.kind) := by rw [hb1.cell (p := ⟨b, off + ps.length * 4, none⟩) hbw]; exact c0
      have d2 : w1.cell? ⟨b, off + ps.length * 4 + 2, none⟩ = some (.int .i64 x.mn) := by rw [hb1.cell (p := ⟨b, off + ps.length * 4 + 2, none⟩) hbw]; exact c2
      have d3 : w1.cell? ⟨b, off + ps.length * 4 + 3, none⟩ = some (.int .i64 x.mx) := by rw [hb1.cell (p := ⟨b, off + ps.length * 4 + 3, none⟩) hbw]; exact c3
      have Hsl := hide hsl
      obtain ⟨sa', sc', rfl⟩ : ∃ a c, sv' = .slice a x.set.length c := by obtain ⟨a, c, e, -⟩ := hsl; exact ⟨a, c, e⟩
      clear hsl c0 c1 c2 c3
      have Hown1 := hide (own_keep (unhide Hgp).own hb1 (Nat.le_refl _))
      have hsz1 := hb1.size
      have hst : Hid (∀ (W w' : World) (v' : Value) (o : Obj), Pushd w1 W o → w'.ownsRow w.heap.size 71 4 v' (ps.length + 1) (cellsP ps ++ cell4 x (.slice sa' x.set.length sc')) → W.grownBy w' (Value.slice oa ps.length oc).ownBlock → (v'.ownBlock = (Value.slice oa ps.length oc).ownBlock ∨ v'.ownBlock = some W.heap.size) → GrowE w.heap.size w' v' (xs.take (ps.length + 1)) ∧ Below w.heap.size wr w') := fun W w' v' o hP q1 q2 q3 => by
        obtain ⟨r1, r2⟩ := (unhide Hgp).app1 (T := Rng wr.heap.size w1.heap.size) hszr hb1 (unhide Hsl).foot (fun k hk => hk) hP q1 q2 q3
        exact ⟨⟨_, by rw [List.map_append, unhide Hps, unhide Htk]; rfl, r1⟩, r2⟩
      have hone : Hid (∀ u ∈ cell4 x (.slice sa' x.set.length sc'), u.oneCell' = true) := fun u hu => by
        simp only [cell4, List.mem_cons, List.not_mem_nil, or_false] at hu
        rcases hu with rfl | rfl | rfl | rfl <;> rfl
      go_wp2
      go_region_law (refine step_append_lies _ rfl (.tmp 19) (.tmp 37) 23 rfl w.heap.size 71 j0 (.agg #[.int .i64 0, .slice none 0 0, .int .i64 0, .int .i64 0]) 4 48 Try.underlying23 hj hy0 hy1 hy2 rfl (by decide) (.slice oa ps.length oc) ps.length (cellsP ps) (by simp [Act.eval]) (by refine Pushd.own (w := w1) (o := .cells #[.int .i64 x.kind, .slice sa' x.set.length sc', .int .i64 x.mn, .int .i64 x.mx] 71) ?_ (unhide Hown1); exact ⟨rfl, rfl, rfl, rfl⟩) ⟨w1.heap.size, 0, none⟩ 1 1 (cell4 x (.slice sa' x.set.length sc')) (by simp [Act.eval]) rfl (by refine Pushd.news (w := w1) (cs := #[.int .i64 x.kind, .slice sa' x.set.length sc', .int .i64 x.mn, .int .i64 x.mx]) (t := 71) ?_; exact ⟨rfl, rfl, rfl, rfl⟩) (unhide hone) (by decide) (by unfold maxLen; omega) (by omega) (by show w.heap.size ≤ (w1.alloc _).heap.size; rw [sz_alloc]; omega) (w1.heap.size + 1) (sz_alloc w1 _) (fun g cap' w' q1 q2 q3 q4 => ?_); have hs := hide (unhide hst _ w' (.slice (some ⟨g, 0, none⟩) (ps.length + 1) cap') (.cells #[.int .i64 x.kind, .slice sa' x.set.length sc', .int .i64 x.mn, .int .i64 x.mx] 71) (by exact ⟨rfl, rfl, rfl, rfl⟩) q1 q2 (q3.elim (fun e => Or.inl e.symm) (fun e => Or.inr (by subst e; simp [Value.ownBlock])))); clear q1 q2 q3 q4)
      all_goals
        go_wp2
        exact ⟨⟨ps.length + 1, by omega, by go_num, (unhide hs).1, hb.trans (unhide hs).2⟩, by simp [intOf]; omega⟩
    · obtain rfl : k = xs.length := by omega
      rw [List.take_length] at hgr
      have Hgr := hide hgr
      clear hc hgr
      go_wp2
      go_ret
      exact ⟨_, rfl, unhide Hgr, hb⟩


theorem SlF.none (w : World) : SlF mI 0 (fun _ => False) w (.slice none 0 0) [] := ⟨0, 0, ⟨.none, 0, rfl, Nat.zero_le _, fun h => absurd h (by simp)⟩, fun k h1 h2 => by omega⟩

/-- One element more. -/
theorem app_op {base : Nat} {wr w1 W : World} {ops : Array Oper} {rest : List Oper} {o : Oper} {a : Act} {Q : Exit → Act → World → Prop} {v : Value} {ps : List Pc} (x : El) (sv : Value) (T : Nat → Prop) (hgd : o.guard = none) (s y : Operand)
    (ho : o.op = .call { callee := .builtin .append, args := #[s, y], argTypes := #[23, 23] }) (hs : a.eval s = v) (hy : a.eval y = .slice (some ⟨w1.heap.size, 0, none⟩) 1 1)
    (h : GrowP base wr v ps) (hbase : base ≤ wr.heap.size) (hb : Below wr.heap.size wr w1) (hsl : SlF mI 0 T w1 sv x.set) (hT : ∀ k, T k → wr.heap.size ≤ k ∧ k < w1.heap.size) (h1c : sv.oneCell' = true)
    (hP : Pushd w1 W (.cells #[.int .i64 x.kind, sv, .int .i64 x.mn, .int .i64 x.mx] 71)) (hlen : ps.length ≤ 16777216)
    (K : ∀ v' w', GrowP base w' v' (ps ++ [⟨x, sv, T⟩]) → Below base wr w' → wpList Try.prog ops Q rest (a.put o.dst v') w') : wpList Try.prog ops Q (o :: rest) a W := by
  obtain ⟨j0, hj, hy0, hy1, hy2⟩ := info_parts Try.zinOp
  have hown := hP.own (own_keep h.own hb (Nat.le_refl _))
  refine wpList_append_own_at W hgd s y 23 ho base 71 j0 (.agg #[.int .i64 0, .slice none 0 0, .int .i64 0, .int .i64 0]) 4 48 Try.underlying23 hj hy0 hy1 hy2 rfl (by decide) v ps.length (cellsP ps) hs hown ⟨w1.heap.size, 0, none⟩ 1 1 (cell4 x sv) hy rfl ?_ ?_ ?_ ?_ ?_ ?_
  · exact Pushd.news hP
  · intro u hu
    simp only [cell4, List.mem_cons, List.not_mem_nil, or_false] at hu
    rcases hu with rfl | rfl | rfl | rfl
    · rfl
    · exact h1c
    · rfl
    · rfl
  · unfold maxLen; omega
  · omega
  · have := hP.size; have := hb.size; omega
  · intro v' w' q1 q2 _ q3
    obtain ⟨r1, r2⟩ := h.app1 hbase hb hsl hT hP q1 q2 q3
    exact K v' w' r1 r2

/-- All of another list's elements more. -/
theorem app_ops {base : Nat} {wr W : World} {ops : Array Oper} {rest : List Oper} {o : Oper} {a : Act} {Q : Exit → Act → World → Prop} {v u : Value} {ps qs : List Pc} (hgd : o.guard = none) (s y : Operand)
    (ho : o.op = .call { callee := .builtin .append, args := #[s, y], argTypes := #[23, 23] }) (hs : a.eval s = v) (hy : a.eval y = u)
    (h : GrowP base wr v ps) (hbase : base ≤ wr.heap.size) (hb : Below wr.heap.size wr W) (hq : GrowP wr.heap.size W u qs) (hq1 : ∀ p ∈ qs, p.s.oneCell' = true) (hlen : ps.length ≤ 16777216) (hlen2 : qs.length ≤ 16777216)
    (K : ∀ v' w', GrowP base w' v' (ps ++ qs) → Below base wr w' → wpList Try.prog ops Q rest (a.put o.dst v') w') : wpList Try.prog ops Q (o :: rest) a W := by
  obtain ⟨j0, hj, hy0, hy1, hy2⟩ := info_parts Try.zinOp
  have hown := own_keep h.own hb (Nat.le_refl _)
  rcases hq.own.2 with ⟨rfl, hz⟩ | ⟨g, cap, cur, rfl, hbg, hgc, hnc, hcm, hcs, htake⟩
  · obtain rfl : qs = [] := List.eq_nil_of_length_eq_zero hz
    refine wpList_append_none_c hgd s y 23 ho base 71 j0 4 Try.underlying23 hj v ps.length (cellsP ps) hs hown 0 hy (K v W ?_ (hb.mono hbase))
    rw [List.append_nil]
    exact h.keep hb (Nat.le_refl _)
  · refine wpList_append_own_at W hgd s y 23 ho base 71 j0 (.agg #[.int .i64 0, .slice none 0 0, .int .i64 0, .int .i64 0]) 4 48 Try.underlying23 hj hy0 hy1 hy2 rfl (by decide) v ps.length (cellsP ps) hs hown ⟨g, 0, none⟩ qs.length cap (cellsP qs) hy (cellsP_len qs) ?_ (cellsP_one qs hq1) ?_ ?_ ?_ ?_
    · intro j y hj2
      have e3 : (⟨g, 0, none⟩ : Addr).add j = ⟨g, j, none⟩ := by cases j <;> simp [Addr.add]
      rw [e3, hq.own.cellAt j (by have := (List.getElem?_eq_some_iff.1 hj2).1; rw [cellsP_len] at this; exact this)]
      exact hj2
    · unfold maxLen; omega
    · omega
    · have := hb.size; omega
    · intro v' w' q1 q2 _ q3
      exact K v' w' (h.app hbase hb hq.set (fun p hp k hk => ⟨(hq.blk p hp k hk).1, (hq.blk p hp k hk).2.1⟩) hq.dis q1 q2 q3) ((hb.mono hbase).grown q2 (by have := hb.size; omega) (fun k hk => (h.own.lt k hk).1))

theorem Pc.one {w : World} {p : Pc} (h : SlF mI 0 p.T w p.s p.x.set) : p.s.oneCell' = true := by
  obtain ⟨a, c, e⟩ := h.val
  rw [e]; rfl

set_option maxHeartbeats 2000000 in
theorem l1bin_w (k : Int) (vx vy : Value) (xs ys : List El) (w : World) (hx : ElsAt 0 w.heap.size w vx xs) (hy : ElsAt 0 w.heap.size w vy ys) (hlx : xs.length ≤ 1048576) (hly : ys.length ≤ 1048576) (hsx : ∀ i : Nat, (xs[i]?.getD dE).set.length ≤ 1048576) (hsy : ∀ i : Nat, (ys[i]?.getD dE).set.length ≤ 1048576) :
    Calls Try.prog 47 #[.int .i64 k, vx, vy] w fun e w' => ∃ v', e = .returned v' ∧ GrowE w.heap.size w' v' (xs ++ ys ++ [⟨k, [], 0, 0⟩]) ∧ Below w.heap.size w w' := by
  obtain ⟨a1, c1, rfl, -, -⟩ := id hx
  obtain ⟨a2, c2, rfl, -, -⟩ := id hy
  have Hx := hide hx
  have Hy := hide hy
  have Sx := hide hsx
  have Sy := hide hsy
  clear hx hy hsx hsy
  go_enter Try.func47, Try.ntmps47
  go_wp2_with fail
  refine (l1copy_w _ xs _ (unhide Hx) hlx (unhide Sx)).mono ?_
  rintro e w1 ⟨v1, rfl, hg1, hb1⟩
  obtain ⟨o1, d1, rfl⟩ := hg1.form
  obtain ⟨ps, hps, hg1⟩ := hg1
  have hpl : ps.length = xs.length := by rw [← hps, List.length_map]
  have Hg1 := hide hg1
  have Hps := hide hps
  have hz1 := hb1.size
  clear hg1 hps
  go_wp2_with fail
  refine (l1copy_w _ ys _ (by exact (unhide Hy).below hb1 (Nat.le_refl _)) hly (unhide Sy)).mono ?_
  rintro e w2 ⟨v2, rfl, hg2, hb2⟩
  obtain ⟨o2, d2, rfl⟩ := hg2.form
  obtain ⟨qs, hqs, hg2⟩ := hg2
  have hql : qs.length = ys.length := by rw [← hqs, List.length_map]
  have Hg2 := hide hg2
  have Hqs := hide hqs
  clear hg2 hqs
  go_wp2_with (at_builtin; refine app_ops rfl _ _ rfl rfl rfl (unhide Hg1) hz1 hb2 (unhide Hg2) (fun p hp => Pc.one ((unhide Hg2).set p hp)) (by omega) (by omega) ?_)
  intro v3 w3 hg3 hb3
  obtain ⟨o3, d3, rfl⟩ := own_is hg3.own
  have Hg3 := hide hg3
  have hB3 : Below w.heap.size w w3 := hb1.trans hb3
  have hz3 := hB3.size
  clear hg3
  go_wp2_with (at_builtin; refine app_op ⟨k, [], 0, 0⟩ (.slice none 0 0) (fun _ => False) rfl _ _ rfl rfl rfl (unhide Hg3) hz3 (Below.refl _ _) (SlF.none _) (fun k hk => hk.elim) rfl ⟨rfl, rfl, rfl, rfl⟩ (by rw [List.length_append]; omega) ?_)
  intro v4 w4 hg4 hb4
  have hfin : Hid (GrowE w.heap.size w4 v4 (xs ++ ys ++ [⟨k, [], 0, 0⟩])) := ⟨_, by simp [unhide Hps, unhide Hqs], hg4⟩
  clear hg4
  go_wp2
  go_ret
  exact ⟨_, rfl, unhide hfin, hB3.trans hb4⟩

set_option maxHeartbeats 2000000 in
theorem l1alt_w (vx vy : Value) (xs ys : List El) (w : World) (hx : ElsAt 0 w.heap.size w vx xs) (hy : ElsAt 0 w.heap.size w vy ys) (hlx : xs.length ≤ 1048576) (hly : ys.length ≤ 1048576) (hsx : ∀ i : Nat, (xs[i]?.getD dE).set.length ≤ 1048576) (hsy : ∀ i : Nat, (ys[i]?.getD dE).set.length ≤ 1048576) :
    Calls Try.prog 29 #[vx, vy] w fun e w' => ∃ v', e = .returned v' ∧ GrowE w.heap.size w' v' (xs ++ ys ++ [⟨3, [], 0, 0⟩]) ∧ Below w.heap.size w w' := by
  obtain ⟨a1, c1, rfl, -, -⟩ := id hx
  obtain ⟨a2, c2, rfl, -, -⟩ := id hy
  have Hx := hide hx
  have Hy := hide hy
  have Sx := hide hsx
  have Sy := hide hsy
  clear hx hy hsx hsy
  go_enter Try.func29, Try.ntmps29
  go_wp2_with fail
  refine (l1bin_w 3 _ _ xs ys _ (unhide Hx) (unhide Hy) hlx hly (unhide Sx) (unhide Sy)).mono ?_
  rintro e w1 ⟨v1, rfl, hg1, hb1⟩
  have Hg1 := hide hg1
  clear hg1
  go_wp2
  go_ret
  exact ⟨_, rfl, unhide Hg1, hb1⟩

set_option maxHeartbeats 2000000 in
theorem l1rep_w (lo hi : Int) (vx : Value) (xs : List El) (w : World) (hx : ElsAt 0 w.heap.size w vx xs) (hlx : xs.length ≤ 1048576) (hsx : ∀ i : Nat, (xs[i]?.getD dE).set.length ≤ 1048576) :
    Calls Try.prog 32 #[vx, .int .i64 lo, .int .i64 hi] w fun e w' => ∃ v', e = .returned v' ∧ GrowE w.heap.size w' v' (xs ++ [⟨4, [], lo, hi⟩]) ∧ Below w.heap.size w w' := by
  obtain ⟨a1, c1, rfl, -, -⟩ := id hx
  have Hx := hide hx
  have Sx := hide hsx
  clear hx hsx
  go_enter Try.func32, Try.ntmps32
  go_wp2_with fail
  refine (l1copy_w _ xs _ (unhide Hx) hlx (unhide Sx)).mono ?_
  rintro e w1 ⟨v1, rfl, hg1, hb1⟩
  obtain ⟨o1, d1, rfl⟩ := hg1.form
  obtain ⟨ps, hps, hg1⟩ := hg1
  have hpl : ps.length = xs.length := by rw [← hps, List.length_map]
  have Hg1 := hide hg1
  have Hps := hide hps
  have hz1 := hb1.size
  clear hg1 hps
  go_wp2_with (at_builtin; refine app_op ⟨4, [], lo, hi⟩ (.slice none 0 0) (fun _ => False) rfl _ _ rfl rfl rfl (unhide Hg1) hz1 (Below.refl _ _) (SlF.none _) (fun k hk => hk.elim) rfl ⟨rfl, rfl, rfl, rfl⟩ (by omega) ?_)
  intro v4 w4 hg4 hb4
  have hfin : Hid (GrowE w.heap.size w4 v4 (xs ++ [⟨4, [], lo, hi⟩])) := ⟨_, by simp [unhide Hps], hg4⟩
  clear hg4
  go_wp2
  go_ret
  exact ⟨_, rfl, unhide hfin, hb1.trans hb4⟩

theorem GrowE.lit (w : World) : GrowE w.heap.size (w.alloc (.cells #[.int .i64 0, .slice none 0 0, .int .i64 0, .int .i64 0] 71)) (.slice (some ⟨w.heap.size, 0, none⟩) 1 1) [⟨0, [], 0, 0⟩] := by
  refine ⟨[⟨⟨0, [], 0, 0⟩, .slice none 0 0, fun _ => False⟩], rfl, World.ownsRow_lit w _ 1 (Nat.le_refl _) (by unfold maxLen; omega) rfl, fun p hp => ?_, fun p hp k hk => ?_, List.pairwise_singleton _ _⟩
  · obtain rfl := List.mem_singleton.1 hp
    exact SlF.none _
  · obtain rfl := List.mem_singleton.1 hp
    exact hk.elim

set_option maxHeartbeats 2000000 in
theorem l1empty_w (w : World) : Calls Try.prog 30 #[] w fun e w' => ∃ v', e = .returned v' ∧ GrowE w.heap.size w' v' [⟨0, [], 0, 0⟩] ∧ Below w.heap.size w w' := by
  have hl := hide (GrowE.lit w)
  go_enter Try.func30, Try.ntmps30
  go_wp2
  go_ret
  exact ⟨_, rfl, unhide hl, below1 w _⟩

end Go.Proofs.Ytjjmgegbeccjoaa
