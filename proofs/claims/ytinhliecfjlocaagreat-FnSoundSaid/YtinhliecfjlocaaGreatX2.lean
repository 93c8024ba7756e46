import Derived.Test.YtinhliecfjlocaaGreatPk4
import Derived.Test.YtinhliecfjlocaaGreatW4
import Derived.Test.YtinhliecfjlocaaGreatC5
import Derived.Laws.AppendOwnNone
import Derived.Deep.AppendLies
import Derived.Deep.RegionLaw
import Derived.BigRegion
namespace Go.Proofs.YtinhliecfjlocaaGreat
open Go.RowKit
theorem Tryz.zinOp : (Tryz.prog.info? 114).map (fun i => (i.zero, i.size, i.bytes)) = some (some (.agg #[.int .i64 0, .slice none 0 0, .int .i64 0, .int .i64 0]), 4, 48) := by kernel_rfl
theorem GrowP.app1 {base : Nat} {wr w1 W w' : World} {v v' : Value} {ps : List Pc} {x : El} {s : Value} {T : Nat → Prop} {o : Obj} (h : GrowP base wr v ps) (hbase : base ≤ wr.heap.size) (hb : Below wr.heap.size wr w1) (hs : SlF mI 0 T w1 s x.set) (hT : ∀ k, T k → wr.heap.size ≤ k ∧ k < w1.heap.size) (hP : Pushd w1 W o)
    (h1 : w'.ownsRow base 114 4 v' (ps.length + 1) (cellsP ps ++ cell4 x s)) (hg : W.grownBy w' v.ownBlock) (ho : v'.ownBlock = v.ownBlock ∨ v'.ownBlock = some W.heap.size) : GrowP base w' v' (ps ++ [⟨x, s, T⟩]) ∧ Below base wr w' := by
  have hB : Below wr.heap.size wr W := hb.trans (hP.below.mono hb.size)
  refine ⟨h.app (qs := [⟨x, s, T⟩]) hbase hB (fun p hp => ?_) (fun p hp k hk => ?_) (List.pairwise_singleton _ _) (by simpa [cellsP] using h1) hg ho, (hB.mono hbase).grown hg (by have := hB.size; omega) (fun k hk => (h.own.lt k hk).1)⟩
  · obtain rfl := List.mem_singleton.1 hp
    exact hs.same (fun k hk => hP.old (hT k hk).2)
  · obtain rfl := List.mem_singleton.1 hp
    have := hT k hk
    have := hP.size
    exact ⟨(hT k hk).1, by omega⟩
set_option maxHeartbeats 2000000 in
set_option maxRecDepth 100000 in
theorem l1copy_w (v : Value) (xs : List El) (w : World) (hv : ElsAt 0 w.heap.size w v xs) (hlen : xs.length ≤ 1048576) (hset : ∀ i : Nat, (xs[i]?.getD dE).set.length ≤ 1048576) :
    Calls Tryz.prog 69 #[v] w fun e w' => ∃ v', e = .returned v' ∧ GrowE w.heap.size w' v' xs ∧ Below w.heap.size w w' := by
  obtain ⟨a, cap, rfl, hl, hc⟩ := hv
  obtain ⟨i0, hi, hz0, hz1, hz2⟩ := info_parts Tryz.zinInt
  obtain ⟨j0, hj, hy0, hy1, hy2⟩ := info_parts Tryz.zinOp
  have Hset := hide hset
  clear hset
  go_enter Tryz.func69, Tryz.ntmps69
  go_wp2
  go_loopw [3, 4] (fun ov i wr => ∃ k : Nat, k ≤ xs.length ∧ i = .int .i64 k ∧ GrowE w.heap.size wr ov (xs.take k) ∧ Below w.heap.size w wr) (fun _ i _ => xs.length - (intOf i).toNat)
  case atStart => exact ⟨0, Nat.zero_le _, rfl, GrowE.nil _ _, Below.refl _ _⟩
  case round =>
    obtain ⟨k, hk, rfl, hgr, hb⟩ := hrel
    have hszr := hb.size
    by_cases hlt : k < xs.length
    · obtain ⟨b, off, rfl, -, hbn, hel⟩ := hc (by omega)
      obtain ⟨i1, i2, i3, sv, c0, c1, c2, c3, hints⟩ := (hel k hlt).same (Same.of_below hb (Nat.le_refl _)) (Nat.zero_le _) hbn
      have hsk := unhide Hset k
      have Htk := hide (take_next hlt)
      have Hsv := hide (ints_sl (hints.mono (Nat.le_refl _) hb.size))
      generalize xs[k]?.getD dE = x at *
      obtain ⟨sa, sc, rfl, -, -, -⟩ := id hints
      obtain ⟨ps, hps, hgp⟩ := hgr
      have Hps := hide hps
      have Hgp := hide hgp
      have hpl : ps.length = k := by
        have := congrArg List.length hps
        rw [List.length_map, List.length_take] at this
        omega
      subst hpl
      obtain ⟨oa, oc, rfl⟩ := own_is hgp.own
      have hlt' : (ps.length : Int) < (xs.length : Int) := by omega
      have hbw : b < wr.heap.size := by omega
      clear hel hc hints i1 i2 i3 hps hgp
      go_wp2_with (at_builtin; refine app_ints rfl _ _ rfl rfl _ rfl x.set (unhide Hsv) hsk ?_)
      intro sv' w1 hb1 hsl h1c
      have d0 : w1.cell? ⟨b, off + ps.length * 4, none⟩ = some (.int .i64 x.kind) := by rw [hb1.cell (p := ⟨b, off + ps.length * 4, none⟩) hbw]; exact c0
      have d2 : w1.cell? ⟨b, off + ps.length * 4 + 2, none⟩ = some (.int .i64 x.mn) := by rw [hb1.cell (p := ⟨b, off + ps.length * 4 + 2, none⟩) hbw]; exact c2
      have d3 : w1.cell? ⟨b, off + ps.length * 4 + 3, none⟩ = some (.int .i64 x.mx) := by rw [hb1.cell (p := ⟨b, off + ps.length * 4 + 3, none⟩) hbw]; exact c3
      have Hsl := hide hsl
      obtain ⟨sa', sc', rfl⟩ : ∃ a c, sv' = .slice a x.set.length c := by obtain ⟨a, c, e, -⟩ := hsl; exact ⟨a, c, e⟩
      clear hsl c0 c1 c2 c3
      have Hown1 := hide (own_keep (unhide Hgp).own hb1 (Nat.le_refl _))
      have hsz1 := hb1.size
      have hst : Hid (∀ (W w' : World) (v' : Value) (o : Obj), Pushd w1 W o → w'.ownsRow w.heap.size 114 4 v' (ps.length + 1) (cellsP ps ++ cell4 x (.slice sa' x.set.length sc')) → W.grownBy w' (Value.slice oa ps.length oc).ownBlock → (v'.ownBlock = (Value.slice oa ps.length oc).ownBlock ∨ v'.ownBlock = some W.heap.size) → GrowE w.heap.size w' v' (xs.take (ps.length + 1)) ∧ Below w.heap.size wr w') := fun W w' v' o hP q1 q2 q3 => by
        obtain ⟨r1, r2⟩ := (unhide Hgp).app1 (T := Rng wr.heap.size w1.heap.size) hszr hb1 (unhide Hsl).foot (fun k hk => hk) hP q1 q2 q3
        exact ⟨⟨_, by rw [List.map_append, unhide Hps, unhide Htk]; rfl, r1⟩, r2⟩
      have hone : Hid (∀ u ∈ cell4 x (.slice sa' x.set.length sc'), u.oneCell' = true) := fun u hu => by
        simp only [cell4, List.mem_cons, List.not_mem_nil, or_false] at hu
        rcases hu with rfl | rfl | rfl | rfl <;> rfl
      go_wp2
      go_region_law (refine step_append_lies _ rfl (.tmp 19) (.tmp 37) 23 rfl w.heap.size 114 j0 (.agg #[.int .i64 0, .slice none 0 0, .int .i64 0, .int .i64 0]) 4 48 Tryz.underlying23 hj hy0 hy1 hy2 rfl (by decide) (.slice oa ps.length oc) ps.length (cellsP ps) (by simp [Act.eval]) (by refine Pushd.own (w := w1) (o := .cells #[.int .i64 x.kind, .slice sa' x.set.length sc', .int .i64 x.mn, .int .i64 x.mx] 114) ?_ (unhide Hown1); exact ⟨rfl, rfl, rfl, rfl⟩) ⟨w1.heap.size, 0, none⟩ 1 1 (cell4 x (.slice sa' x.set.length sc')) (by simp [Act.eval]) rfl (by refine Pushd.news (w := w1) (cs := #[.int .i64 x.kind, .slice sa' x.set.length sc', .int .i64 x.mn, .int .i64 x.mx]) (t := 114) ?_; exact ⟨rfl, rfl, rfl, rfl⟩) (unhide hone) (by decide) (by unfold maxLen; omega) (by omega) (by show w.heap.size ≤ (w1.alloc _).heap.size; rw [sz_alloc]; omega) (w1.heap.size + 1) (sz_alloc w1 _) (fun g cap' w' q1 q2 q3 q4 => ?_); have hs := hide (unhide hst _ w' (.slice (some ⟨g, 0, none⟩) (ps.length + 1) cap') (.cells #[.int .i64 x.kind, .slice sa' x.set.length sc', .int .i64 x.mn, .int .i64 x.mx] 114) (by exact ⟨rfl, rfl, rfl, rfl⟩) q1 q2 (q3.elim (fun e => Or.inl e.symm) (fun e => Or.inr (by subst e; simp [Value.ownBlock])))); clear q1 q2 q3 q4)
      all_goals
        go_wp2
        exact ⟨⟨ps.length + 1, by omega, by go_num, (unhide hs).1, hb.trans (unhide hs).2⟩, by simp [intOf]; omega⟩
    · obtain rfl : k = xs.length := by omega
      rw [List.take_length] at hgr
      have Hgr := hide hgr
      clear hc hgr
      go_wp2
      go_ret
      exact ⟨_, rfl, unhide Hgr, hb⟩
end Go.Proofs.YtinhliecfjlocaaGreat
