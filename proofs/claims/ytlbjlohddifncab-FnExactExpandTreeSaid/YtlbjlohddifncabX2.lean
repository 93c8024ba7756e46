import Derived.Test.YtlbjlohddifncabP3
import Derived.Test.YtlbjlohddifncabW4
import Derived.Test.YtlbjlohddifncabC5
import Derived.Laws.AppendOwnNone
import Derived.Deep.AppendLies
import Derived.Deep.RegionLaw
import Derived.BigRegion
namespace Go.Proofs.Ytlbjlohddifncab
open Go.RowKit

theorem Try.zinOp : (Try.prog.info? 69).map (fun i => (i.zero, i.size, i.bytes)) = some (some (.agg #[.int .i64 0, .slice none 0 0, .int .i64 0, .int .i64 0]), 4, 48) := by kernel_rfl

theorem run_append_none_c {P : Program} {w : World} (base : Nat) (t ty e : TypeId) (i : TypeInfo) (size : Nat) (ht : P.underlying t = some (.slice e)) (hi : P.info? e = some i)
    (v : Value) (n : Nat) (xs : List Value) (hown : w.ownsRow base e size v n xs) (c : Nat) : (Builtin.append_ #[t, t] ty #[v, .slice none 0 c]).run P w = .ok v w := by
  rcases hown.2 with ⟨rfl, rfl⟩ | ⟨g, cap, cur, rfl, _, _, hnc, _⟩
  · simp [Builtin.append_, run_underlying ht, sizeOf, typeInfo, hi, Builtin.lenOf, Builtin.firstCells]
  · simp [Builtin.append_, run_underlying ht, sizeOf, typeInfo, hi, Builtin.lenOf, Builtin.firstCells, hnc, storeCells]

theorem wpList_append_none_c {P : Program} {w : World} {ops : Array Oper} {rest : List Oper} {o : Oper} {a : Act} {Q : Exit → Act → World → Prop} (hgd : o.guard = none) (s x : Operand) (t : TypeId)
    (ho : o.op = .call { callee := .builtin .append, args := #[s, x], argTypes := #[t, t] })
    (base : Nat) (e : TypeId) (i : TypeInfo) (size : Nat) (ht : P.underlying t = some (.slice e)) (hi : P.info? e = some i)
    (v : Value) (n : Nat) (xs : List Value) (hs : a.eval s = v) (hown : w.ownsRow base e size v n xs) (c : Nat) (hx : a.eval x = .slice none 0 c)
    (h : wpList P ops Q rest (a.put o.dst v) w) : wpList P ops Q (o :: rest) a w := by
  refine wpList_plain hgd fun K hK => ?_
  have hrun := run_append_none_c (P := P) (w := w) base t o.type e i size ht hi v n xs hown c
  unfold Oper.wp
  simp [execOp, ho, resolve, invoke, builtin, hs, hx, hrun, Result.andThen]
  exact hK _ _ h

/-- A copy of a slice of ints, by an append to nil. -/
theorem app_ints {w : World} {ops : Array Oper} {rest : List Oper} {o : Oper} {a : Act} {Q : Exit → Act → World → Prop} (hgd : o.guard = none) (s x : Operand)
    (ho : o.op = .call { callee := .builtin .append, args := #[s, x], argTypes := #[30, 30] }) (hs : a.eval s = .slice none 0 0) (sv : Value) (hx : a.eval x = sv) (xs : List Int) (hv : SlAt mI 0 0 w.heap.size w sv xs) (hlen : xs.length ≤ 1048576)
    (h : ∀ v' w', Below w.heap.size w w' → SlW mI 0 w.heap.size w'.heap.size w' v' xs → v'.oneCell' = true → wpList Try.prog ops Q rest (a.put o.dst v') w') : wpList Try.prog ops Q (o :: rest) a w := by
  obtain ⟨i0, hi, hz0, hz1, hz2⟩ := info_parts Try.zinInt
  obtain ⟨sa, sc, rfl, hl, hc⟩ := hv
  cases sa with
  | none =>
    have h0 : xs.length = 0 := by
      by_cases q : 0 < xs.length
      · obtain ⟨b, off, e, -⟩ := hc q; simp at e
      · omega
    rw [h0] at hx
    exact wpList_append_none_c hgd s x 30 ho w.heap.size 3 i0 1 Try.underlying30 hi _ 0 [] hs (World.ownsRow_nil _ _ _ _) sc hx (h _ w (Below.refl _ _) ⟨none, 0, by rw [h0], hl, fun q => absurd q (by omega)⟩ rfl)
  | some ad =>
    refine wpList_append_own_at w hgd s x 30 ho w.heap.size 3 i0 (.int .i64 0) 1 8 Try.underlying30 hi hz0 hz1 hz2 rfl (by decide) _ 0 [] hs (World.ownsRow_nil _ _ _ _) ad xs.length sc (xs.map mI) hx (by simp) ?_ ?_ (by rw [Nat.zero_add]; exact hl) (by omega) (Nat.le_refl _) ?_
    · intro j u hu
      have hj : j < xs.length := by
        have := (List.getElem?_eq_some_iff.1 hu).1
        simpa using this
      obtain ⟨b, off, e, -, -, hcell⟩ := hc (by omega)
      simp only [Option.some.injEq] at e
      subst e
      rw [List.getElem?_map, getD_of_lt hj] at hu
      simp only [Option.map_some, Option.some.injEq] at hu
      subst hu
      have e3 : (⟨b, off, none⟩ : Addr).add j = ⟨b, off + j, none⟩ := by cases j <;> rfl
      rw [e3]
      exact hcell j hj
    · intro u hu
      obtain ⟨y, -, rfl⟩ := List.mem_map.1 hu
      rfl
    · intro v' w' h1 hg _ _
      rw [Nat.zero_add, List.nil_append] at h1
      obtain ⟨oa, oc, rfl⟩ := own_is h1
      exact h _ w' ((Below.refl _ _).grown hg (Nat.le_refl _) (fun k hk => by cases hk)) (own_slw h1 (Nat.le_refl _) hl) rfl

/-- W is w with one block more (and draws). -/
structure Pushd (w W : World) (o : Obj) : Prop where
  os : W.os = w.os
  tape : W.tape = w.tape
  output : W.output = w.output
  heap : W.heap = w.heap.push o
theorem Pushd.size {w W : World} {o : Obj} (h : Pushd w W o) : W.heap.size = w.heap.size + 1 := by rw [h.heap, Array.size_push]
theorem Pushd.old {w W : World} {o : Obj} (h : Pushd w W o) {k : Nat} (hk : k < w.heap.size) : W.heap[k]? = w.heap[k]? := by rw [h.heap, Array.getElem?_push_lt hk, Array.getElem?_eq_getElem hk]
theorem Pushd.new {w W : World} {o : Obj} (h : Pushd w W o) : W.heap[w.heap.size]? = some o := by rw [h.heap]; simp
theorem Pushd.below {w W : World} {o : Obj} (h : Pushd w W o) : Below w.heap.size w W := ⟨h.os, h.tape, h.output, by rw [h.size]; omega, fun k hk => h.old hk⟩
theorem Pushd.own {w W : World} {o : Obj} (h : Pushd w W o) {base n e size : Nat} {v : Value} {xs : List Value} (k : w.ownsRow base e size v n xs) : W.ownsRow base e size v n xs := own_keep k h.below (Nat.le_refl _)
theorem Pushd.news {w W : World} {cs : Array Value} {t : TypeId} (h : Pushd w W (.cells cs t)) : ∀ (j : Nat) (u : Value), cs.toList[j]? = some u → W.cell? ((⟨w.heap.size, 0, none⟩ : Addr).add j) = some u := World.news_of_block h.new

theorem GrowP.app1 {base : Nat} {wr w1 W w' : World} {v v' : Value} {ps : List Pc} {x : El} {s : Value} {T : Nat → Prop} {o : Obj} (h : GrowP base wr v ps) (hbase : base ≤ wr.heap.size) (hb : Below wr.heap.size wr w1) (hs : SlF mI 0 T w1 s x.set) (hT : ∀ k, T k → wr.heap.size ≤ k ∧ k < w1.heap.size) (hP : Pushd w1 W o)
    (h1 : w'.ownsRow base 69 4 v' (ps.length + 1) (cellsP ps ++ cell4 x s)) (hg : W.grownBy w' v.ownBlock) (ho : v'.ownBlock = v.ownBlock ∨ v'.ownBlock = some W.heap.size) : GrowP base w' v' (ps ++ [⟨x, s, T⟩]) ∧ Below base wr w' := by
  have hB : Below wr.heap.size wr W := hb.trans (hP.below.mono hb.size)
  refine ⟨h.app (qs := [⟨x, s, T⟩]) hbase hB (fun p hp => ?_) (fun p hp k hk => ?_) (List.pairwise_singleton _ _) (by simpa [cellsP] using h1) hg ho, (hB.mono hbase).grown hg (by have := hB.size; omega) (fun k hk => (h.own.lt k hk).1)⟩
  · obtain rfl := List.mem_singleton.1 hp
    exact hs.same (fun k hk => hP.old (hT k hk).2)
  · obtain rfl := List.mem_singleton.1 hp
    have := hT k hk
    have := hP.size
    exact ⟨(hT k hk).1, by omega⟩

set_option maxHeartbeats 2000000 in
set_option maxRecDepth 100000 in
theorem l1copy_w (v : Value) (xs : List El) (w : World) (hv : ElsAt 0 w.heap.size w v xs) (hlen : xs.length ≤ 1048576) (hset : ∀ i : Nat, (xs[i]?.getD dE).set.length ≤ 1048576) :
    Calls Try.prog 65 #[v] w fun e w' => ∃ v', e = .returned v' ∧ GrowE w.heap.size w' v' xs ∧ Below w.heap.size w w' := by
  obtain ⟨a, cap, rfl, hl, hc⟩ := hv
  obtain ⟨i0, hi, hz0, hz1, hz2⟩ := info_parts Try.zinInt
  obtain ⟨j0, hj, hy0, hy1, hy2⟩ := info_parts Try.zinOp
  have Hset := hide hset
  clear hset
  go_enter Try.func65, Try.ntmps65
  go_wp2
  go_loopw [3, 4] (fun ov i wr => ∃ k : Nat, k ≤ xs.length ∧ i = .int .i64 k ∧ GrowE w.heap.size wr ov (xs.take k) ∧ Below w.heap.size w wr) (fun _ i _ => xs.length - (intOf i).toNat)
  case atStart => exact ⟨0, Nat.zero_le _, rfl, GrowE.nil _ _, Below.refl _ _⟩
  case round =>
    obtain ⟨k, hk, rfl, hgr, hb⟩ := hrel
    have hszr := hb.size
    by_cases hlt : k < xs.length
    · obtain ⟨b, off, rfl, -, hbn, hel⟩ := hc (by omega)
      obtain ⟨i1, i2, i3, sv, c0, c1, c2, c3, hints⟩ := (hel k hlt).same (Same.of_below hb (Nat.le_refl _)) (Nat.zero_le _) hbn
      have hsk := unhide Hset k
      have Htk := hide (take_next hlt)
      have Hsv := hide (ints_sl (hints.mono (Nat.le_refl _) hb.size))
      generalize xs[k]?.getD dE = x at *
      obtain ⟨sa, sc, rfl, -, -, -⟩ := id hints
      obtain ⟨ps, hps, hgp⟩ := hgr
      have Hps := hide hps
      have Hgp := hide hgp
      have hpl : ps.length = k := by
        have := congrArg List.length hps
        rw [List.length_map, List.length_take] at this
        omega
      subst hpl
      obtain ⟨oa, oc, rfl⟩ := own_is hgp.own
      have hlt' : (ps.length : Int) < (xs.length : Int) := by omega
      have hbw : b < wr.heap.size := by omega
      clear hel hc hints i1 i2 i3 hps hgp
      go_wp2_with (at_builtin; refine app_ints rfl _ _ rfl rfl _ rfl x.set (unhide Hsv) hsk ?_)
      intro sv' w1 hb1 hsl h1c
      have d0 : w1.cell? ⟨b, off + ps.length * 4, none⟩ = some (.int .i64 x.kind) := by rw [hb1.cell (p := ⟨b, off + ps.length * 4, none⟩) hbw]; exact c0
      have d2 : w1.cell? ⟨b, off + ps.length * 4 + 2, none⟩ = some (.int .i64 x.mn) := by rw [hb1.cell (p := ⟨b, off + ps.length * 4 + 2, none⟩) hbw]; exact c2
      have d3 : w1.cell? ⟨b, off + ps.length * 4 + 3, none⟩ = some (.int .i64 x.mx) := by rw [hb1.cell (p := ⟨b, off + ps.length * 4 + 3, none⟩) hbw]; exact c3
      have Hsl := hide hsl
      obtain ⟨sa', sc', rfl⟩ : ∃ a c, sv' = .slice a x.set.length c := by obtain ⟨a, c, e, -⟩ := hsl; exact ⟨a, c, e⟩
      clear hsl c0 c1 c2 c3
      have Hown1 := hide (own_keep (unhide Hgp).own hb1 (Nat.le_refl _))
      have hsz1 := hb1.size
      have hst : Hid (∀ (W w' : World) (v' : Value) (o : Obj), Pushd w1 W o → w'.ownsRow w.heap.size 69 4 v' (ps.length + 1) (cellsP ps ++ cell4 x (.slice sa' x.set.length sc')) → W.grownBy w' (Value.slice oa ps.length oc).ownBlock → (v'.ownBlock = (Value.slice oa ps.length oc).ownBlock ∨ v'.ownBlock = some W.heap.size) → GrowE w.heap.size w' v' (xs.take (ps.length + 1)) ∧ Below w.heap.size wr w') := fun W w' v' o hP q1 q2 q3 => by
        obtain ⟨r1, r2⟩ := (unhide Hgp).app1 (T := Rng wr.heap.size w1.heap.size) hszr hb1 (unhide Hsl).foot (fun k hk => hk) hP q1 q2 q3
        exact ⟨⟨_, by rw [List.map_append, unhide Hps, unhide Htk]; rfl, r1⟩, r2⟩
      have hone : Hid (∀ u ∈ cell4 x (.slice sa' x.set.length sc'), u.oneCell' = true) := fun u hu => by
        simp only [cell4, List.mem_cons, List.not_mem_nil, or_false] at hu
        rcases hu with rfl | rfl | rfl | rfl <;> rfl
      go_wp2
      go_region_law (refine step_append_lies _ rfl (.tmp 19) (.tmp 37) 24 rfl w.heap.size 69 j0 (.agg #[.int .i64 0, .slice none 0 0, .int .i64 0, .int .i64 0]) 4 48 Try.underlying24 hj hy0 hy1 hy2 rfl (by decide) (.slice oa ps.length oc) ps.length (cellsP ps) (by simp [Act.eval]) (by refine Pushd.own (w := w1) (o := .cells #[.int .i64 x.kind, .slice sa' x.set.length sc', .int .i64 x.mn, .int .i64 x.mx] 69) ?_ (unhide Hown1); exact ⟨rfl, rfl, rfl, rfl⟩) ⟨w1.heap.size, 0, none⟩ 1 1 (cell4 x (.slice sa' x.set.length sc')) (by simp [Act.eval]) rfl (by refine Pushd.news (w := w1) (cs := #[.int .i64 x.kind, .slice sa' x.set.length sc', .int .i64 x.mn, .int .i64 x.mx]) (t := 69) ?_; exact ⟨rfl, rfl, rfl, rfl⟩) (unhide hone) (by decide) (by unfold maxLen; omega) (by omega) (by show w.heap.size ≤ (w1.alloc _).heap.size; rw [sz_alloc]; omega) (w1.heap.size + 1) (sz_alloc w1 _) (fun g cap' w' q1 q2 q3 q4 => ?_); have hs := hide (unhide hst _ w' (.slice (some ⟨g, 0, none⟩) (ps.length + 1) cap') (.cells #[.int .i64 x.kind, .slice sa' x.set.length sc', .int .i64 x.mn, .int .i64 x.mx] 69) (by exact ⟨rfl, rfl, rfl, rfl⟩) q1 q2 (q3.elim (fun e => Or.inl e.symm) (fun e => Or.inr (by subst e; simp [Value.ownBlock])))); clear q1 q2 q3 q4)
      all_goals
        go_wp2
        exact ⟨⟨ps.length + 1, by omega, by go_num, (unhide hs).1, hb.trans (unhide hs).2⟩, by simp [intOf]; omega⟩
    · obtain rfl : k = xs.length := by omega
      rw [List.take_length] at hgr
      have Hgr := hide hgr
      clear hc hgr
      go_wp2
      go_ret
      exact ⟨_, rfl, unhide Hgr, hb⟩

end Go.Proofs.Ytlbjlohddifncab
