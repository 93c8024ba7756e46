import Derived.Test.YthgnefdefjannaaGreatFu6
namespace Go.Proofs.YthgnefdefjannaaGreat
open Go.RowKit

theorem StL.mv {lo lo' D : Nat} {w w' : World} {sv ov : Value} {ps qs : List (Cl Int)} (h : StL lo w sv ov ps qs) (hm : Mv lo' D w w') (hlo : w.heap.size ≤ lo') (hD : D < lo) : StL lo w' sv ov ps qs := ⟨h.segs.keepMv hm hlo hD, h.opens.keepMv hm hlo hD, h.rows, h.lists⟩
theorem StL.keep {lo m : Nat} {w w' : World} {sv ov : Value} {ps qs : List (Cl Int)} (h : StL lo w sv ov ps qs) (hb : Below m w w') (hm : w.heap.size ≤ m) : StL lo w' sv ov ps qs := ⟨h.segs.keep hb hm, h.opens.keep hb hm, h.rows, h.lists⟩

/-- Where a list of a row lies. -/
theorem LB.place {lo i : Nat} {w : World} {sv : Value} {ps : List (Cl Int)} {p : Cl Int} (h : LB lo w sv ps) (hp : ps[i]? = some p) (h0 : 0 < p.xs.length) : ∃ g cap off pc, sv = .slice (some ⟨g, 0, none⟩) ps.length cap ∧ w.cell? ⟨g, i, none⟩ = some p.v ∧ p.v = .slice (some ⟨p.b, off, none⟩) p.xs.length pc ∧ (∀ j : Nat, j < p.xs.length → w.cell? ⟨p.b, off + j, none⟩ = some (mB (p.xs[j]?.getD 0))) ∧ ∀ j, w.frozen? ⟨p.b, j, none⟩ = false := by
  have hi : i < ps.length := (List.getElem?_eq_some_iff.1 hp).1
  have hm : p ∈ ps := List.mem_of_getElem? hp
  rcases h.own.2 with ⟨rfl, hz⟩ | ⟨g, cap, cur, rfl, hbg, hg, hnc, hcm, hcs, htake⟩
  · omega
  · obtain ⟨a, pc, e1, hl, hc⟩ := h.ok p hm
    obtain ⟨off, rfl, ⟨c, hcb⟩, h2⟩ := hc h0
    exact ⟨g, cap, off, pc, rfl, by rw [h.own.cellAt i (by omega), List.getElem?_map, hp]; rfl, e1, h2, fun j => frz ⟨_, _, hcb⟩⟩

/-- A list with one cell written. -/
theorem Cl.ok.set {w : World} {p : Cl Int} {j off : Nat} {y : Int} {cap : Nat} (h : p.ok mB 0 5 w) (hv : p.v = .slice (some ⟨p.b, off, none⟩) p.xs.length cap) (hj : j < p.xs.length) : Cl.ok mB 0 5 (w.setCell ⟨p.b, off + j, none⟩ (mB y)) ⟨p.v, p.xs.set j y, p.b⟩ := by
  obtain ⟨a, cap', e1, hl, hc⟩ := h
  rw [hv] at e1
  simp only [Value.slice.injEq, true_and] at e1
  obtain ⟨rfl, rfl⟩ := e1
  obtain ⟨off', e2, ⟨c, h1⟩, h2⟩ := hc (by omega)
  simp only [Option.some.injEq, Addr.mk.injEq, and_true, true_and] at e2
  subst e2
  refine ⟨_, cap, by show p.v = _; rw [hv]; show _ = Value.slice _ (p.xs.set j y).length _; rw [List.length_set], by show (p.xs.set j y).length ≤ cap ∧ _; rw [List.length_set]; exact hl, fun _ => ⟨off, rfl, ?_, fun i hi => ?_⟩⟩
  · show ∃ c, (w.setCell ⟨p.b, off + j, none⟩ (mB y)).heap[p.b]? = _
    exact ⟨c.setIfInBounds (off + j) (mB y), by simp [World.setCell, Array.getElem?_modify, h1]⟩
  · have hi' : i < p.xs.length := by have h : i < (p.xs.set j y).length := hi; rwa [List.length_set] at h
    show (w.setCell ⟨p.b, off + j, none⟩ (mB y)).cell? ⟨p.b, off + i, none⟩ = some (mB ((p.xs.set j y)[i]?.getD 0))
    by_cases e : j = i
    · subst e
      rw [put_same (h2 j hi'), List.getElem?_set_self hj]
      rfl
    · rw [put_other (Or.inr (by omega)), h2 i hi', List.getElem?_set_ne e]
/-- The state with one byte of a segment written. -/
theorem StL.flip {lo i j off cap : Nat} {w : World} {sv ov : Value} {ps qs : List (Cl Int)} {p : Cl Int} {y : Int} (h : StL lo w sv ov ps qs) (hp : ps[i]? = some p) (hv : p.v = .slice (some ⟨p.b, off, none⟩) p.xs.length cap) (hj : j < p.xs.length) :
    StD lo (w.setCell ⟨p.b, off + j, none⟩ (mB y)) (.agg #[sv, ov]) ((ps.map Cl.xs).set i (p.xs.set j y)) (qs.map Cl.xs) := by
  have hi : i < ps.length := (List.getElem?_eq_some_iff.1 hp).1
  have hpi : ps[i] = p := (List.getElem?_eq_some_iff.1 hp).2
  have hm : p ∈ ps := List.mem_of_getElem? hp
  have h0 : 0 < p.xs.length := by omega
  have hne : ∀ k, k ≠ p.b → (w.setCell ⟨p.b, off + j, none⟩ (mB y)).heap[k]? = w.heap[k]? := fun k hk => Below.heap_setCell _ _ _ _ hk
  have hrow : ∀ k, sv.ownBlock = some k → k ≠ p.b := fun k hk e => h.segs.not_row (by decide) (h.segs.ok p hm) rfl h0 (by rw [← e]; exact hk.symm)
  have hrow2 : ∀ k, ov.ownBlock = some k → k ≠ p.b := fun k hk e => h.opens.not_row (by decide) (h.segs.ok p hm) rfl h0 (by rw [← e]; exact hk.symm)
  have hown : ∀ {base : Nat} {v : Value} {n : Nat} {l : List Value}, w.ownsRow base 22 1 v n l → (∀ k, v.ownBlock = some k → k ≠ p.b) → (w.setCell ⟨p.b, off + j, none⟩ (mB y)).ownsRow base 22 1 v n l := fun ho hk => by
    refine ⟨ho.1, ?_⟩
    rcases ho.2 with q | ⟨g, cp, cur, e1, e2, e3, e4⟩
    · exact Or.inl q
    · exact Or.inr ⟨g, cp, cur, e1, e2, (hne g (hk g (by rw [e1]; rfl))).trans e3, e4⟩
  have hvs : (ps.set i ⟨p.v, p.xs.set j y, p.b⟩).map Cl.v = ps.map Cl.v := by
    rw [List.map_set]
    apply List.ext_getElem (by simp)
    intro k k1 k2
    by_cases e : i = k
    · subst e
      simp [hpi]
    · simp [List.getElem_set_ne e]
  have hxs : (ps.set i ⟨p.v, p.xs.set j y, p.b⟩).map Cl.xs = (ps.map Cl.xs).set i (p.xs.set j y) := by rw [List.map_set]
  have hok : ∀ q ∈ ps.set i ⟨p.v, p.xs.set j y, p.b⟩, q.ok mB 0 5 (w.setCell ⟨p.b, off + j, none⟩ (mB y)) := fun q hq => by
    obtain ⟨k, k1, k2⟩ := List.mem_iff_getElem.1 hq
    rw [List.length_set] at k1
    by_cases e : i = k
    · subst e
      rw [List.getElem_set_self] at k2
      rw [← k2]
      exact (h.segs.ok p hm).set hv hj
    · rw [List.getElem_set_ne e] at k2
      have hq' : q ∈ ps := by rw [← k2]; exact List.getElem_mem _
      refine (h.segs.ok q hq').same (fun hq0 => hne _ (fun e2 => ?_))
      have hpair := List.pairwise_iff_getElem.1 h.segs.apart
      rcases Nat.lt_or_gt_of_ne e with hlt | hlt
      · exact hpair i k hi k1 hlt (by rw [hpi]; exact h0) (by rw [k2]; exact hq0) (by rw [hpi, k2]; exact e2.symm)
      · exact hpair k i k1 hi hlt (by rw [k2]; exact hq0) (by rw [hpi]; exact h0) (by rw [hpi, k2]; exact e2)
  have hB := h.bound
  refine ⟨sv, ov, FootL sv ps, qs, rfl, ?_, ⟨hown h.opens.own hrow2, fun q hq => (h.opens.ok q hq).same (fun hq0 => hne _ (fun e => h.lists p hm q hq h0 hq0 e.symm)), h.opens.lo, h.opens.apart⟩, rfl, fun k hk => ⟨(hB.1 k hk).1, ?_⟩, hB.2⟩
  rotate_left
  · by_cases e : k = p.b
    · rw [e]
      obtain ⟨cs, t, g1, g2⟩ := (h.segs.ok p hm).bk h0
      exact ⟨cs.setIfInBounds (off + j) (mB y), t, by simp [World.setCell, Array.getElem?_modify, g1], g2⟩
    · exact (hB.1 k hk).2.same (hne k e)
  have hR := row_ssR (lo := lo) (w := w.setCell ⟨p.b, off + j, none⟩ (mB y)) (v := sv) (ps := ps.set i ⟨p.v, p.xs.set j y, p.b⟩) (by rw [List.length_set, hvs]; exact hown h.segs.own hrow) hok
  rw [hxs] at hR
  refine hR.mono (fun k hk => ?_)
  rcases hk with hk | ⟨q, hq, hq0, rfl⟩
  · exact Or.inl hk
  · obtain ⟨k, k1, k2⟩ := List.mem_iff_getElem.1 hq
    rw [List.length_set] at k1
    by_cases e : i = k
    · subst e
      rw [List.getElem_set_self] at k2
      rw [← k2]
      exact Or.inr ⟨p, hm, h0, rfl⟩
    · rw [List.getElem_set_ne e] at k2
      exact Or.inr ⟨q, by rw [← k2]; exact List.getElem_mem _, hq0, rfl⟩
/-- The segments without the first. -/
theorem SsR.tail {S : Nat → Prop} {w : World} {g n cap : Nat} {xss : List (List Int)} (h : SsR S w (.slice (some ⟨g, 0, none⟩) (n + 1) cap) xss) : SsR S w (.slice (some ⟨g, 1, none⟩) n (cap - 1)) xss.tail := by
  obtain ⟨a, cap', e1, hl, hc⟩ := h
  simp only [Value.slice.injEq] at e1
  obtain ⟨rfl, e2, rfl⟩ := e1
  obtain ⟨b, off, e3, hb, hcl⟩ := hc (by omega)
  simp only [Option.some.injEq, Addr.mk.injEq, and_true] at e3
  obtain ⟨rfl, rfl⟩ := e3
  have e4 : xss.tail.length = n := by rw [List.length_tail]; omega
  refine ⟨_, _, by rw [e4], by rw [e4]; omega, fun _ => ⟨g, 1, rfl, hb, fun i hi => ?_⟩⟩
  obtain ⟨s, h1, h2, h3⟩ := hcl (i + 1) (by omega)
  refine ⟨s, by rw [← h1]; congr 2; omega, ?_, h3⟩
  rw [show xss.tail[i]? = xss[i + 1]? by cases xss <;> simp]
  exact h2
/-- The segments with one list more, which may lie where another lies. -/
theorem StL.more {lo : Nat} {w w' : World} {sv sv' ov : Value} {ps qs : List (Cl Int)} {p : Cl Int} (h : StL lo w sv ov ps qs) (hp : p.ok mB 0 5 w) (hpb : 0 < p.xs.length → p ∈ ps) (h1 : w'.ownsRow lo 22 1 sv' (ps.length + 1) (ps.map Cl.v ++ [p.v])) (hg : w.grownBy w' sv.ownBlock) (ho : OwnS w sv sv') : StD lo w' (.agg #[sv', ov]) (ps.map Cl.xs ++ [p.xs]) (qs.map Cl.xs) := by
  have hnr : ∀ q : Cl Int, q.ok mB 0 5 w → q.ok mB 0 5 w' := fun q hq => hq.same (fun hq0 => hg.block q.b (hq.lt hq0) (h.segs.not_row (by decide) hq rfl hq0))
  have hok : ∀ q ∈ ps ++ [p], q.ok mB 0 5 w' := fun q hq => by
    rcases List.mem_append.1 hq with hq | hq
    · exact hnr q (h.segs.ok q hq)
    · rw [List.mem_singleton] at hq
      subst hq
      exact hnr q hp
  have hR := row_ssR (lo := lo) (w := w') (v := sv') (ps := ps ++ [p]) (by rw [List.length_append, List.map_append]; exact h1) hok
  rw [List.map_append] at hR
  have hop : LB lo w' ov qs := by
    refine ⟨⟨h.opens.own.1, ?_⟩, fun q hq => hnr q (h.opens.ok q hq), h.opens.lo, h.opens.apart⟩
    rcases h.opens.own.2 with q | ⟨g, cp, cur, e1, e2, e3, e4⟩
    · exact Or.inl q
    · exact Or.inr ⟨g, cp, cur, e1, e2, (hg.block g (Array.getElem?_eq_some_iff.1 e3).1 (fun e => h.rows g e.symm (by rw [e1]; rfl))).trans e3, e4⟩
  have hin : ∀ k, FootL sv' (ps ++ [p]) k → sv'.ownBlock = some k ∨ ∃ q ∈ ps, 0 < q.xs.length ∧ k = q.b := fun k hk => by
    rcases hk with hk | ⟨q, hq, hq0, rfl⟩
    · exact Or.inl hk
    · rcases List.mem_append.1 hq with hq | hq
      · exact Or.inr ⟨q, hq, hq0, rfl⟩
      · rw [List.mem_singleton] at hq
        subst hq
        exact Or.inr ⟨q, hpb hq0, hq0, rfl⟩
  refine ⟨sv', ov, FootL sv' (ps ++ [p]), qs, rfl, hR, hop, rfl, fun k hk => ?_, fun k hk hf => ?_⟩
  · refine ⟨?_, foot_bk h1 hok hk⟩
    rcases hin k hk with hk | ⟨q, hq, hq0, rfl⟩
    · exact (h1.lt k hk).1
    · exact h.segs.lo q hq hq0
  · rcases hin k hf with hf | ⟨q, hq, hq0, rfl⟩
    · rcases ho with ho | ⟨j, hj, ho⟩
      · exact h.rows k (by rw [← ho]; exact hf) hk
      · rw [ho] at hf
        simp only [Option.some.injEq] at hf
        have := (h.opens.own.lt k hk).2
        omega
    · exact h.opens.not_row (by decide) (h.segs.ok q hq) rfl hq0 hk.symm

/-- The append of lines of its own, as a step of a region. -/
theorem step_app_all {w : World} {ops : Array Oper} {o : Oper} {a : Act} {K : Act → World → Prop} {Q : Exit → Act → World → Prop} {E : Prop} (base : Nat) (hgd : o.guard = none) (s x : Operand)
    (ho : o.op = .call { callee := .builtin .append, args := #[s, x], argTypes := #[23, 23] }) (v u : Value) (ps qs : List (Cl Int)) (hs : a.eval s = v) (h : LB base w v ps) (hx : a.eval x = u) (hu : LB base w u qs) (hq0 : 0 < qs.length) (hps : ∀ p ∈ ps, ∀ q ∈ qs, 0 < p.xs.length → 0 < q.xs.length → p.b ≠ q.b) (hbase : base ≤ w.heap.size) (hlen : ps.length + qs.length ≤ 4194304)
    (hK : ∀ g cap w', LB base w' (.slice (some ⟨g, 0, none⟩) (ps.length + qs.length) cap) (ps ++ qs) → w.grownBy w' v.ownBlock → OwnS w v (.slice (some ⟨g, 0, none⟩) (ps.length + qs.length) cap) → K (a.put o.dst (.slice (some ⟨g, 0, none⟩) (ps.length + qs.length) cap)) w') :
    if Region.wanted o (yielded ops a.tmps) = true then Oper.wp Tryz.prog o a w K Q else E := by
  obtain ⟨i0, hi, hz0, hz1, hz2⟩ := info_parts Tryz.zinByteS
  have hlu := hu.own.1
  rcases hu.own.2 with ⟨rfl, hz⟩ | ⟨g, cap, cur, rfl, hbg, hgb, hnc, hcm, hcs, htake⟩
  · omega
  · refine step_append_lies w hgd s x 23 ho base 22 i0 (.slice none 0 0) 1 24 Tryz.underlying23 hi hz0 hz1 hz2 rfl (by decide) v ps.length (ps.map Cl.v) hs h.own ⟨g, 0, none⟩ qs.length cap (qs.map Cl.v) hx (by simp) ?_ ?_ hq0 (by unfold maxLen; omega) (by omega) hbase w.heap.size rfl ?_
    · intro j u hu2
      have hj : j < qs.length := by have := (List.getElem?_eq_some_iff.1 hu2).1; simpa using this
      have e3 : (⟨g, 0, none⟩ : Addr).add j = ⟨g, j, none⟩ := by cases j <;> simp [Addr.add]
      rw [e3, hu.own.cellAt j (by omega)]
      exact hu2
    · intro u hu2
      obtain ⟨q, hq, rfl⟩ := List.mem_map.1 hu2
      exact (hu.ok q hq).one
    · intro gg cap' w' h1 hg q3 q4
      exact hK gg cap' w' (h.appAll (by decide) hbase hu.ok hu.lo hu.apart hps h1 hg).1 hg (q3.imp (fun e => e.symm) (fun e => ⟨w.heap.size, Nat.le_refl _, by rw [e]; rfl⟩))
/-- A list of three bytes, written out, in a row of its own. -/
theorem lit_row {base : Nat} {w : World} (hb : base ≤ w.heap.size) : LB base ((w.alloc (.cells #[.int .u8 97, .int .u8 10, .int .u8 98] 5)).alloc (.cells #[.slice (some ⟨w.heap.size, 0, none⟩) 3 3] 22)) (.slice (some ⟨w.heap.size + 1, 0, none⟩) 1 1) [⟨.slice (some ⟨w.heap.size, 0, none⟩) 3 3, [97, 10, 98], w.heap.size⟩] := by
  have e1 : ((w.alloc (.cells #[.int .u8 97, .int .u8 10, .int .u8 98] 5)).alloc (.cells #[.slice (some ⟨w.heap.size, 0, none⟩) 3 3] 22)).heap[w.heap.size + 1]? = some (.cells #[.slice (some ⟨w.heap.size, 0, none⟩) 3 3] 22 (0, 0)) := by
    show ((w.heap.push _).push _)[w.heap.size + 1]? = _
    rw [Array.getElem?_push, if_pos (by simp)]
  have e2 : ((w.alloc (.cells #[.int .u8 97, .int .u8 10, .int .u8 98] 5)).alloc (.cells #[.slice (some ⟨w.heap.size, 0, none⟩) 3 3] 22)).heap[w.heap.size]? = some (.cells #[.int .u8 97, .int .u8 10, .int .u8 98] 5 (0, 0)) := by
    show ((w.heap.push _).push _)[w.heap.size]? = _
    rw [Array.getElem?_push_lt (by simp)]
    simp
  refine ⟨⟨rfl, Or.inr ⟨w.heap.size + 1, 1, _, rfl, by omega, e1, Nat.le_refl _, by unfold maxLen; omega, rfl, rfl⟩⟩, fun p hp => ?_, fun p hp _ => ?_, List.pairwise_singleton _ _⟩
  · rw [List.mem_singleton] at hp
    subst hp
    refine ⟨_, 3, rfl, ⟨Nat.le_refl _, by unfold maxLen; omega⟩, fun _ => ⟨0, rfl, ⟨_, e2⟩, fun i hi => ?_⟩⟩
    have hi' : i < 3 := hi
    show World.cell? _ ⟨w.heap.size, 0 + i, none⟩ = _
    rw [Nat.zero_add]
    unfold World.cell?
    match i, hi' with
    | 0, _ => simp [e2]; rfl
    | 1, _ => simp [e2]; rfl
    | 2, _ => simp [e2]; rfl
  · rw [List.mem_singleton] at hp
    subst hp
    exact hb

theorem Bk.box {w : World} {b : Nat} {c0 c1 : Value} (h : Bk w b) (hB : Row2 w b 25 c0 c1) : False := by
  obtain ⟨cs, t, g1, g2⟩ := h
  obtain ⟨cb, hcb, -⟩ := hB
  rw [hcb] at g1
  simp at g1
  rcases g2 with g2 | g2
  · rw [g2] at g1
    exact absurd g1.2 (by decide)
  · rw [g2] at g1
    exact absurd g1.2 (by decide)
/-- A box stays while a row of lists grows. -/
theorem Row2.grown {lo n : Nat} {w w' : World} {v : Value} {l : List Value} (h : w.ownsRow lo 22 1 v n l) (hg : w.grownBy w' v.ownBlock) {b : Nat} {c0 c1 : Value} (hB : Row2 w b 25 c0 c1) : Row2 w' b 25 c0 c1 :=
  World.rowIs.of_block hB (hg.block b (World.rowIs.lt hB) (fun e => (row_bk h e.symm).box hB))
/-- The open lines of a state grow by an append. -/
theorem StL.openMore {lo : Nat} {w w' : World} {sv ov ov' : Value} {ps qs us : List (Cl Int)} (h : StL lo w sv ov ps qs) (hlo : lo ≤ w.heap.size) (hl : LB lo w' ov' (qs ++ us)) (hg : w.grownBy w' ov.ownBlock) (ho : OwnS w ov ov') :
    StD lo w' (.agg #[sv, ov']) (ps.map Cl.xs) (qs.map Cl.xs ++ us.map Cl.xs) ∧ Below lo w w' ∧ ∀ b c0 c1, Row2 w b 25 c0 c1 → Row2 w' b 25 c0 c1 :=
  ⟨StD.more (row_ssR h.segs.own h.segs.ok) h.bound.1 h.bound.2 hl hg ho (by rw [List.map_append]), (Below.refl lo w).grown hg hlo (fun j hj => (h.opens.own.lt j hj).1), fun _ _ _ hB => hB.grown h.opens.own hg⟩
/-- The segments of a state grow by an append. -/
theorem StL.segMore {lo : Nat} {w w' : World} {sv sv' ov : Value} {ps qs : List (Cl Int)} {p : Cl Int} (h : StL lo w sv ov ps qs) (hlo : lo ≤ w.heap.size) (hp : p.ok mB 0 5 w) (hpb : 0 < p.xs.length → p ∈ ps) (h1 : w'.ownsRow lo 22 1 sv' (ps.length + 1) (ps.map Cl.v ++ [p.v])) (hg : w.grownBy w' sv.ownBlock) (ho : OwnS w sv sv') :
    StD lo w' (.agg #[sv', ov]) (ps.map Cl.xs ++ [p.xs]) (qs.map Cl.xs) ∧ Below lo w w' ∧ ∀ b c0 c1, Row2 w b 25 c0 c1 → Row2 w' b 25 c0 c1 :=
  ⟨h.more hp hpb h1 hg ho, (Below.refl lo w).grown hg hlo (fun j hj => (h.segs.own.lt j hj).1), fun _ _ _ hB => hB.grown h.segs.own hg⟩

end Go.Proofs.YthgnefdefjannaaGreat
