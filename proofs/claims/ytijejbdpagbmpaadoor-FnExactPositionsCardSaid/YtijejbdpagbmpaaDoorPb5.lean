import Derived.Test.YtijejbdpagbmpaaDoorP14
import Derived.Test.YtijejbdpagbmpaaDoorPb3
import Derived.Test.YtijejbdpagbmpaaDoorT1
namespace Go.Proofs.YtijejbdpagbmpaaDoor
open Go.RowKit

/-- The blocks of a row of lists. -/
def FootL (v : Value) (ps : List (Cl Int)) (k : Nat) : Prop := v.ownBlock = some k ∨ ∃ p ∈ ps, 0 < p.xs.length ∧ k = p.b
abbrev LI (base : Nat) (w : World) (v : Value) (ps : List (Cl Int)) : Prop := LL mI 0 3 27 base w v ps
theorem is_ne : 27 ≠ 3 := by decide
section
variable {base : Nat} {w w' : World} {v : Value} {ps : List (Cl Int)}
theorem LI.lt (h : LI base w v ps) {k : Nat} (hk : FootL v ps k) : base ≤ k ∧ k < w.heap.size := by
  rcases hk with hk | ⟨p, hp, h0, rfl⟩
  · exact h.own.lt k hk
  · exact ⟨h.lo p hp h0, (h.ok p hp).lt h0⟩
theorem LI.keepF (h : LI base w v ps) (e : ∀ k, FootL v ps k → w'.heap[k]? = w.heap[k]?) : LI base w' v ps :=
  ⟨own_blk h.own (fun q hq => e q (Or.inl hq)), fun p hp => (h.ok p hp).same (fun h0 => e _ (Or.inr ⟨p, hp, h0, rfl⟩)), h.lo, h.apart⟩
theorem LI.footX (h : LI base w v ps) (_ : ps.length ≤ maxLen) : SsF mI 0 (FootL v ps) w v (ps.map Cl.xs) := by
  have hlen := h.own.1
  rcases h.own.2 with ⟨rfl, hz⟩ | ⟨g, cap, cur, rfl, hbg, hg, hnc, hcm, hcs, htake⟩
  · have : ps = [] := List.eq_nil_of_length_eq_zero hz
    subst this
    exact SsF.nil _ _ _ _ _ _ (Nat.zero_le _)
  · have hget : ∀ i : Nat, i < ps.length → ∃ p, ps[i]? = some p ∧ p ∈ ps := fun i hi => ⟨ps[i], by simp [hi], List.getElem_mem hi⟩
    refine ⟨some ⟨g, 0, none⟩, cap, by rw [List.length_map], ⟨by rw [List.length_map]; exact hnc, hcm⟩, fun _ => ⟨g, 0, fun i => ((ps[i]?).map Cl.v).getD undef, fun i k => ∃ p, ps[i]? = some p ∧ 0 < p.xs.length ∧ k = p.b, rfl, Or.inl rfl, ⟨cur, _, hg⟩, fun i hi => ?_, fun i hi => ?_, fun i hi k hk => ?_, fun i j hi hj hne k hk hk' => ?_⟩⟩
    · rw [List.length_map] at hi
      obtain ⟨p, hp, -⟩ := hget i hi
      show w.cell? ⟨g, 0 + i, none⟩ = some (((ps[i]?).map Cl.v).getD undef)
      rw [Nat.zero_add, h.own.cellAt i (by omega), List.getElem?_map, hp]
      rfl
    · rw [List.length_map] at hi
      obtain ⟨p, hp, hm⟩ := hget i hi
      have e1 : ((ps[i]?).map Cl.v).getD undef = p.v := by rw [hp]; rfl
      have e2 : ((ps.map Cl.xs)[i]?).getD [] = p.xs := by rw [List.getElem?_map, hp]; rfl
      show SlF mI 0 _ w (((ps[i]?).map Cl.v).getD undef) (((ps.map Cl.xs)[i]?).getD []) ∧ CapOk (((ps[i]?).map Cl.v).getD undef)
      rw [e1, e2]
      exact ⟨(h.ok p hm).foot.mono (fun k hk => ⟨p, hp, hk.1, hk.2⟩), (h.ok p hm).cap⟩
    · obtain ⟨p, hp, hp0, rfl⟩ := hk
      have hm : p ∈ ps := List.mem_of_getElem? hp
      refine ⟨Or.inr ⟨p, hm, hp0, rfl⟩, fun e1 => ?_⟩
      exact h.not_row is_ne (h.ok p hm) rfl hp0 (by rw [e1]; rfl)
    · obtain ⟨p, hp, hp0, rfl⟩ := hk
      obtain ⟨q, hq, hq0, e1⟩ := hk'
      have hi' := (List.getElem?_eq_some_iff.1 hp).1
      have hj' := (List.getElem?_eq_some_iff.1 hq).1
      have hpi := (List.getElem?_eq_some_iff.1 hp).2
      have hqj := (List.getElem?_eq_some_iff.1 hq).2
      rcases Nat.lt_or_gt_of_ne hne with hlt | hgt
      · have := List.pairwise_iff_getElem.1 h.apart i j hi' hj' hlt
        rw [hpi, hqj] at this
        exact this hp0 hq0 e1
      · have := List.pairwise_iff_getElem.1 h.apart j i hj' hi' hgt
        rw [hpi, hqj] at this
        exact this hq0 hp0 e1.symm
/-- One list more. -/
theorem LI.pushed {W w7 : World} {g cap : Nat} {p : Cl Int} (h : LI base w v ps) (hbase : base ≤ w.heap.size) (hp : p.ok mI 0 3 w) (hplo : 0 < p.xs.length → base ≤ p.b) (hnew : ∀ q ∈ ps, 0 < q.xs.length → 0 < p.xs.length → q.b ≠ p.b) (hP : Pushd w W (.cells #[p.v] 27))
    (r1 : w7.ownsRow base 27 1 (.slice (some ⟨g, 0, none⟩) (ps.length + 1) cap) (ps.length + 1) (ps.map Cl.v ++ [p.v])) (r2 : W.grownBy w7 v.ownBlock) (r3 : v.ownBlock = some g ∨ g = w.heap.size + 1) :
    LI base w7 (.slice (some ⟨g, 0, none⟩) (ps.length + 1) cap) (ps ++ [p]) ∧ FrO (fun k => v.ownBlock = some k ∨ w.heap.size ≤ k) w w7 ∧ ∀ k, FootL (.slice (some ⟨g, 0, none⟩) (ps.length + 1) cap) (ps ++ [p]) k → FootL v ps k ∨ (0 < p.xs.length ∧ k = p.b) ∨ w.heap.size ≤ k := by
  obtain ⟨a, -⟩ := LL.app is_ne h hbase hp hplo hnew hP r1 r2
  have hz := hP.size
  have hz7 := r2.size
  refine ⟨a, ⟨r2.os.trans hP.below.os, r2.tape.trans hP.below.tape, r2.output.trans hP.below.output, by omega, fun k hk => ?_⟩, fun k hk => ?_⟩
  · have h1 : k < w.heap.size := by apply Nat.lt_of_not_le; intro e; exact hk (Or.inr e)
    exact (r2.block k (by omega) (fun e => hk (Or.inl e.symm))).trans (hP.old h1)
  · rcases hk with hk | ⟨q, hq, h0, rfl⟩
    · have e : g = k := Option.some.inj hk
      rcases r3 with r3 | r3
      · exact Or.inl (Or.inl (by rw [r3, e]))
      · exact Or.inr (Or.inr (by omega))
    · rcases List.mem_append.1 hq with hq | hq
      · exact Or.inl (Or.inr ⟨q, hq, h0, rfl⟩)
      · rw [List.mem_singleton] at hq
        subst hq
        exact Or.inr (Or.inl ⟨h0, rfl⟩)
end
theorem Tryd.zinIS : (Tryd.prog.info? 27).map (fun i => (i.zero, i.size, i.bytes)) = some (some (.slice none 0 0), 1, 24) := by kernel_rfl
/-- One list more, at a plain region's append. -/
theorem app_list {ops : Array Oper} {rest : List Oper} {o : Oper} {a : Act} {Q : Exit → Act → World → Prop} (hgd : o.guard = none) (s y : Operand) (ho : o.op = .call { callee := .builtin .append, args := #[s, y], argTypes := #[26, 26] })
    {base : Nat} {w W : World} {v : Value} {ps : List (Cl Int)} {p : Cl Int} (h : LI base w v ps) (hs : a.eval s = v) (hbase : base ≤ w.heap.size) (hp : p.ok mI 0 3 w) (hplo : 0 < p.xs.length → base ≤ p.b) (hnew : ∀ q ∈ ps, 0 < q.xs.length → 0 < p.xs.length → q.b ≠ p.b) (hP : Pushd w W (.cells #[p.v] 27))
    (hy : a.eval y = .slice (some ⟨w.heap.size, 0, none⟩) 1 1) (hl : ps.length ≤ 1048576)
    (K : ∀ g cap w7, LI base w7 (.slice (some ⟨g, 0, none⟩) (ps.length + 1) cap) (ps ++ [p]) → FrO (fun k => v.ownBlock = some k ∨ w.heap.size ≤ k) w w7 → (∀ k, FootL (.slice (some ⟨g, 0, none⟩) (ps.length + 1) cap) (ps ++ [p]) k → FootL v ps k ∨ (0 < p.xs.length ∧ k = p.b) ∨ w.heap.size ≤ k) → wpList Tryd.prog ops Q rest (a.put o.dst (.slice (some ⟨g, 0, none⟩) (ps.length + 1) cap)) w7) : wpList Tryd.prog ops Q (o :: rest) a W := by
  obtain ⟨j0, hj, hy0, hy1, hy2⟩ := info_parts Tryd.zinIS
  have hz := hP.size
  refine wpList_append_own_at W hgd s y 26 ho base 27 j0 (.slice none 0 0) 1 24 Tryd.underlying26 hj hy0 hy1 hy2 rfl (by decide) v ps.length (ps.map Cl.v) hs (hP.own h.own) ⟨w.heap.size, 0, none⟩ 1 1 [p.v] hy rfl (Pushd.news hP) (fun u hu => by rw [List.mem_singleton] at hu; subst hu; exact hp.one) (by unfold maxLen; omega) (by omega) (by omega) ?_
  intro v' w7 r1 r2 _ r3
  obtain ⟨g, cap, rfl⟩ := own_some r1 (by omega)
  obtain ⟨q1, q2, q3⟩ := h.pushed hbase hp hplo hnew hP r1 r2 (r3.imp (fun e => e.symm) (fun e => by have := Option.some.inj e; exact this.trans hz))
  exact K g cap w7 q1 q2 q3

end Go.Proofs.YtijejbdpagbmpaaDoor
