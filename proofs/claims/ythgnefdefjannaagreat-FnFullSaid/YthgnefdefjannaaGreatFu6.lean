import Derived.Test.YthgnefdefjannaaGreatFu4
import Derived.Test.YthgnefdefjannaaGreatSt12
namespace Go.Proofs.YthgnefdefjannaaGreat
open Go.RowKit

/-- A row of lists that can be read, in the blocks of S; the lists may share memory. -/
def SsR (S : Nat → Prop) (w : World) (v : Value) (xss : List (List Int)) : Prop :=
  ∃ a cap, v = .slice a xss.length cap ∧ (xss.length ≤ cap ∧ cap ≤ maxLen) ∧ (0 < xss.length → ∃ b off, a = some ⟨b, off, none⟩ ∧ S b ∧ ∀ i : Nat, i < xss.length → ∃ s, w.cell? ⟨b, off + i, none⟩ = some s ∧ SlF mB 0 S w s (xss[i]?.getD []) ∧ CapOk s)
theorem SsR.same {S : Nat → Prop} {w w' : World} {v : Value} {xss : List (List Int)} (h : SsR S w v xss) (hs : ∀ k, S k → w'.heap[k]? = w.heap[k]?) : SsR S w' v xss := by
  obtain ⟨a, cap, rfl, hl, hc⟩ := h
  refine ⟨a, cap, rfl, hl, fun hp => ?_⟩
  obtain ⟨b, off, e, h1, h2⟩ := hc hp
  refine ⟨b, off, e, h1, fun i hi => ?_⟩
  obtain ⟨s, h3, h4, h5⟩ := h2 i hi
  exact ⟨s, by rw [World.cell?_of_block (w := w) (a := ⟨b, off + i, none⟩) (hs b h1)]; exact h3, h4.same hs, h5⟩
theorem SsR.mono {S T : Nat → Prop} {w : World} {v : Value} {xss : List (List Int)} (h : SsR S w v xss) (hs : ∀ k, S k → T k) : SsR T w v xss := by
  obtain ⟨a, cap, rfl, hl, hc⟩ := h
  refine ⟨a, cap, rfl, hl, fun hp => ?_⟩
  obtain ⟨b, off, e, h1, h2⟩ := hc hp
  refine ⟨b, off, e, hs b h1, fun i hi => ?_⟩
  obtain ⟨s, h3, h4, h5⟩ := h2 i hi
  exact ⟨s, h3, h4.mono hs, h5⟩
theorem SsR.at {S : Nat → Prop} {N : Nat} {w : World} {v : Value} {xss : List (List Int)} (h : SsR S w v xss) (hs : ∀ k, S k → k < N) : SsAt mB 0 N w v xss := by
  obtain ⟨a, cap, rfl, hl, hc⟩ := h
  refine ⟨a, cap, rfl, hl, fun hp => ?_⟩
  obtain ⟨b, off, e, h1, h2⟩ := hc hp
  refine ⟨b, off, e, hs b h1, fun i hi => ?_⟩
  obtain ⟨s, h3, h4, h5⟩ := h2 i hi
  exact ⟨s, h3, h4.at hs, h5⟩
theorem SsR.nil (S : Nat → Prop) (w : World) : SsR S w (.slice none 0 0) [] := ⟨none, 0, rfl, ⟨Nat.le_refl _, Nat.zero_le _⟩, fun h => absurd h (by simp)⟩
/-- The blocks of a row and its lists. -/
def FootL (v : Value) (ps : List (Cl Int)) (k : Nat) : Prop := v.ownBlock = some k ∨ ∃ p ∈ ps, 0 < p.xs.length ∧ k = p.b
theorem row_ssR {lo : Nat} {w : World} {v : Value} {ps : List (Cl Int)} (h : w.ownsRow lo 22 1 v ps.length (ps.map Cl.v)) (hok : ∀ p ∈ ps, p.ok mB 0 5 w) : SsR (FootL v ps) w v (ps.map Cl.xs) := by
  rcases h.2 with ⟨rfl, hz⟩ | ⟨g, cap, cur, rfl, hbg, hg, hnc, hcm, hcs, htake⟩
  · have : ps = [] := List.eq_nil_of_length_eq_zero hz
    subst this
    exact SsR.nil _ _
  · refine ⟨some ⟨g, 0, none⟩, cap, by rw [List.length_map], ⟨by rw [List.length_map]; exact hnc, hcm⟩, fun _ => ⟨g, 0, rfl, Or.inl rfl, fun i hi => ?_⟩⟩
    rw [List.length_map] at hi
    have hp : ps[i]? = some ps[i] := by simp [hi]
    have hm : ps[i] ∈ ps := List.getElem_mem hi
    refine ⟨ps[i].v, ?_, ?_, (hok _ hm).cap⟩
    · rw [Nat.zero_add, h.cellAt i (by omega), List.getElem?_map, hp]
      rfl
    · have e2 : ((ps.map Cl.xs)[i]?).getD [] = ps[i].xs := by rw [List.getElem?_map, hp]; rfl
      rw [e2]
      exact (hok _ hm).foot.mono (fun k hk => Or.inr ⟨_, hm, hk.1, hk.2⟩)

/-- A block of bytes or of lists of bytes. -/
def Bk (w : World) (k : Nat) : Prop := ∃ cs t, w.heap[k]? = some (.cells cs t (0, 0)) ∧ (t = 5 ∨ t = 22)
theorem Bk.same {w w' : World} {k : Nat} (h : Bk w k) (e : w'.heap[k]? = w.heap[k]?) : Bk w' k := by
  obtain ⟨cs, t, h1, h2⟩ := h
  exact ⟨cs, t, e.trans h1, h2⟩
theorem Bk.lt {w : World} {k : Nat} (h : Bk w k) : k < w.heap.size := by
  obtain ⟨cs, t, h1, -⟩ := h
  exact (Array.getElem?_eq_some_iff.1 h1).1
theorem row_bk {lo n : Nat} {w : World} {v : Value} {l : List Value} (h : w.ownsRow lo 22 1 v n l) {k : Nat} (hk : v.ownBlock = some k) : Bk w k := by
  rcases h.2 with ⟨rfl, -⟩ | ⟨g, cap, cur, rfl, -, hg, -⟩
  · simp [Value.ownBlock] at hk
  · simp only [Value.ownBlock, Option.some.injEq] at hk
    subst hk
    exact ⟨_, _, hg, Or.inr rfl⟩
theorem Cl.ok.bk {w : World} {p : Cl Int} (h : p.ok mB 0 5 w) (h0 : 0 < p.xs.length) : Bk w p.b := by
  obtain ⟨a, cap, -, -, hc⟩ := h
  obtain ⟨off, -, ⟨c, h1⟩, -⟩ := hc h0
  exact ⟨_, _, h1, Or.inl rfl⟩
theorem foot_bk {lo n : Nat} {w : World} {v : Value} {ps : List (Cl Int)} {l : List Value} (h : w.ownsRow lo 22 1 v n l) (hok : ∀ p ∈ ps, p.ok mB 0 5 w) {k : Nat} (hk : FootL v ps k) : Bk w k := by
  rcases hk with hk | ⟨p, hp, h0, rfl⟩
  · exact row_bk h hk
  · exact (hok p hp).bk h0

/-- A state as it is drawn: both lists own their memory. -/
structure StL (lo : Nat) (w : World) (sv ov : Value) (ps qs : List (Cl Int)) : Prop where
  segs : LB lo w sv ps
  opens : LB lo w ov qs
  rows : ∀ k, sv.ownBlock = some k → ov.ownBlock ≠ some k
  lists : ∀ p ∈ ps, ∀ q ∈ qs, 0 < p.xs.length → 0 < q.xs.length → p.b ≠ q.b
/-- A state as it is handed out: the segments can be read, the open lines own their memory. -/
def StD (lo : Nat) (w : World) (v : Value) (bss oss : List (List Int)) : Prop :=
  ∃ (sv ov : Value) (S : Nat → Prop) (qs : List (Cl Int)), v = .agg #[sv, ov] ∧ SsR S w sv bss ∧ LB lo w ov qs ∧ qs.map Cl.xs = oss ∧ (∀ k, S k → lo ≤ k ∧ Bk w k) ∧ ∀ k, ov.ownBlock = some k → ¬ S k
theorem StL.bound {lo : Nat} {w : World} {sv ov : Value} {ps qs : List (Cl Int)} (h : StL lo w sv ov ps qs) : (∀ k, FootL sv ps k → lo ≤ k ∧ Bk w k) ∧ ∀ k, ov.ownBlock = some k → ¬ FootL sv ps k := by
  refine ⟨fun k hk => ?_, fun k hk hf => ?_⟩
  · refine ⟨?_, foot_bk h.segs.own h.segs.ok hk⟩
    rcases hk with hk | ⟨p, hp, h0, rfl⟩
    · exact (h.segs.own.lt k hk).1
    · exact h.segs.lo p hp h0
  · rcases hf with hf | ⟨p, hp, h0, rfl⟩
    · exact h.rows k hf hk
    · exact h.opens.not_row (by decide) (h.segs.ok p hp) rfl h0 hk.symm
theorem StL.d {lo : Nat} {w : World} {sv ov : Value} {ps qs : List (Cl Int)} (h : StL lo w sv ov ps qs) : StD lo w (.agg #[sv, ov]) (ps.map Cl.xs) (qs.map Cl.xs) :=
  ⟨sv, ov, FootL sv ps, qs, rfl, row_ssR h.segs.own h.segs.ok, h.opens, rfl, h.bound.1, h.bound.2⟩
theorem StD.keep {lo m : Nat} {w w' : World} {v : Value} {bss oss : List (List Int)} (h : StD lo w v bss oss) (hb : Below m w w') (hm : w.heap.size ≤ m) : StD lo w' v bss oss := by
  obtain ⟨sv, ov, S, qs, e, h1, h2, h3, h4, h5⟩ := h
  exact ⟨sv, ov, S, qs, e, h1.same (fun k hk => hb.block k (by have := (h4 k hk).2.lt; omega)), h2.keep hb hm, h3, fun k hk => ⟨(h4 k hk).1, (h4 k hk).2.same (hb.block k (by have := (h4 k hk).2.lt; omega))⟩, h5⟩
theorem StD.low {lo lo' : Nat} {w : World} {v : Value} {bss oss : List (List Int)} (h : StD lo w v bss oss) (hl : lo' ≤ lo) : StD lo' w v bss oss := by
  obtain ⟨sv, ov, S, qs, e, h1, h2, h3, h4, h5⟩ := h
  exact ⟨sv, ov, S, qs, e, h1, h2.low hl, h3, fun k hk => ⟨Nat.le_trans hl (h4 k hk).1, (h4 k hk).2⟩, h5⟩
theorem StD.rd {lo : Nat} {w : World} {v : Value} {bss oss : List (List Int)} (h : StD lo w v bss oss) : StRd w v bss oss := by
  obtain ⟨sv, ov, S, qs, e, h1, h2, rfl, h4, h5⟩ := h
  exact ⟨sv, ov, e, h1.at (fun k hk => (h4 k hk).2.lt), (LB.footR h2).all (Nat.le_refl _)⟩
theorem StD.zero (lo : Nat) (w : World) : StD lo w (.agg #[.slice none 0 0, .slice none 0 0]) [] [] :=
  ⟨_, _, fun _ => False, [], rfl, SsR.nil _ _, LL.nil, rfl, fun _ h => h.elim, fun _ _ h => h⟩
/-- A store into a box below the state. -/
theorem StD.put {lo b o : Nat} {w : World} {v u : Value} {bss oss : List (List Int)} (h : StD lo w v bss oss) (hb : b < lo) : StD lo (w.setCell ⟨b, o, none⟩ u) v bss oss := by
  obtain ⟨sv, ov, S, qs, e, h1, h2, h3, h4, h5⟩ := h
  exact ⟨sv, ov, S, qs, e, h1.same (fun k hk => Below.heap_setCell _ _ _ _ (by show k ≠ b; have := h4 k hk; omega)), h2.putlo hb, h3, fun k hk => ⟨(h4 k hk).1, (h4 k hk).2.same (Below.heap_setCell _ _ _ _ (by show k ≠ b; have := h4 k hk; omega))⟩, h5⟩
/-- A store into a box of another type. -/
theorem StD.putty {lo b o : Nat} {w : World} {v u c0 c1 : Value} {bss oss : List (List Int)} (h : StD lo w v bss oss) (hB : Row2 w b 25 c0 c1) : StD lo (w.setCell ⟨b, o, none⟩ u) v bss oss := by
  obtain ⟨sv, ov, S, qs, e, h1, h2, h3, h4, h5⟩ := h
  have hne : ∀ k, S k → k ≠ b := fun k hk e => by
    obtain ⟨cs, t, g1, g2⟩ := (h4 k hk).2
    obtain ⟨cb, hcb, -⟩ := hB
    rw [e, hcb] at g1
    simp at g1
    rcases g2 with g2 | g2
    · rw [g2] at g1
      exact absurd g1.2 (by decide)
    · rw [g2] at g1
      exact absurd g1.2 (by decide)
  exact ⟨sv, ov, S, qs, e, h1.same (fun k hk => Below.heap_setCell _ _ _ _ (hne k hk)), h2.putty hB (by decide) (by decide), h3, fun k hk => ⟨(h4 k hk).1, (h4 k hk).2.same (Below.heap_setCell _ _ _ _ (hne k hk))⟩, h5⟩

/-- The open lines of a state grow. -/
theorem StD.more {lo : Nat} {w w' : World} {sv ov ov' : Value} {S : Nat → Prop} {bss oss : List (List Int)} {qs' : List (Cl Int)} (h1 : SsR S w sv bss) (h4 : ∀ k, S k → lo ≤ k ∧ Bk w k) (h5 : ∀ k, ov.ownBlock = some k → ¬ S k) (hl : LB lo w' ov' qs') (hg : w.grownBy w' ov.ownBlock) (ho : OwnS w ov ov') (he : qs'.map Cl.xs = oss) : StD lo w' (.agg #[sv, ov']) bss oss := by
  refine ⟨sv, ov', S, qs', rfl, h1.same (fun k hk => hg.block k (h4 k hk).2.lt (fun e => h5 k e.symm hk)), hl, he, fun k hk => ⟨(h4 k hk).1, (h4 k hk).2.same (hg.block k (h4 k hk).2.lt (fun e => h5 k e.symm hk))⟩, fun k hk hs => ?_⟩
  rcases ho with ho | ⟨j, hj, ho⟩
  · exact h5 k (by rw [← ho]; exact hk) hs
  · rw [ho] at hk
    simp only [Option.some.injEq] at hk
    have := (h4 k hs).2.lt
    omega

/-- What l5spoil makes of the segments and the open lines. -/
def flipB (v : Nat) (x : List Int) : List Int := x.set (v % x.length) (bits .xor .u8 (x[v % x.length]?.getD 0) 4)
def spB (k v : Nat) (bss : List (List Int)) : List (List Int) :=
  if k = 5 then bss ++ [[]] else if bss = [] then [] else if k = 1 then bss.set (v % bss.length) (flipB v (bss[v % bss.length]?.getD [])) else if k = 2 then bss.tail else if k = 3 then bss ++ [bss[bss.length - 1]?.getD []] else bss
def spO (k v : Nat) (bss oss : List (List Int)) : List (List Int) :=
  if k = 0 then oss ++ [[97, 10, 98]] else if k = 4 then oss ++ mny (1000 - v % 3) 30 else if k = 6 ∨ (k ≠ 5 ∧ bss = []) then oss ++ mny 2 20000 else oss

end Go.Proofs.YthgnefdefjannaaGreat
