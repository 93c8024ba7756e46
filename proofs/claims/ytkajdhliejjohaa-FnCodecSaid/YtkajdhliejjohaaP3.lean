import Derived.Test.YtkajdhliejjohaaP2
import Derived.Test.YtkajdhliejjohaaP1
import Derived.RangeFuncBox
import Derived.ArgAppend
import Derived.Deep.RegionWith
namespace Go.Proofs.Ytkajdhliejjohaa
open Go.RowKit

theorem Boxed.under {w w' : World} {B m : Nat} {t : TypeId} {v : Value} (h : Boxed w B t v) (hb : Below m w w') (hm : B < m) : Boxed w' B t v := (hb.block B hm).trans h

/-- A list that lies in one block, and where. -/
structure Cl (α : Type) where
  v : Value
  xs : List α
  b : Nat

/-- p's value reads as p's list, in p's block, whose cells are of type e. -/
def Cl.ok {α : Type} (mk : α → Value) (d : α) (e : TypeId) (w : World) (p : Cl α) : Prop :=
  ∃ a cap, p.v = .slice a p.xs.length cap ∧ (p.xs.length ≤ cap ∧ cap ≤ maxLen) ∧ (0 < p.xs.length → ∃ off, a = some ⟨p.b, off, none⟩ ∧ (∃ c, w.heap[p.b]? = some (.cells c e (0, 0))) ∧ ∀ i : Nat, i < p.xs.length → w.cell? ⟨p.b, off + i, none⟩ = some (mk (p.xs[i]?.getD d)))
theorem Cl.ok.same {α : Type} {mk : α → Value} {d : α} {e : TypeId} {w w' : World} {p : Cl α} (h : p.ok mk d e w) (hs : 0 < p.xs.length → w'.heap[p.b]? = w.heap[p.b]?) : p.ok mk d e w' := by
  obtain ⟨a, cap, e1, hl, hc⟩ := h
  refine ⟨a, cap, e1, hl, fun hp => ?_⟩
  obtain ⟨off, e2, ⟨c, h1⟩, h2⟩ := hc hp
  exact ⟨off, e2, ⟨c, (hs hp).trans h1⟩, fun i hi => by rw [World.cell?_of_block (w := w) (a := ⟨p.b, off + i, none⟩) (hs hp)]; exact h2 i hi⟩
theorem Cl.ok.lt {α : Type} {mk : α → Value} {d : α} {e : TypeId} {w : World} {p : Cl α} (h : p.ok mk d e w) (hp : 0 < p.xs.length) : p.b < w.heap.size := by
  obtain ⟨a, cap, e1, hl, hc⟩ := h
  obtain ⟨off, e2, ⟨c, h1⟩, h2⟩ := hc hp
  exact (Array.getElem?_eq_some_iff.1 h1).1
theorem Cl.ok.below {α : Type} {mk : α → Value} {d : α} {e : TypeId} {m : Nat} {w w' : World} {p : Cl α} (h : p.ok mk d e w) (hb : Below m w w') (hm : w.heap.size ≤ m) : p.ok mk d e w' := h.same (fun hp => hb.block _ (by have := h.lt hp; omega))
theorem Cl.ok.at {α : Type} {mk : α → Value} {d : α} {e : TypeId} {w : World} {p : Cl α} (h : p.ok mk d e w) : SlAt mk d 0 w.heap.size w p.v p.xs := by
  obtain ⟨a, cap, e1, hl, hc⟩ := id h
  refine ⟨a, cap, e1, by omega, fun hp => ?_⟩
  obtain ⟨off, e2, -, h2⟩ := hc hp
  exact ⟨p.b, off, e2, Nat.zero_le _, h.lt hp, h2⟩
theorem Cl.ok.cap {α : Type} {mk : α → Value} {d : α} {e : TypeId} {w : World} {p : Cl α} (h : p.ok mk d e w) : CapOk p.v := by
  obtain ⟨a, cap, e1, hl, hc⟩ := h
  rw [e1]
  exact CapOk.mk hl.1 hl.2
theorem Cl.ok.foot {α : Type} {mk : α → Value} {d : α} {e : TypeId} {w : World} {p : Cl α} (h : p.ok mk d e w) : SlF mk d (fun k => 0 < p.xs.length ∧ k = p.b) w p.v p.xs := by
  obtain ⟨a, cap, e1, hl, hc⟩ := h
  by_cases hp : 0 < p.xs.length
  · refine ⟨p.b, p.b + 1, ⟨a, cap, e1, by omega, fun _ => ?_⟩, fun k h1 h2 => ⟨hp, by omega⟩⟩
    obtain ⟨off, e2, ⟨c, h1⟩, h2⟩ := hc hp
    exact ⟨p.b, off, e2, Nat.le_refl _, Nat.lt_succ_self _, ⟨c, e, h1⟩, h2⟩
  · exact ⟨0, 0, ⟨a, cap, e1, by omega, fun h => absurd h hp⟩, fun k h1 h2 => by omega⟩
theorem Cl.ok.one {α : Type} {mk : α → Value} {d : α} {e : TypeId} {w : World} {p : Cl α} (h : p.ok mk d e w) : p.v.oneCell' = true := by
  obtain ⟨a, cap, e1, -⟩ := h
  rw [e1]
  rfl

/-- What owns its row is such a list. -/
theorem own_cl {mk : Int → Value} {base e n : Nat} {w : World} {v : Value} {xs : List Int} (h : w.ownsRow base e 1 v n (xs.map mk)) : ∃ b, Cl.ok mk 0 e w ⟨v, xs, b⟩ ∧ (0 < xs.length → base ≤ b) := by
  have hlen := h.1
  rw [List.length_map, Nat.mul_one] at hlen
  rcases h.2 with ⟨rfl, hz⟩ | ⟨g, cap, cur, rfl, hbg, hg, hnc, hcm, hcs, htake⟩
  · exact ⟨0, ⟨none, 0, by show Value.slice none 0 0 = _; rw [hlen, hz], by show xs.length ≤ 0 ∧ _; exact ⟨by omega, Nat.zero_le _⟩, fun hp => by have : 0 < xs.length := hp; omega⟩, fun hp => by omega⟩
  · refine ⟨g, ⟨some ⟨g, 0, none⟩, cap, by rw [hlen], ⟨by show xs.length ≤ cap; omega, hcm⟩, fun hp => ⟨0, rfl, ⟨cur, hg⟩, fun i hi => ?_⟩⟩, fun _ => hbg⟩
    have hi' : i < xs.length := hi
    show w.cell? ⟨g, 0 + i, none⟩ = some (mk (xs[i]?.getD 0))
    rw [Nat.zero_add, h.cellAt i (by omega), List.getElem?_map, List.getElem?_eq_getElem hi']
    rfl

def ApartC {α : Type} (ps : List (Cl α)) : Prop := ps.Pairwise (fun p q => 0 < p.xs.length → 0 < q.xs.length → p.b ≠ q.b)

/-- v is a row of its own of such lists, ps, which lie apart. -/
structure LL {α : Type} (mk : α → Value) (d : α) (e te : TypeId) (base : Nat) (w : World) (v : Value) (ps : List (Cl α)) : Prop where
  own : w.ownsRow base te 1 v ps.length (ps.map Cl.v)
  ok : ∀ p ∈ ps, p.ok mk d e w
  lo : ∀ p ∈ ps, 0 < p.xs.length → base ≤ p.b
  apart : ApartC ps
theorem LL.nil {α : Type} {mk : α → Value} {d : α} {e te : TypeId} {base : Nat} {w : World} : LL mk d e te base w (.slice none 0 0) [] := ⟨World.ownsRow_nil _ _ _ _, by simp, by simp, List.Pairwise.nil⟩
theorem LL.keep {α : Type} {mk : α → Value} {d : α} {e te : TypeId} {base m : Nat} {w w' : World} {v : Value} {ps : List (Cl α)} (h : LL mk d e te base w v ps) (hb : Below m w w') (hm : w.heap.size ≤ m) : LL mk d e te base w' v ps :=
  ⟨own_keep h.own hb hm, fun p hp => (h.ok p hp).below hb hm, h.lo, h.apart⟩

/-- The row's own block is none of the lists' blocks. -/
theorem LL.not_row {α : Type} {mk : α → Value} {d : α} {e te : TypeId} {base : Nat} {w : World} {v : Value} {ps : List (Cl α)} (hte : te ≠ e) (h : LL mk d e te base w v ps) {p : Cl α} {q : Cl α} (hq : q.ok mk d e w) (_ : p = q) (hp : 0 < q.xs.length) : some q.b ≠ v.ownBlock := by
  intro e1
  obtain ⟨a, cap, -, -, hc⟩ := hq
  obtain ⟨off, -, ⟨c, h1⟩, -⟩ := hc hp
  rcases h.own.2 with ⟨rfl, _⟩ | ⟨g, cap', cur, rfl, _, hgb, _⟩
  · simp [Value.ownBlock] at e1
  · obtain rfl : q.b = g := by simpa [Value.ownBlock] using e1
    rw [h1] at hgb
    simp at hgb
    exact hte hgb.2.symm

theorem pushd_alloc (w : World) (o : Obj) : Pushd w (w.alloc o) o := ⟨rfl, rfl, rfl, rfl⟩

/-- One list more. -/
theorem LL.app {α : Type} {mk : α → Value} {d : α} {e te : TypeId} {base : Nat} {w W w' : World} {v v' : Value} {ps : List (Cl α)} {p : Cl α} {o : Obj} (hte : te ≠ e) (h : LL mk d e te base w v ps) (hbase : base ≤ w.heap.size) (hp : p.ok mk d e w) (hplo : 0 < p.xs.length → base ≤ p.b)
    (hnew : ∀ q ∈ ps, 0 < q.xs.length → 0 < p.xs.length → q.b ≠ p.b) (hP : Pushd w W o) (h1 : w'.ownsRow base te 1 v' (ps.length + 1) (ps.map Cl.v ++ [p.v])) (hg : W.grownBy w' v.ownBlock) : LL mk d e te base w' v' (ps ++ [p]) ∧ Below base w w' := by
  have hk : ∀ q : Cl α, q.ok mk d e w → q.ok mk d e w' := fun q hq => by
    refine hq.same (fun hq0 => ?_)
    have hlt := hq.lt hq0
    rw [hg.block q.b (by rw [hP.size]; omega) (h.not_row hte hq rfl hq0), hP.old hlt]
  refine ⟨⟨by rw [List.length_append, List.map_append]; exact h1, fun q hq => ?_, fun q hq hq0 => ?_, ?_⟩, (hP.below.mono hbase).grown hg (by rw [hP.size]; omega) (fun k hk => (h.own.lt k hk).1)⟩
  · rcases List.mem_append.1 hq with hq | hq
    · exact hk q (h.ok q hq)
    · rw [List.mem_singleton] at hq
      subst hq
      exact hk q hp
  · rcases List.mem_append.1 hq with hq | hq
    · exact h.lo q hq hq0
    · rw [List.mem_singleton] at hq
      subst hq
      exact hplo hq0
  · refine List.pairwise_append.2 ⟨h.apart, List.pairwise_singleton _ _, fun q hq r hr => ?_⟩
    rw [List.mem_singleton] at hr
    subst hr
    exact hnew q hq

/-- As the laws' functions want it. -/
theorem LL.foot {α : Type} {mk : α → Value} {d : α} {e te : TypeId} {base : Nat} {w : World} {v : Value} {ps : List (Cl α)} (hte : te ≠ e) (h : LL mk d e te base w v ps) (hl : ps.length ≤ maxLen) : SsF mk d (Rng base w.heap.size) w v (ps.map Cl.xs) := by
  have hlen := h.own.1
  rcases h.own.2 with ⟨rfl, hz⟩ | ⟨g, cap, cur, rfl, hbg, hg, hnc, hcm, hcs, htake⟩
  · have : ps = [] := List.eq_nil_of_length_eq_zero hz
    subst this
    exact SsF.nil _ _ _ _ _ _ (Nat.zero_le _)
  · have hgl : g < w.heap.size := (h.own.lt g rfl).2
    have hget : ∀ i : Nat, i < ps.length → ∃ p, ps[i]? = some p ∧ p ∈ ps := fun i hi => ⟨ps[i], by simp [hi], List.getElem_mem hi⟩
    refine ⟨some ⟨g, 0, none⟩, cap, by rw [List.length_map], ⟨by rw [List.length_map]; exact hnc, hcm⟩, fun _ => ⟨g, 0, fun i => ((ps[i]?).map Cl.v).getD undef, fun i k => ∃ p, ps[i]? = some p ∧ 0 < p.xs.length ∧ k = p.b, rfl, ⟨hbg, hgl⟩, ⟨cur, te, hg⟩, fun i hi => ?_, fun i hi => ?_, fun i hi k hk => ?_, fun i j hi hj hne k hk hk' => ?_⟩⟩
    · rw [List.length_map] at hi
      obtain ⟨p, hp, -⟩ := hget i hi
      show w.cell? ⟨g, 0 + i, none⟩ = some (((ps[i]?).map Cl.v).getD undef)
      rw [Nat.zero_add, h.own.cellAt i (by omega), List.getElem?_map, hp]
      rfl
    · rw [List.length_map] at hi
      obtain ⟨p, hp, hm⟩ := hget i hi
      have e1 : ((ps[i]?).map Cl.v).getD undef = p.v := by rw [hp]; rfl
      have e2 : ((ps.map Cl.xs)[i]?).getD [] = p.xs := by rw [List.getElem?_map, hp]; rfl
      show SlF mk d _ w (((ps[i]?).map Cl.v).getD undef) (((ps.map Cl.xs)[i]?).getD []) ∧ CapOk (((ps[i]?).map Cl.v).getD undef)
      rw [e1, e2]
      exact ⟨(h.ok p hm).foot.mono (fun k hk => ⟨p, hp, hk.1, hk.2⟩), (h.ok p hm).cap⟩
    · obtain ⟨p, hp, hp0, rfl⟩ := hk
      have hm : p ∈ ps := List.mem_of_getElem? hp
      refine ⟨⟨h.lo p hm hp0, (h.ok p hm).lt hp0⟩, fun e1 => ?_⟩
      exact h.not_row hte (h.ok p hm) rfl hp0 (by rw [e1]; rfl)
    · obtain ⟨p, hp, hp0, rfl⟩ := hk
      obtain ⟨q, hq, hq0, e1⟩ := hk'
      rw [List.length_map] at hi hj
      have hpair := List.pairwise_iff_getElem.1 h.apart
      have ep : ps[i]'hi = p := by rw [List.getElem?_eq_getElem hi] at hp; exact Option.some.inj hp
      have eq : ps[j]'hj = q := by rw [List.getElem?_eq_getElem hj] at hq; exact Option.some.inj hq
      rcases Nat.lt_or_gt_of_ne hne with hlt | hlt
      · exact hpair i j hi hj hlt (by rw [ep]; exact hp0) (by rw [eq]; exact hq0) (by rw [ep, eq]; exact e1)
      · exact hpair j i hj hi hlt (by rw [eq]; exact hq0) (by rw [ep]; exact hp0) (by rw [ep, eq]; exact e1.symm)

/-- One store into a row of its own. -/
theorem own_set {base e g n cap k : Nat} {w : World} {xs : List Value} {u : Value} (h : w.ownsRow base e 1 (.slice (some ⟨g, 0, none⟩) n cap) n xs) (_ : k < n) : (w.setCell ⟨g, k, none⟩ u).ownsRow base e 1 (.slice (some ⟨g, 0, none⟩) n cap) n (xs.set k u) := by
  have hlen := h.1
  rcases h.2 with ⟨e0, _⟩ | ⟨g', cap', cur, e0, hb, hg, hn, hm, hs, ht⟩
  · cases e0
  · cases e0
    refine ⟨by rw [List.length_set]; exact hlen, .inr ⟨g, cap, cur.setIfInBounds k u, rfl, hb, ?_, hn, hm, by rw [Array.size_setIfInBounds]; exact hs, ?_⟩⟩
    · simp [World.setCell, Array.getElem?_modify, hg]
    · rw [Array.toList_setIfInBounds, ← ht]
      rw [List.take_set]

end Go.Proofs.Ytkajdhliejjohaa

namespace Go.Proofs.Ytkajdhliejjohaa
open Go.RowKit

theorem grownBy_refl (w : World) (r : Option Nat) : w.grownBy w r := ⟨rfl, rfl, rfl, Nat.le_refl _, fun _ _ _ => rfl⟩

/-- A whole list of bytes behind a row of one's own, and what else is as it was. -/
theorem app_moreG {w : World} {ops : Array Oper} {rest : List Oper} {o : Oper} {a : Act} {Q : Exit → Act → World → Prop} (hgd : o.guard = none) (s x : Operand)
    (ho : o.op = .call { callee := .builtin .append, args := #[s, x], argTypes := #[22, 22] }) (base : Nat) (ov : Value) (hs : a.eval s = ov) (os : List Int) (hown : w.ownsRow base 5 1 ov os.length (os.map mB)) (hbase : base ≤ w.heap.size)
    (sv : Value) (hx : a.eval x = sv) (xs : List Int) (hv : SlAt mB 0 0 w.heap.size w sv xs) (hlen : os.length + xs.length ≤ 1073741824)
    (h : ∀ v' w', w.grownBy w' ov.ownBlock → w'.ownsRow base 5 1 v' (os ++ xs).length ((os ++ xs).map mB) → v'.oneCell' = true → wpList Try.prog ops Q rest (a.put o.dst v') w') : wpList Try.prog ops Q (o :: rest) a w := by
  obtain ⟨i0, hi, hz0, hz1, hz2⟩ := info_parts Try.zinByte
  obtain ⟨sa, sc, rfl, hl, hc⟩ := hv
  cases sa with
  | none =>
    have h0 : xs.length = 0 := by
      by_cases q : 0 < xs.length
      · obtain ⟨b, off, e, -⟩ := hc q; simp at e
      · omega
    rw [h0] at hx
    refine wpList_append_none_c hgd s x 22 ho base 5 i0 1 Try.underlying22 hi _ os.length (os.map mB) hs hown sc hx (h _ w (grownBy_refl _ _) (by rw [List.eq_nil_of_length_eq_zero h0, List.append_nil]; exact hown) ?_)
    obtain ⟨oa, oc, rfl⟩ := own_is hown
    rfl
  | some ad =>
    refine wpList_append_own_at w hgd s x 22 ho base 5 i0 (.int .u8 0) 1 1 Try.underlying22 hi hz0 hz1 hz2 rfl (by decide) _ os.length (os.map mB) hs hown ad xs.length sc (xs.map mB) hx (by simp) ?_ ?_ (by unfold maxLen; omega) (by omega) hbase ?_
    · intro j u hu
      have hj : j < xs.length := by
        have := (List.getElem?_eq_some_iff.1 hu).1
        simpa using this
      obtain ⟨b, off, e, -, -, hcell⟩ := hc (by omega)
      simp only [Option.some.injEq] at e
      subst e
      rw [List.getElem?_map, getD_of_lt hj] at hu
      simp only [Option.map_some, Option.some.injEq] at hu
      subst hu
      have e3 : (⟨b, off, none⟩ : Addr).add j = ⟨b, off + j, none⟩ := by cases j <;> rfl
      rw [e3]
      exact hcell j hj
    · intro u hu
      obtain ⟨y, -, rfl⟩ := List.mem_map.1 hu
      rfl
    · intro v' w' h1 hg _ _
      have h2 : w'.ownsRow base 5 1 v' (os ++ xs).length ((os ++ xs).map mB) := by rw [List.length_append, List.map_append]; exact h1
      obtain ⟨oa, oc, rfl⟩ := own_is h2
      exact h _ w' hg h2 rfl

/-- ov is os: a row of one's own, or a whole one of which nothing more can be used. -/
def OwnC (lo : Nat) (w : World) (ov : Value) (os : List Int) : Prop := w.ownsRow lo 5 1 ov os.length (os.map mB) ∨ ∃ (g : Nat) (cur : Array Value) (fz : Nat × Nat), ov = .slice (some ⟨g, 0, none⟩) os.length os.length ∧ lo ≤ g ∧ w.heap[g]? = some (.cells cur 5 fz) ∧ cur.toList = os.map mB
theorem OwnC.is {lo : Nat} {w : World} {ov : Value} {os : List Int} (h : OwnC lo w ov os) : ∃ oa oc, ov = .slice oa os.length oc := by
  rcases h with h | ⟨g, cur, fz, e, -⟩
  · exact own_is h
  · exact ⟨_, _, e⟩
theorem OwnC.blk {lo : Nat} {w : World} {ov : Value} {os : List Int} (h : OwnC lo w ov os) : ∀ k, ov.ownBlock = some k → lo ≤ k ∧ ∃ c fz, w.heap[k]? = some (.cells c 5 fz) := by
  intro k hk
  rcases h with h | ⟨g, cur, fz, rfl, h1, h2, -⟩
  · rcases h.2 with ⟨rfl, _⟩ | ⟨g, cap, cur, rfl, hb, hg, _⟩
    · simp [Value.ownBlock] at hk
    · obtain rfl : g = k := by simpa [Value.ownBlock] using hk
      exact ⟨hb, cur, _, hg⟩
  · obtain rfl : g = k := by simpa [Value.ownBlock] using hk
    exact ⟨h1, cur, fz, h2⟩
theorem OwnC.alloc {lo : Nat} {w : World} {ov : Value} {os : List Int} (h : OwnC lo w ov os) (o : Obj) : OwnC lo (w.alloc o) ov os := by
  rcases h with h | ⟨g, cur, fz, e, h1, h2, h3⟩
  · exact Or.inl (h.alloc o)
  · refine Or.inr ⟨g, cur, fz, e, h1, ?_, h3⟩
    rw [(below1 w o).block g (Array.getElem?_eq_some_iff.1 h2).1]
    exact h2
theorem grownBy_any {w w' : World} (h : w.grownBy w' none) (r : Option Nat) : w.grownBy w' r := ⟨h.os, h.tape, h.output, h.size, fun k hk _ => h.block k hk (by simp)⟩

/-- A byte behind such a row. -/
theorem app_oneC {w : World} {ops : Array Oper} {rest : List Oper} {o : Oper} {a : Act} {Q : Exit → Act → World → Prop} (hgd : o.guard = none) (s x : Operand)
    (ho : o.op = .call { callee := .builtin .append, args := #[s, x], argTypes := #[22, 22] }) (base : Nat) (ov : Value) (hs : a.eval s = ov) (os : List Int) (hown : OwnC base w ov os) (hbase : base ≤ w.heap.size)
    (b c : Nat) (hx : a.eval x = .slice (some ⟨b, 0, none⟩) 1 c) (y : Int) (hy : w.cell? ⟨b, 0, none⟩ = some (mB y)) (hlen : os.length + 1 ≤ 1073741824)
    (h : ∀ v' w', w.grownBy w' ov.ownBlock → w'.ownsRow base 5 1 v' (os ++ [y]).length ((os ++ [y]).map mB) → wpList Try.prog ops Q rest (a.put o.dst v') w') : wpList Try.prog ops Q (o :: rest) a w := by
  obtain ⟨i0, hi, hz0, hz1, hz2⟩ := info_parts Try.zinByte
  have hnews : ∀ (j : Nat) (u : Value), [mB y][j]? = some u → w.cell? ((⟨b, 0, none⟩ : Addr).add j) = some u := cell_1 hy
  have hone : ∀ u ∈ [mB y], u.oneCell' = true := fun u hu => by simp at hu; subst hu; rfl
  have e1 : (os ++ [y]).length = os.length + 1 := by simp
  rcases hown with hown | ⟨g, cur, fz, rfl, h1, h2, h3⟩
  · refine wpList_append_own_at w hgd s x 22 ho base 5 i0 (.int .u8 0) 1 1 Try.underlying22 hi hz0 hz1 hz2 rfl (by decide) _ os.length (os.map mB) hs hown ⟨b, 0, none⟩ 1 c [mB y] hx rfl hnews hone (by unfold maxLen; omega) (by omega) hbase ?_
    intro v' w' h1 hg _ _
    exact h v' w' hg (by rw [e1, List.map_append]; exact h1)
  · have hcl : cur.size = os.length := by have := congrArg List.length h3; simpa using this
    refine wpList_append_grows w hgd s x 22 ho 5 i0 (.int .u8 0) 1 1 Try.underlying22 hi hz0 hz1 hz2 rfl (by decide) (some ⟨g, 0, none⟩) os.length os.length (os.map mB) hs (fun e => by cases e) (by simp) ?_ ⟨b, 0, none⟩ 1 c [mB y] hx rfl hnews hone (by omega) (by unfold maxLen; omega) (by omega) ?_
    · intro bb eb j u hu
      cases eb
      have e3 : (⟨g, 0, none⟩ : Addr).add j = ⟨g, j, none⟩ := by cases j <;> simp [Addr.add]
      rw [e3]
      simp only [World.cell?, h2]
      rw [← h3] at hu
      simpa using hu
    · intro v' w' h4 h5
      refine h v' w' (grownBy_any h5 _) ?_
      rw [e1, List.map_append]
      exact own_low h4 hbase

/-- The encoder in the box B has gathered os. -/
def EncAt (lo B : Nat) (w : World) (os : List Int) : Prop := lo ≤ B ∧ ∃ ov, Boxed w B 70 ov ∧ w.ownsRow lo 5 1 ov os.length (os.map mB)
/-- The same, ahead of the first byte that is put. -/
def EncAny (lo B : Nat) (w : World) (os : List Int) : Prop := lo ≤ B ∧ ∃ ov, Boxed w B 70 ov ∧ OwnC lo w ov os
theorem EncAt.any {lo B : Nat} {w : World} {os : List Int} (h : EncAt lo B w os) : EncAny lo B w os := by
  obtain ⟨hB, ov, h1, h2⟩ := h
  exact ⟨hB, ov, h1, Or.inl h2⟩
/-- Lists that aren't the encoder's are as they were. -/
def Keep (t : TypeId) (w w' : World) : Prop := ∀ (k : Nat) (c : Array Value), w.heap[k]? = some (Obj.cells c t (0, 0)) → w'.heap[k]? = w.heap[k]?
theorem Keep.refl (t : TypeId) (w : World) : Keep t w w := fun _ _ _ => rfl
theorem Keep.trans {t : TypeId} {a b c : World} (h : Keep t a b) (k : Keep t b c) : Keep t a c := fun i x hx => (k i x ((h i x hx).trans hx)).trans (h i x hx)

/-- The bytes xs, which lie in V, behind those of the encoder. -/
theorem enc_app {lo B : Nat} {t : TypeId} {w V w3 : World} {ov v3 : Value} {os : List Int} {zs : List Int} (hB : lo ≤ B) (hbx : Boxed w B 70 ov) (hown : OwnC lo w ov os) (hV : w.grownBy V none)
    (hg : V.grownBy w3 ov.ownBlock) (h3 : w3.ownsRow lo 5 1 v3 zs.length (zs.map mB)) (t1 : t ≠ 5) (t2 : t ≠ 70) :
    Boxed w3 B 70 ov ∧ EncAt lo B (w3.setCell ⟨B, 0, none⟩ v3) zs ∧ Below lo w (w3.setCell ⟨B, 0, none⟩ v3) ∧ Keep t w (w3.setCell ⟨B, 0, none⟩ v3) := by
  have hbV : Boxed V B 70 ov := hbx.kept hV (by simp)
  have hnr : some B ≠ ov.ownBlock := fun e => by
    obtain ⟨-, c, fz, hc⟩ := hown.blk B e.symm
    rw [show w.heap[B]? = _ from hbx] at hc
    simp at hc
  have hb3 : Boxed w3 B 70 ov := hbV.kept hg hnr
  have hBl := hbx.lt
  refine ⟨hb3, ⟨hB, v3, hb3.set v3, h3.kept (grownBy_setCell' w3 B v3) (.inr (hb3.not_row (by decide) h3).symm)⟩, ?_, ?_⟩
  · have b1 : Below lo w V := ⟨hV.os, hV.tape, hV.output, hV.size, fun k hk => hV.block k (by omega) (by simp)⟩
    have b2 : Below lo w w3 := b1.grown hg (by have := hV.size; omega) (fun j ej => (hown.blk j ej).1)
    exact bput b2 hB v3
  · intro k c hk
    have hkl : k < w.heap.size := (Array.getElem?_eq_some_iff.1 hk).1
    have e1 : V.heap[k]? = w.heap[k]? := hV.block k hkl (by simp)
    have hne : some k ≠ ov.ownBlock := fun e => by
      obtain ⟨-, c', fz, hc⟩ := hown.blk k e.symm
      rw [hk] at hc
      simp at hc
      exact t1 hc.2.1
    have e2 : w3.heap[k]? = V.heap[k]? := hg.block k (Nat.lt_of_lt_of_le hkl hV.size) hne
    have hkB : k ≠ B := fun e => by
      subst e
      rw [show w.heap[k]? = _ from hbx] at hk
      simp at hk
      exact t2 hk.2.symm
    rw [Below.heap_setCell _ _ _ _ (by exact hkB), e2, e1]

theorem app1_len (ts : List Int) (x : Int) : (ts ++ [x]).length = ts.length + 1 := by simp
theorem lit_cell (w : World) (x : Int) : (w.alloc (.cells #[.int .u8 x] 5)).cell? ⟨w.heap.size, 0, none⟩ = some (mB x) := (Boxed.new w 5 (.int .u8 x)).cell

theorem or128 (n : Int) : bits .or .u8 (n % 256) 128 = n % 128 + 128 := by
  have e0 : ∀ x : Fin 256, (BitVec.ofNat 8 x.val ||| 128#8).toNat = x.val % 128 + 128 := by decide +kernel
  have e1 : (BitVec.ofInt 8 (n % 256)) = BitVec.ofNat 8 (n % 256).toNat := by
    apply BitVec.eq_of_toNat_eq
    rw [BitVec.toNat_ofInt, BitVec.toNat_ofNat]
    omega
  have e2 := e0 ⟨(n % 256).toNat, by omega⟩
  show IntKind.u8.wrap ((BitVec.ofInt 8 (n % 256) ||| BitVec.ofInt 8 128).toNat : Int) = n % 128 + 128
  rw [e1, show BitVec.ofInt 8 128 = 128#8 from rfl, e2]
  show ((n % 256).toNat % 128 + 128 : Nat) % (256 : Int) = _
  omega

theorem vis_len : ∀ ns : List Int, (∀ x ∈ ns, x ≤ 9223372036854775807) → (ns.flatMap vi).length ≤ 9 * ns.length
  | [], _ => by simp
  | x :: r, h => by
    have h1 := vis_len r (fun y hy => h y (List.mem_cons_of_mem _ hy))
    have h2 := vi_len9 (h x (List.mem_cons_self ..))
    simp only [List.flatMap_cons, List.length_append, List.length_cons]
    omega
theorem flat_vi {ns : List Int} {k : Nat} (h : k < ns.length) : (ns.take (k + 1)).flatMap vi = (ns.take k).flatMap vi ++ vi (ns[k]?.getD 0) := by
  rw [List.take_add_one, List.flatMap_append, List.getElem?_eq_getElem h]
  simp
theorem in64_mem {ns : List Int} (h : ∀ i : Nat, In64 (ns[i]?.getD 0)) : ∀ x ∈ ns, x ≤ 9223372036854775807 := fun x hx => by
  obtain ⟨i, hi, rfl⟩ := List.getElem_of_mem hx
  have := (h i).2
  rw [List.getElem?_eq_getElem hi] at this
  exact this

set_option maxHeartbeats 4000000 in
set_option maxRecDepth 100000 in
theorem putVarints_any (lo B nb : Nat) (ns : List Int) (os : List Int) (w : World) (he : EncAny lo B w os) (hlo : lo ≤ w.heap.size) (hn : w.rowIs nb 3 ns.length (fun i => mI (ns[i]?.getD 0))) (h64 : ∀ i : Nat, In64 (ns[i]?.getD 0)) (hl : ns.length ≤ 16) (hl0 : 0 < ns.length) (hos : os.length ≤ 536870912) :
    Calls Try.prog 43 #[.pointer (some ⟨B, 0, none⟩), .slice (some ⟨nb, 0, none⟩) ns.length ns.length] w fun e w' => (∃ v, e = .returned v) ∧ EncAt lo B w' (os ++ ns.flatMap vi) ∧ Below lo w w' ∧ Keep 3 w w' := by
  have HE := hide he
  have HN := hide hn
  have H64 := hide h64
  clear he hn h64
  go_enter Try.func43, Try.ntmps43
  go_wp2_with fail
  go_loopw [8] (fun iv wr => ∃ k : Nat, k ≤ ns.length ∧ iv = .int .i64 k ∧ EncAny lo B wr (os ++ (ns.take k).flatMap vi) ∧ (0 < k → EncAt lo B wr (os ++ (ns.take k).flatMap vi)) ∧ Below lo w wr ∧ Keep 3 w wr) (fun iv _ => ns.length - (intOf iv).toNat)
  case atStart => exact ⟨0, Nat.zero_le _, rfl, by simpa using unhide HE, fun h => absurd h (Nat.lt_irrefl _), Below.refl _ _, Keep.refl _ _⟩
  case round =>
    obtain ⟨k, hk, rfl, henc, hat, hb, hkp⟩ := hrel
    have hz := hb.size
    by_cases hlt : k < ns.length
    · have hlt' : (k : Int) < (ns.length : Int) := by omega
      have hrow : wr.rowIs nb 3 ns.length (fun i => mI (ns[i]?.getD 0)) := by
        obtain ⟨c, hc, hr⟩ := unhide HN
        exact (unhide HN).of_block (hkp nb c hc)
      have hx := hrow.cell hlt
      unfold mI at hx
      have h64 := unhide H64 k
      have Hfl := hide (flat_vi hlt)
      have hln : ((ns.take k).flatMap vi).length ≤ 9 * 16 := by
        have h1 := vis_len (ns.take k) (fun x hx => in64_mem (unhide H64) x (List.mem_of_mem_take hx))
        rw [List.length_take] at h1
        omega
      have hln2 := vi_len9 h64.2
      have Henc := hide henc
      have Hkp := hide hkp
      clear hrow henc hkp hat
      generalize ns[k]?.getD 0 = n at *
      generalize (ns.take k).flatMap vi = gs at *
      obtain ⟨VV, hVV⟩ : ∃ VV, VV = wr := ⟨_, rfl⟩
      rw [← hVV] at hb hz Henc Hkp hx ⊢
      clear hVV
      go_wp2_with fail
      go_loopw [5] (fun nv wr => ∃ (m : Int) (ds : List Int), nv = .int .i64 m ∧ vi n = ds ++ vi m ∧ EncAny lo B wr (os ++ gs ++ ds) ∧ Below lo w wr ∧ Keep 3 w wr ∧ m ≤ 9223372036854775807 ∧ -9223372036854775808 ≤ m) (fun nv _ => (intOf nv).toNat)
      case atStart => exact ⟨n, [], rfl, rfl, by simpa using unhide Henc, hb, unhide Hkp, h64.2, h64.1⟩
      case round =>
        obtain ⟨m, ds, rfl, hds, henc, hb2, hkp2, hm1, hm0⟩ := hrel
        have hz2 := hb2.size
        have Hds := hide hds
        have hdl : ds.length ≤ 9 := by have := congrArg List.length hds; rw [List.length_append] at this; omega
        obtain ⟨hB, ov, hbx, hown⟩ := henc
        have Hbx := hide hbx
        have Hown := hide hown
        have Hkp2 := hide hkp2
        have c0 := hbx.cell
        have z0 := hbx.frozen
        obtain ⟨oa, oc, rfl⟩ := hown.is
        clear hbx hown hds hkp2
        have hol : (os ++ gs ++ ds).length + 1 ≤ 1073741824 := by simp only [List.length_append]; omega
        obtain ⟨ts, hts⟩ : ∃ ts, ts = os ++ gs ++ ds := ⟨_, rfl⟩
        rw [← hts] at Hown Hbx hol c0
        have Hts := hide hts
        clear hts
        by_cases hm : m < 128
        · have hm' : ¬ (128 : Int) ≤ m := by omega
          have HV := hide (vi_lo hm)
          go_wp2_with (at_builtin; refine app_oneC rfl _ _ rfl lo _ rfl ts (by exact (unhide Hown).alloc _) (by rw [sz_alloc]; omega) _ 1 rfl (m % 256) (by exact lit_cell _ _) hol ?_; intro v3 w3 hg3 ho3; obtain ⟨hb3, henc3, hbel3, hkeep3⟩ := enc_app (t := 3) hB (unhide Hbx) (unhide Hown) (World.grownBy_alloc _ _ _) hg3 ho3 (by decide) (by decide); have c3 := hb3.cell; have z3 := hb3.frozen; have He3 := hide henc3; have Hk3 := hide hkeep3; rw [app1_len] at ho3; obtain ⟨oa3, oc3, rfl⟩ := own_is ho3; clear hg3 ho3 hb3 henc3 hkeep3)
          have e2 : os ++ (ns.take (k + 1)).flatMap vi = ts ++ [m % 256] := by rw [unhide Hfl, unhide Hds, unhide HV, unhide Hts]; simp
          exact ⟨⟨k + 1, by omega, by go_num, by rw [e2]; exact (unhide He3).any, fun _ => by rw [e2]; exact unhide He3, hb2.trans hbel3, (unhide Hkp2).trans (unhide Hk3)⟩, by simp [intOf]; omega⟩
        · have hm' : (128 : Int) ≤ m := by omega
          have e1 := or128 m
          have HV := hide (vi_hi hm)
          go_wp2_with (at_builtin; refine app_oneC rfl _ _ rfl lo _ rfl ts (by exact (unhide Hown).alloc _) (by rw [sz_alloc]; omega) _ 1 rfl (m % 128 + 128) (by exact lit_cell _ _) hol ?_; intro v3 w3 hg3 ho3; obtain ⟨hb3, henc3, hbel3, hkeep3⟩ := enc_app (t := 3) hB (unhide Hbx) (unhide Hown) (World.grownBy_alloc _ _ _) hg3 ho3 (by decide) (by decide); have c3 := hb3.cell; have z3 := hb3.frozen; have He3 := hide henc3; have Hk3 := hide hkeep3; rw [app1_len] at ho3; obtain ⟨oa3, oc3, rfl⟩ := own_is ho3; clear hg3 ho3 hb3 henc3 hkeep3)
          have e2 : ts ++ [m % 128 + 128] = os ++ gs ++ (ds ++ [m % 128 + 128]) := by rw [unhide Hts]; simp
          refine ⟨⟨m / 128, ds ++ [m % 128 + 128], rfl, by rw [unhide Hds, unhide HV]; simp, by rw [← e2]; exact (unhide He3).any, hb2.trans hbel3, (unhide Hkp2).trans (unhide Hk3), by omega, by omega⟩, by simp [intOf]; omega⟩
    · obtain rfl : k = ns.length := by omega
      have henc := hat hl0
      rw [List.take_length] at henc
      go_wp2
      go_end0
      exact ⟨⟨_, rfl⟩, henc, hb, hkp⟩

end Go.Proofs.Ytkajdhliejjohaa

namespace Go.Proofs.Ytkajdhliejjohaa
open Go.RowKit

theorem EncAt.alloc {lo B : Nat} {w : World} {os : List Int} (h : EncAt lo B w os) (o : Obj) : EncAt lo B (w.alloc o) os := by
  obtain ⟨hB, ov, h1, h2⟩ := h
  exact ⟨hB, ov, h1.alloc o, h2.alloc o⟩
theorem EncAny.alloc {lo B : Nat} {w : World} {os : List Int} (h : EncAny lo B w os) (o : Obj) : EncAny lo B (w.alloc o) os := by
  obtain ⟨hB, ov, h1, h2⟩ := h
  exact ⟨hB, ov, h1.alloc o, h2.alloc o⟩
theorem row1 (w : World) (x : Int) : (w.alloc (.cells #[.int .i64 x] 3)).rowIs w.heap.size 3 1 (fun i => mI ([x][i]?.getD 0)) :=
  World.rowIs_alloc w #[.int .i64 x] 3 _ (fun i hi => by
    have hi' : i < 1 := hi
    match i, hi' with
    | 0, _ => rfl)
theorem row2 (w : World) (x y : Int) : (w.alloc (.cells #[.int .i64 x, .int .i64 y] 3)).rowIs w.heap.size 3 2 (fun i => mI ([x, y][i]?.getD 0)) :=
  World.rowIs_alloc w #[.int .i64 x, .int .i64 y] 3 _ (fun i hi => by
    have hi' : i < 2 := hi
    match i, hi' with
    | 0, _ => rfl
    | 1, _ => rfl)
theorem in64_1 {x : Int} (h : In64 x) : ∀ i : Nat, In64 ([x][i]?.getD 0) := fun i => by
  match i with
  | 0 => exact h
  | i + 1 => simp [In64]
theorem in64_2 {x y : Int} (h : In64 x) (k : In64 y) : ∀ i : Nat, In64 ([x, y][i]?.getD 0) := fun i => by
  match i with
  | 0 => exact h
  | 1 => exact k
  | i + 2 => simp [In64]
theorem flat1 (x : Int) : [x].flatMap vi = vi x := by simp
theorem flat2 (x y : Int) : [x, y].flatMap vi = vi x ++ vi y := by simp

/-- One number, two numbers. -/
theorem put1_any (lo B nb : Nat) (x : Int) (os : List Int) (w : World) (he : EncAny lo B w os) (hlo : lo ≤ w.heap.size) (h64 : In64 x) (hos : os.length ≤ 536870912) (hnb : nb = w.heap.size) :
    Calls Try.prog 43 #[.pointer (some ⟨B, 0, none⟩), .slice (some ⟨nb, 0, none⟩) 1 1] (w.alloc (.cells #[.int .i64 x] 3)) fun e w' => (∃ v, e = .returned v) ∧ EncAt lo B w' (os ++ vi x) ∧ Below lo w w' := by
  subst hnb
  refine (putVarints_any lo B w.heap.size [x] os (w.alloc (.cells #[.int .i64 x] 3)) (he.alloc _) (by rw [sz_alloc]; omega) (row1 w x) (in64_1 h64) (by simp) (by simp) hos).mono ?_
  rintro e w' ⟨h1, h2, h3, -⟩
  rw [flat1] at h2
  exact ⟨h1, h2, ((Below.refl lo w).alloc hlo _).trans h3⟩
theorem put2_any (lo B nb : Nat) (x y : Int) (os : List Int) (w : World) (he : EncAny lo B w os) (hlo : lo ≤ w.heap.size) (h64 : In64 x) (k64 : In64 y) (hos : os.length ≤ 536870912) (hnb : nb = w.heap.size) :
    Calls Try.prog 43 #[.pointer (some ⟨B, 0, none⟩), .slice (some ⟨nb, 0, none⟩) 2 2] (w.alloc (.cells #[.int .i64 x, .int .i64 y] 3)) fun e w' => (∃ v, e = .returned v) ∧ EncAt lo B w' (os ++ (vi x ++ vi y)) ∧ Below lo w w' := by
  subst hnb
  refine (putVarints_any lo B w.heap.size [x, y] os (w.alloc (.cells #[.int .i64 x, .int .i64 y] 3)) (he.alloc _) (by rw [sz_alloc]; omega) (row2 w x y) (in64_2 h64 k64) (by simp) (by simp) hos).mono ?_
  rintro e w' ⟨h1, h2, h3, -⟩
  rw [flat2] at h2
  exact ⟨h1, h2, ((Below.refl lo w).alloc hlo _).trans h3⟩

theorem SlAt.under {α : Type} {mk : α → Value} {d : α} {lo n m : Nat} {w w' : World} {v : Value} {xs : List α} (h : SlAt mk d lo n w v xs) (hb : Below m w w') (hm : n ≤ m) : SlAt mk d lo n w' v xs := h.same (Same.of_below hb hm)

set_option maxHeartbeats 4000000 in
set_option maxRecDepth 100000 in
theorem putLine_any (lo B : Nat) (v : Value) (x os : List Int) (w : World) (he : EncAt lo B w os) (hlo : lo ≤ w.heap.size) (hv : SlAt mB 0 0 lo w v x) (hx : x.length ≤ 268435456) (hos : os.length ≤ 268435456) :
    Calls Try.prog 44 #[.pointer (some ⟨B, 0, none⟩), v] w fun e w' => (∃ v, e = .returned v) ∧ EncAt lo B w' (os ++ (vi x.length ++ x)) ∧ Below lo w w' := by
  have HE := hide he
  have HV := hide hv
  obtain ⟨a, cap, rfl, -, -⟩ := hv
  clear he
  go_enter Try.func44, Try.ntmps44
  go_wp2_with fail
  refine (put1_any lo B _ x.length os w (unhide HE).any hlo ⟨by omega, by omega⟩ (by omega) rfl).mono ?_
  rintro e w1 ⟨⟨v1, rfl⟩, henc, hb1⟩
  have hz1 := hb1.size
  have hvl := vi_len9 (n := (x.length : Int)) (by omega)
  obtain ⟨ts, hts⟩ : ∃ ts, ts = os ++ vi x.length := ⟨_, rfl⟩
  rw [← hts] at henc
  have htl : ts.length + x.length ≤ 1073741824 := by rw [hts, List.length_append]; omega
  have Hts := hide hts
  obtain ⟨hB, ov, hbx, hown⟩ := henc
  have Hbx := hide hbx
  have Hown := hide hown
  have c0 := hbx.cell
  have HV1 := hide (((unhide HV).under hb1 (Nat.le_refl _)).mono (Nat.le_refl _) (show lo ≤ w1.heap.size by omega))
  obtain ⟨oa, oc, rfl⟩ := own_is hown
  clear hbx hown hts
  go_wp2_with (at_builtin; refine app_moreG rfl _ _ rfl lo _ rfl ts (by exact unhide Hown) (by omega) _ rfl x (by exact unhide HV1) htl ?_; intro v3 w3 hg3 ho3 hoc3; obtain ⟨hb3, henc3, hbel3, -⟩ := enc_app (t := 3) hB (unhide Hbx) (Or.inl (unhide Hown)) (grownBy_refl _ _) hg3 ho3 (by decide) (by decide); have c3 := hb3.cell; have z3 := hb3.frozen; have He3 := hide henc3; rw [List.length_append] at ho3; obtain ⟨oa3, oc3, rfl⟩ := own_is ho3; clear hg3 ho3 hb3 henc3)
  go_end0
  have e1 : os ++ (vi x.length ++ x) = ts ++ x := by rw [unhide Hts, List.append_assoc]
  rw [e1]
  exact ⟨⟨_, rfl⟩, unhide He3, hb1.trans hbel3⟩

/-- The way from each number to the next. -/
def dst : Int → List Int → List Int
  | _, [] => []
  | b, p :: r => vi (p - b) ++ dst p r

theorem dst_drop {b : Int} {ps : List Int} {k : Nat} (h : k < ps.length) : dst b (ps.drop k) = vi (ps[k]?.getD 0 - b) ++ dst (ps[k]?.getD 0) (ps.drop (k + 1)) := by
  rw [List.drop_eq_getElem_cons h, List.getElem?_eq_getElem h]
  rfl
/-- Numbers that are not too great. -/
def Mid (x : Int) : Prop := 0 ≤ x ∧ x ≤ 1099511627776
theorem dst_len : ∀ (ps : List Int) (b : Int), 0 ≤ b → (∀ x ∈ ps, Mid x) → (dst b ps).length ≤ 9 * ps.length
  | [], _, _, _ => by simp [dst]
  | p :: r, b, hb, h => by
    have hp := h p (List.mem_cons_self ..)
    have h1 := dst_len r p hp.1 (fun y hy => h y (List.mem_cons_of_mem _ hy))
    have h2 := vi_len9 (n := p - b) (by have := hp.2; omega)
    simp only [dst, List.length_append, List.length_cons]
    omega

set_option maxHeartbeats 4000000 in
set_option maxRecDepth 100000 in
theorem putDistances_any (lo B : Nat) (v : Value) (b : Int) (ps os : List Int) (w : World) (he : EncAt lo B w os) (hlo : lo ≤ w.heap.size) (hv : SlAt mI 0 0 lo w v ps) (hb0 : Mid b) (hps : ∀ x ∈ ps, Mid x) (hl : ps.length ≤ 1048576) (hos : os.length ≤ 268435456) :
    Calls Try.prog 45 #[.pointer (some ⟨B, 0, none⟩), .int .i64 b, v] w fun e w' => (∃ v, e = .returned v) ∧ EncAt lo B w' (os ++ dst b ps) ∧ Below lo w w' := by
  have HE := hide he
  have HV := hide hv
  have HP := hide hps
  obtain ⟨a, cap, rfl, -, -⟩ := hv
  clear he hps
  go_enter Try.func45, Try.ntmps45
  go_wp2_with fail
  go_loopw [1, 10] (fun bv iv wr => ∃ (k : Nat) (c : Int) (ds : List Int), k ≤ ps.length ∧ iv = .int .i64 k ∧ bv = .int .i64 c ∧ Mid c ∧ dst b ps = ds ++ dst c (ps.drop k) ∧ EncAt lo B wr (os ++ ds) ∧ Below lo w wr) (fun _ iv _ => ps.length - (intOf iv).toNat)
  case atStart => exact ⟨0, b, [], Nat.zero_le _, rfl, rfl, hb0, rfl, by simpa using unhide HE, Below.refl _ _⟩
  case round =>
    obtain ⟨k, c, ds, hk, rfl, rfl, hc, hds, henc, hb⟩ := hrel
    have hz := hb.size
    have hdl : ds.length ≤ 9 * 1048576 := by
      have h1 := dst_len ps b hb0.1 (unhide HP)
      rw [hds, List.length_append] at h1
      omega
    have Hds := hide hds
    have Henc := hide henc
    clear hds henc
    by_cases hlt : k < ps.length
    · have hlt' : (k : Int) < (ps.length : Int) := by omega
      obtain ⟨_, _, e, -, hcc⟩ := (unhide HV).under hb (Nat.le_refl _)
      cases e
      obtain ⟨b2, off, rfl, -, -, hcell⟩ := hcc (by omega)
      have hx := hcell k hlt
      unfold mI at hx
      have hm : Mid (ps[k]?.getD 0) := unhide HP _ (by rw [List.getElem?_eq_getElem hlt]; exact List.getElem_mem hlt)
      have Hdd := hide (dst_drop (b := c) hlt)
      clear hcell hcc
      generalize ps[k]?.getD 0 = p at *
      unfold Mid at hc hm
      go_wp2_with fail
      refine (put1_any lo B _ (p - c) (os ++ ds) wr (unhide Henc).any (by omega) ⟨by omega, by omega⟩ (by rw [List.length_append]; omega) rfl).mono ?_
      rintro e w1 ⟨⟨v1, rfl⟩, henc1, hb1⟩
      have He1 := hide henc1
      clear henc1
      go_wp2
      go_roundw
      case rel => exact ⟨k + 1, p, ds ++ vi (p - c), by omega, by go_num, rfl, hm, by rw [unhide Hds, unhide Hdd, List.append_assoc], by rw [← List.append_assoc]; exact unhide He1, hb.trans hb1⟩
      case measure => simp [intOf]; omega
    · obtain rfl : k = ps.length := by omega
      have e1 : dst b ps = ds := by rw [unhide Hds, List.drop_length]; simp [dst]
      have Hf : Hid (EncAt lo B wr (os ++ dst b ps)) := by rw [e1]; exact unhide Henc
      clear e1
      go_wp2
      go_end0
      exact ⟨⟨_, rfl⟩, unhide Hf, hb⟩

theorem lit_four {w : World} {x y z t : Int} : SlAt mB 0 0 (w.alloc (.cells #[.int .u8 x, .int .u8 y, .int .u8 z, .int .u8 t] 5)).heap.size (w.alloc (.cells #[.int .u8 x, .int .u8 y, .int .u8 z, .int .u8 t] 5)) (.slice (some ⟨w.heap.size, 0, none⟩) 4 4) [x, y, z, t] :=
  own_rdB (base := w.heap.size) (n := 4) (World.ownsRow_lit w #[.int .u8 x, .int .u8 y, .int .u8 z, .int .u8 t] 4 (Nat.le_refl _) (by unfold maxLen; omega) rfl) (by unfold maxLen; omega)

set_option maxHeartbeats 4000000 in
set_option maxRecDepth 100000 in
theorem putChecksum_any (lo B : Nat) (os : List Int) (w : World) (he : EncAt lo B w os) (hlo : lo ≤ w.heap.size) (hbb : Bytes os) (hos : os.length ≤ 536870912) :
    Calls Try.prog 46 #[.pointer (some ⟨B, 0, none⟩)] w fun e w' => (∃ v, e = .returned v) ∧ EncAt lo B w' (os ++ ckB (ck os)) ∧ Below lo w w' := by
  obtain ⟨hB, ov, hbx, hown⟩ := he
  have Hbx := hide hbx
  have Hown := hide hown
  have HS := hide (own_rdB hown (by unfold maxLen; omega))
  have HBB := hide hbb
  have c0 := hbx.cell
  obtain ⟨oa, oc, rfl⟩ := own_is hown
  clear hbx hown hbb
  have hck := ck_bounds os
  go_enter Try.func46, Try.ntmps46
  go_wp2_with fail
  refine (checksum_any _ os _ _ (unhide HS) (unhide HBB)).mono ?_
  rintro e w1 ⟨rfl, rfl⟩
  obtain ⟨h, hh⟩ : ∃ h, h = ck os := ⟨_, rfl⟩
  rw [← hh] at hck ⊢
  have HH := hide hh
  clear hh
  go_wp2_with (at_builtin; refine app_moreG rfl _ _ rfl lo _ rfl os (by exact (unhide Hown).alloc _) (by rw [sz_alloc]; omega) _ rfl [h / 16777216, h / 65536 % 256, h / 256 % 256, h % 256] (by exact lit_four) (by simp; omega) ?_; intro v3 w3 hg3 ho3 hoc3; obtain ⟨hb3, henc3, hbel3, -⟩ := enc_app (t := 3) hB (unhide Hbx) (Or.inl (unhide Hown)) (World.grownBy_alloc _ _ _) hg3 ho3 (by decide) (by decide); have c3 := hb3.cell; have z3 := hb3.frozen; have He3 := hide henc3; rw [List.length_append] at ho3; obtain ⟨oa3, oc3, rfl⟩ := own_is ho3; clear hg3 ho3 hb3 henc3)
  go_end0
  rw [← unhide HH]
  exact ⟨⟨_, rfl⟩, unhide He3, hbel3⟩

end Go.Proofs.Ytkajdhliejjohaa

namespace Go.Proofs.Ytkajdhliejjohaa
open Go.RowKit

/-- What is left behind a list of n values: -1 where it does not reach. -/
def szR (left n : Int) : Int := if left < n then -1 else left - n

theorem szR_neg {left n : Int} (h : left < n) : szR left n = -1 := by unfold szR; rw [if_pos h]
theorem szR_pos {left n : Int} (h : n ≤ left) : szR left n = left - n := by unfold szR; rw [if_neg (by omega)]

/-- How many values a list of elements holds: the elements and the numbers of their sets. -/
def bulk : List El → Nat
  | [] => 0
  | x :: r => x.set.length + bulk r

theorem bulk_take_succ (xs : List El) (k : Nat) (h : k < xs.length) : bulk (xs.take (k + 1)) = bulk (xs.take k) + (xs[k]?.getD dE).set.length := by
  induction xs generalizing k with
  | nil => simp at h
  | cons x r ih =>
    cases k with
    | zero => simp [bulk]
    | succ k => simp only [List.take_succ_cons, bulk, List.getElem?_cons_succ]; rw [ih k (by simpa using h)]; omega

end Go.Proofs.Ytkajdhliejjohaa

namespace Go.Proofs.Ytkajdhliejjohaa
open Go.RowKit

theorem Try.zinIntS : (Try.prog.info? 25).map (fun i => (i.zero, i.size, i.bytes)) = some (some (.slice none 0 0), 1, 24) := by kernel_rfl

end Go.Proofs.Ytkajdhliejjohaa
