import Derived.Test.YtinhliecfjlocaaGreatPk4
import Derived.RangeFuncBox
import Derived.Test.YtinhliecfjlocaaGreatPk2
import Derived.Test.YtinhliecfjlocaaGreatPk1
import Derived.Test.YtinhliecfjlocaaGreatC5
import Derived.Laws.OwnMore
import Derived.Test.YtinhliecfjlocaaGreatPk3
namespace Go.Proofs.YtinhliecfjlocaaGreat
open Go.RowKit
theorem Boxed.under {w w' : World} {B m : Nat} {t : TypeId} {v : Value} (h : Boxed w B t v) (hb : Below m w w') (hm : B < m) : Boxed w' B t v := (hb.block B hm).trans h
structure Cl (α : Type) where
  v : Value
  xs : List α
  b : Nat
def Cl.ok {α : Type} (mk : α → Value) (d : α) (e : TypeId) (w : World) (p : Cl α) : Prop :=
  ∃ a cap, p.v = .slice a p.xs.length cap ∧ (p.xs.length ≤ cap ∧ cap ≤ maxLen) ∧ (0 < p.xs.length → ∃ off, a = some ⟨p.b, off, none⟩ ∧ (∃ c, w.heap[p.b]? = some (.cells c e (0, 0))) ∧ ∀ i : Nat, i < p.xs.length → w.cell? ⟨p.b, off + i, none⟩ = some (mk (p.xs[i]?.getD d)))
theorem Cl.ok.same {α : Type} {mk : α → Value} {d : α} {e : TypeId} {w w' : World} {p : Cl α} (h : p.ok mk d e w) (hs : 0 < p.xs.length → w'.heap[p.b]? = w.heap[p.b]?) : p.ok mk d e w' := by
  obtain ⟨a, cap, e1, hl, hc⟩ := h
  refine ⟨a, cap, e1, hl, fun hp => ?_⟩
  obtain ⟨off, e2, ⟨c, h1⟩, h2⟩ := hc hp
  exact ⟨off, e2, ⟨c, (hs hp).trans h1⟩, fun i hi => by rw [World.cell?_of_block (w := w) (a := ⟨p.b, off + i, none⟩) (hs hp)]; exact h2 i hi⟩
theorem Cl.ok.lt {α : Type} {mk : α → Value} {d : α} {e : TypeId} {w : World} {p : Cl α} (h : p.ok mk d e w) (hp : 0 < p.xs.length) : p.b < w.heap.size := by
  obtain ⟨a, cap, e1, hl, hc⟩ := h
  obtain ⟨off, e2, ⟨c, h1⟩, h2⟩ := hc hp
  exact (Array.getElem?_eq_some_iff.1 h1).1
theorem Cl.ok.below {α : Type} {mk : α → Value} {d : α} {e : TypeId} {m : Nat} {w w' : World} {p : Cl α} (h : p.ok mk d e w) (hb : Below m w w') (hm : w.heap.size ≤ m) : p.ok mk d e w' := h.same (fun hp => hb.block _ (by have := h.lt hp; omega))
theorem Cl.ok.at {α : Type} {mk : α → Value} {d : α} {e : TypeId} {w : World} {p : Cl α} (h : p.ok mk d e w) : SlAt mk d 0 w.heap.size w p.v p.xs := by
  obtain ⟨a, cap, e1, hl, hc⟩ := id h
  refine ⟨a, cap, e1, by omega, fun hp => ?_⟩
  obtain ⟨off, e2, -, h2⟩ := hc hp
  exact ⟨p.b, off, e2, Nat.zero_le _, h.lt hp, h2⟩
theorem Cl.ok.cap {α : Type} {mk : α → Value} {d : α} {e : TypeId} {w : World} {p : Cl α} (h : p.ok mk d e w) : CapOk p.v := by
  obtain ⟨a, cap, e1, hl, hc⟩ := h
  rw [e1]
  exact CapOk.mk hl.1 hl.2
theorem Cl.ok.foot {α : Type} {mk : α → Value} {d : α} {e : TypeId} {w : World} {p : Cl α} (h : p.ok mk d e w) : SlF mk d (fun k => 0 < p.xs.length ∧ k = p.b) w p.v p.xs := by
  obtain ⟨a, cap, e1, hl, hc⟩ := h
  by_cases hp : 0 < p.xs.length
  · refine ⟨p.b, p.b + 1, ⟨a, cap, e1, by omega, fun _ => ?_⟩, fun k h1 h2 => ⟨hp, by omega⟩⟩
    obtain ⟨off, e2, ⟨c, h1⟩, h2⟩ := hc hp
    exact ⟨p.b, off, e2, Nat.le_refl _, Nat.lt_succ_self _, ⟨c, e, h1⟩, h2⟩
  · exact ⟨0, 0, ⟨a, cap, e1, by omega, fun h => absurd h hp⟩, fun k h1 h2 => by omega⟩
theorem Cl.ok.one {α : Type} {mk : α → Value} {d : α} {e : TypeId} {w : World} {p : Cl α} (h : p.ok mk d e w) : p.v.oneCell' = true := by
  obtain ⟨a, cap, e1, -⟩ := h
  rw [e1]
  rfl
theorem own_cl {mk : Int → Value} {base e n : Nat} {w : World} {v : Value} {xs : List Int} (h : w.ownsRow base e 1 v n (xs.map mk)) : ∃ b, Cl.ok mk 0 e w ⟨v, xs, b⟩ ∧ (0 < xs.length → base ≤ b) := by
  have hlen := h.1
  rw [List.length_map, Nat.mul_one] at hlen
  rcases h.2 with ⟨rfl, hz⟩ | ⟨g, cap, cur, rfl, hbg, hg, hnc, hcm, hcs, htake⟩
  · exact ⟨0, ⟨none, 0, by show Value.slice none 0 0 = _; rw [hlen, hz], by show xs.length ≤ 0 ∧ _; exact ⟨by omega, Nat.zero_le _⟩, fun hp => by have : 0 < xs.length := hp; omega⟩, fun hp => by omega⟩
  · refine ⟨g, ⟨some ⟨g, 0, none⟩, cap, by rw [hlen], ⟨by show xs.length ≤ cap; omega, hcm⟩, fun hp => ⟨0, rfl, ⟨cur, hg⟩, fun i hi => ?_⟩⟩, fun _ => hbg⟩
    have hi' : i < xs.length := hi
    show w.cell? ⟨g, 0 + i, none⟩ = some (mk (xs[i]?.getD 0))
    rw [Nat.zero_add, h.cellAt i (by omega), List.getElem?_map, List.getElem?_eq_getElem hi']
    rfl
def ApartC {α : Type} (ps : List (Cl α)) : Prop := ps.Pairwise (fun p q => 0 < p.xs.length → 0 < q.xs.length → p.b ≠ q.b)
structure LL {α : Type} (mk : α → Value) (d : α) (e te : TypeId) (base : Nat) (w : World) (v : Value) (ps : List (Cl α)) : Prop where
  own : w.ownsRow base te 1 v ps.length (ps.map Cl.v)
  ok : ∀ p ∈ ps, p.ok mk d e w
  lo : ∀ p ∈ ps, 0 < p.xs.length → base ≤ p.b
  apart : ApartC ps
theorem LL.nil {α : Type} {mk : α → Value} {d : α} {e te : TypeId} {base : Nat} {w : World} : LL mk d e te base w (.slice none 0 0) [] := ⟨World.ownsRow_nil _ _ _ _, by simp, by simp, List.Pairwise.nil⟩
theorem LL.keep {α : Type} {mk : α → Value} {d : α} {e te : TypeId} {base m : Nat} {w w' : World} {v : Value} {ps : List (Cl α)} (h : LL mk d e te base w v ps) (hb : Below m w w') (hm : w.heap.size ≤ m) : LL mk d e te base w' v ps :=
  ⟨own_keep h.own hb hm, fun p hp => (h.ok p hp).below hb hm, h.lo, h.apart⟩
theorem LL.not_row {α : Type} {mk : α → Value} {d : α} {e te : TypeId} {base : Nat} {w : World} {v : Value} {ps : List (Cl α)} (hte : te ≠ e) (h : LL mk d e te base w v ps) {p : Cl α} {q : Cl α} (hq : q.ok mk d e w) (_ : p = q) (hp : 0 < q.xs.length) : some q.b ≠ v.ownBlock := by
  intro e1
  obtain ⟨a, cap, -, -, hc⟩ := hq
  obtain ⟨off, -, ⟨c, h1⟩, -⟩ := hc hp
  rcases h.own.2 with ⟨rfl, _⟩ | ⟨g, cap', cur, rfl, _, hgb, _⟩
  · simp [Value.ownBlock] at e1
  · obtain rfl : q.b = g := by simpa [Value.ownBlock] using e1
    rw [h1] at hgb
    simp at hgb
    exact hte hgb.2.symm
theorem pushd_alloc (w : World) (o : Obj) : Pushd w (w.alloc o) o := ⟨rfl, rfl, rfl, rfl⟩
theorem LL.app {α : Type} {mk : α → Value} {d : α} {e te : TypeId} {base : Nat} {w W w' : World} {v v' : Value} {ps : List (Cl α)} {p : Cl α} {o : Obj} (hte : te ≠ e) (h : LL mk d e te base w v ps) (hbase : base ≤ w.heap.size) (hp : p.ok mk d e w) (hplo : 0 < p.xs.length → base ≤ p.b)
    (hnew : ∀ q ∈ ps, 0 < q.xs.length → 0 < p.xs.length → q.b ≠ p.b) (hP : Pushd w W o) (h1 : w'.ownsRow base te 1 v' (ps.length + 1) (ps.map Cl.v ++ [p.v])) (hg : W.grownBy w' v.ownBlock) : LL mk d e te base w' v' (ps ++ [p]) ∧ Below base w w' := by
  have hk : ∀ q : Cl α, q.ok mk d e w → q.ok mk d e w' := fun q hq => by
    refine hq.same (fun hq0 => ?_)
    have hlt := hq.lt hq0
    rw [hg.block q.b (by rw [hP.size]; omega) (h.not_row hte hq rfl hq0), hP.old hlt]
  refine ⟨⟨by rw [List.length_append, List.map_append]; exact h1, fun q hq => ?_, fun q hq hq0 => ?_, ?_⟩, (hP.below.mono hbase).grown hg (by rw [hP.size]; omega) (fun k hk => (h.own.lt k hk).1)⟩
  · rcases List.mem_append.1 hq with hq | hq
    · exact hk q (h.ok q hq)
    · rw [List.mem_singleton] at hq
      subst hq
      exact hk q hp
  · rcases List.mem_append.1 hq with hq | hq
    · exact h.lo q hq hq0
    · rw [List.mem_singleton] at hq
      subst hq
      exact hplo hq0
  · refine List.pairwise_append.2 ⟨h.apart, List.pairwise_singleton _ _, fun q hq r hr => ?_⟩
    rw [List.mem_singleton] at hr
    subst hr
    exact hnew q hq
theorem LL.foot {α : Type} {mk : α → Value} {d : α} {e te : TypeId} {base : Nat} {w : World} {v : Value} {ps : List (Cl α)} (hte : te ≠ e) (h : LL mk d e te base w v ps) (hl : ps.length ≤ maxLen) : SsF mk d (Rng base w.heap.size) w v (ps.map Cl.xs) := by
  have hlen := h.own.1
  rcases h.own.2 with ⟨rfl, hz⟩ | ⟨g, cap, cur, rfl, hbg, hg, hnc, hcm, hcs, htake⟩
  · have : ps = [] := List.eq_nil_of_length_eq_zero hz
    subst this
    exact SsF.nil _ _ _ _ _ _ (Nat.zero_le _)
  · have hgl : g < w.heap.size := (h.own.lt g rfl).2
    have hget : ∀ i : Nat, i < ps.length → ∃ p, ps[i]? = some p ∧ p ∈ ps := fun i hi => ⟨ps[i], by simp [hi], List.getElem_mem hi⟩
    refine ⟨some ⟨g, 0, none⟩, cap, by rw [List.length_map], ⟨by rw [List.length_map]; exact hnc, hcm⟩, fun _ => ⟨g, 0, fun i => ((ps[i]?).map Cl.v).getD undef, fun i k => ∃ p, ps[i]? = some p ∧ 0 < p.xs.length ∧ k = p.b, rfl, ⟨hbg, hgl⟩, ⟨cur, te, hg⟩, fun i hi => ?_, fun i hi => ?_, fun i hi k hk => ?_, fun i j hi hj hne k hk hk' => ?_⟩⟩
    · rw [List.length_map] at hi
      obtain ⟨p, hp, -⟩ := hget i hi
      show w.cell? ⟨g, 0 + i, none⟩ = some (((ps[i]?).map Cl.v).getD undef)
      rw [Nat.zero_add, h.own.cellAt i (by omega), List.getElem?_map, hp]
      rfl
    · rw [List.length_map] at hi
      obtain ⟨p, hp, hm⟩ := hget i hi
      have e1 : ((ps[i]?).map Cl.v).getD undef = p.v := by rw [hp]; rfl
      have e2 : ((ps.map Cl.xs)[i]?).getD [] = p.xs := by rw [List.getElem?_map, hp]; rfl
      show SlF mk d _ w (((ps[i]?).map Cl.v).getD undef) (((ps.map Cl.xs)[i]?).getD []) ∧ CapOk (((ps[i]?).map Cl.v).getD undef)
      rw [e1, e2]
      exact ⟨(h.ok p hm).foot.mono (fun k hk => ⟨p, hp, hk.1, hk.2⟩), (h.ok p hm).cap⟩
    · obtain ⟨p, hp, hp0, rfl⟩ := hk
      have hm : p ∈ ps := List.mem_of_getElem? hp
      refine ⟨⟨h.lo p hm hp0, (h.ok p hm).lt hp0⟩, fun e1 => ?_⟩
      exact h.not_row hte (h.ok p hm) rfl hp0 (by rw [e1]; rfl)
    · obtain ⟨p, hp, hp0, rfl⟩ := hk
      obtain ⟨q, hq, hq0, e1⟩ := hk'
      rw [List.length_map] at hi hj
      have hpair := List.pairwise_iff_getElem.1 h.apart
      have ep : ps[i]'hi = p := by rw [List.getElem?_eq_getElem hi] at hp; exact Option.some.inj hp
      have eq : ps[j]'hj = q := by rw [List.getElem?_eq_getElem hj] at hq; exact Option.some.inj hq
      rcases Nat.lt_or_gt_of_ne hne with hlt | hlt
      · exact hpair i j hi hj hlt (by rw [ep]; exact hp0) (by rw [eq]; exact hq0) (by rw [ep, eq]; exact e1)
      · exact hpair j i hj hi hlt (by rw [eq]; exact hq0) (by rw [ep]; exact hp0) (by rw [ep, eq]; exact e1.symm)
theorem own_set {base e g n cap k : Nat} {w : World} {xs : List Value} {u : Value} (h : w.ownsRow base e 1 (.slice (some ⟨g, 0, none⟩) n cap) n xs) (_ : k < n) : (w.setCell ⟨g, k, none⟩ u).ownsRow base e 1 (.slice (some ⟨g, 0, none⟩) n cap) n (xs.set k u) := by
  have hlen := h.1
  rcases h.2 with ⟨e0, _⟩ | ⟨g', cap', cur, e0, hb, hg, hn, hm, hs, ht⟩
  · cases e0
  · cases e0
    refine ⟨by rw [List.length_set]; exact hlen, .inr ⟨g, cap, cur.setIfInBounds k u, rfl, hb, ?_, hn, hm, by rw [Array.size_setIfInBounds]; exact hs, ?_⟩⟩
    · simp [World.setCell, Array.getElem?_modify, hg]
    · rw [Array.toList_setIfInBounds, ← ht]
      rw [List.take_set]
theorem row_lt {w : World} {B m : Nat} {t : TypeId} {F : Nat → Value} (hr : w.rowIs B t m F) : B < w.heap.size := by
  obtain ⟨c, hc, -⟩ := hr
  rcases Nat.lt_or_ge B w.heap.size with h | h
  · exact h
  · rw [Array.getElem?_eq_none h] at hc; cases hc
def inPs (set : List Int) (b : Int) : Prop := ∃ i : Nat, 2 * i + 1 < set.length ∧ set[2 * i]?.getD 0 ≤ b ∧ b ≤ set[2 * i + 1]?.getD 0
set_option maxHeartbeats 4000000 in
set_option maxRecDepth 100000 in
theorem l1has_any (v : Value) (set : List Int) (b : Int) (w : World) (hv : SlAt mI 0 0 w.heap.size w v set) (hl : set.length ≤ 1048576) :
    Calls Tryz.prog 73 #[v, .int .i64 b] w fun e w' => RetB e (inPs set b) ∧ w' = w := by
  obtain ⟨a, cap, rfl, -, hc⟩ := hv
  go_enter Tryz.func73, Tryz.ntmps73
  go_wp2_with fail
  go_loop [5] (fun iv => ∃ k : Nat, 2 * k ≤ set.length + 1 ∧ iv = .int .i64 ((2 * k : Nat) : Int) ∧ ∀ j : Nat, j < k → ¬ (set[2 * j]?.getD 0 ≤ b ∧ b ≤ set[2 * j + 1]?.getD 0)) (fun iv => set.length + 2 - (intOf iv).toNat)
  case atStart => exact ⟨0, Nat.zero_le _, rfl, fun j hj => absurd hj (Nat.not_lt_zero _)⟩
  case round =>
    obtain ⟨k, hk, rfl, hno⟩ := hrel
    have Hno := hide hno
    clear hno
    by_cases hlt : 2 * k + 1 < set.length
    · have h1' : ((2 * k : Nat) : Int) + 1 < (set.length : Int) := by omega
      have h2' : ((2 * k : Nat) : Int) < (set.length : Int) := by omega
      have h3' : (0 : Int) ≤ ((2 * k : Nat) : Int) + 1 := by omega
      obtain ⟨g, off, rfl, -, -, hcell⟩ := hc (by omega)
      have hx : w.cell? ⟨g, off + 2 * k, none⟩ = some (.int .i64 (set[2 * k]?.getD 0)) := hcell _ (by omega)
      have hy : w.cell? ⟨g, off + (2 * k + 1), none⟩ = some (.int .i64 (set[2 * k + 1]?.getD 0)) := hcell _ (by omega)
      have Hyes : Hid (set[2 * k]?.getD 0 ≤ b → b ≤ set[2 * k + 1]?.getD 0 → inPs set b) := fun q1 q2 => ⟨k, hlt, q1, q2⟩
      have Hnx : Hid (¬ (set[2 * k]?.getD 0 ≤ b ∧ b ≤ set[2 * k + 1]?.getD 0) → ∀ j : Nat, j < k + 1 → ¬ (set[2 * j]?.getD 0 ≤ b ∧ b ≤ set[2 * j + 1]?.getD 0)) := fun h j hj => by
        by_cases e : j = k
        · subst e; exact h
        · exact unhide Hno j (by omega)
      clear hcell hc Hno
      generalize set[2 * k]?.getD 0 = x at *
      generalize set[2 * k + 1]?.getD 0 = y at *
      have hk2 : 2 * (k + 1) ≤ set.length + 1 := by omega
      have hkm : set.length + 2 - 2 * (k + 1) < set.length + 2 - 2 * k := by omega
      have ek : ((2 * (k + 1) : Nat) : Int) = ((2 * k : Nat) : Int) + 2 := by omega
      have EK := hide ek
      have hkb : 2 * k ≤ 1048576 := by omega
      clear ek hlt hk
      generalize hm : 2 * k = m at *
      have HM := hide hm
      clear hm
      by_cases g1 : x ≤ b
      · by_cases g2 : b ≤ y
        · have HQ := hide (unhide Hyes g1 g2)
          clear Hyes Hnx
          go_wp2
          go_ret
          exact ⟨RetB.yes (unhide HQ), rfl⟩
        · have HQ := hide (unhide Hnx (fun h => g2 h.2))
          clear Hyes Hnx
          go_wp2
          go_round
          case rel => exact ⟨k + 1, hk2, by rw [unhide EK], unhide HQ⟩
          case measure => simp [intOf]; omega
      · have HQ := hide (unhide Hnx (fun h => g1 h.1))
        clear Hyes Hnx
        go_wp2
        go_round
        case rel => exact ⟨k + 1, hk2, by rw [unhide EK], unhide HQ⟩
        case measure => simp [intOf]; omega
    · have h1' : ¬ ((2 * k : Nat) : Int) + 1 < (set.length : Int) := by omega
      have hkb : 2 * k ≤ 1048577 := by omega
      have HQ : Hid (¬ inPs set b) := fun ⟨i, hi, h2⟩ => unhide Hno i (by omega) h2
      generalize hm : 2 * k = m at *
      clear hm
      go_wp2
      go_ret
      exact ⟨RetB.no (unhide HQ), rfl⟩
theorem ints_slAt {N : Nat} {w : World} {v : Value} {xs : List Int} (h : IntsAt 0 N w v xs) : SlAt mI 0 0 N w v xs := by
  obtain ⟨a, c, e, h1, -, h2⟩ := h
  exact ⟨a, c, e, h1, h2⟩
structure Obk (g : Nat) (w w' : World) : Prop where
  os : w'.os = w.os
  tape : w'.tape = w.tape
  output : w'.output = w.output
  size : w'.heap.size = w.heap.size
  block : ∀ k, k ≠ g → w'.heap[k]? = w.heap[k]?
theorem Obk.trans {g : Nat} {a b c : World} (h : Obk g a b) (k : Obk g b c) : Obk g a c := ⟨k.os.trans h.os, k.tape.trans h.tape, k.output.trans h.output, k.size.trans h.size, fun i hi => (k.block i hi).trans (h.block i hi)⟩
theorem Obk.refl (g : Nat) (w : World) : Obk g w w := ⟨rfl, rfl, rfl, rfl, fun _ _ => rfl⟩
theorem obk_put {w : World} {b : Nat} (o : Nat) (u : Value) : Obk b w (w.setCell ⟨b, o, none⟩ u) := ⟨rfl, rfl, rfl, by simp [World.setCell], fun k hk => Below.heap_setCell _ _ _ _ (by show k ≠ b; exact hk)⟩
theorem Obk.drew {g : Nat} {a b : World} (h : Obk g a b) : Obk g a b.drew := ⟨h.os, h.tape, h.output, h.size, h.block⟩
structure FrO (O : Nat → Prop) (w w' : World) : Prop where
  os : w'.os = w.os
  tape : w'.tape = w.tape
  output : w'.output = w.output
  size : w.heap.size ≤ w'.heap.size
  block : ∀ k, ¬ O k → w'.heap[k]? = w.heap[k]?
theorem FrO.refl (O : Nat → Prop) (w : World) : FrO O w w := ⟨rfl, rfl, rfl, Nat.le_refl _, fun _ _ => rfl⟩
theorem FrO.trans {O : Nat → Prop} {a b c : World} (h : FrO O a b) (k : FrO O b c) : FrO O a c := ⟨k.os.trans h.os, k.tape.trans h.tape, k.output.trans h.output, Nat.le_trans h.size k.size, fun i hi => (k.block i hi).trans (h.block i hi)⟩
theorem FrO.mono {O O' : Nat → Prop} {a b : World} (h : FrO O a b) (hO : ∀ k, O k → O' k) : FrO O' a b := ⟨h.os, h.tape, h.output, h.size, fun k hk => h.block k (fun e => hk (hO k e))⟩
theorem FrO.drew {O : Nat → Prop} {a b : World} (h : FrO O a b) : FrO O a b.drew := ⟨h.os, h.tape, h.output, h.size, h.block⟩
theorem fro_of {O : Nat → Prop} {a b : World} (h : Below a.heap.size a b) (hO : ∀ k, a.heap.size ≤ k → O k) : FrO O a b := ⟨h.os, h.tape, h.output, h.size, fun k hk => h.block k (by apply Nat.lt_of_not_le; intro e; exact hk (hO k e))⟩
theorem Obk.fro {O : Nat → Prop} {g : Nat} {a b : World} (h : Obk g a b) (hO : O g) : FrO O a b := ⟨h.os, h.tape, h.output, by rw [h.size]; exact Nat.le_refl _, fun k hk => h.block k (fun e => hk (e ▸ hO))⟩
theorem FrO.below {O : Nat → Prop} {a b : World} {m : Nat} (h : FrO O a b) (hO : ∀ k, k < m → ¬ O k) : Below m a b := ⟨h.os, h.tape, h.output, h.size, fun k hk => h.block k (hO k hk)⟩
theorem own_blk {base e sz n : Nat} {w w' : World} {v : Value} {xs : List Value} (h : w.ownsRow base e sz v n xs) (hs : ∀ q, v.ownBlock = some q → w'.heap[q]? = w.heap[q]?) : w'.ownsRow base e sz v n xs := by
  refine ⟨h.1, ?_⟩
  rcases h.2 with hn | ⟨g, cap, cur, rfl, hb, hg, rest⟩
  · exact .inl hn
  · exact .inr ⟨g, cap, cur, rfl, hb, (hs g rfl).trans hg, rest⟩
def Sk (O : Nat → Prop) (a b : Nat) : Nat → Prop := fun k => O k ∧ (k < a ∨ b ≤ k)
theorem Sk.sub {O : Nat → Prop} {a b : Nat} : ∀ k, Sk O a b k → O k := fun _ h => h.1
theorem Sk.top {O : Nat → Prop} {a b m : Nat} (hO : ∀ k, a ≤ k → O k) (h : a ≤ m) (h2 : b ≤ m) : ∀ k, m ≤ k → Sk O a b k := fun k hk => ⟨hO k (by omega), Or.inr (by omega)⟩
structure It where
  nl : Bool
  fi : List Nat
  la : List Nat
def It.sh (a : It) (c : Nat) : It := ⟨a.nl, a.fi.map (c + ·), a.la.map (c + ·)⟩
abbrev Lk := List Nat × List Nat
def shL (c : Nat) (ln : List Lk) : List Lk := ln.map (fun p => (p.1.map (c + ·), p.2.map (c + ·)))
def itCat (l r : It) : It := ⟨l.nl && r.nl, l.fi ++ (if l.nl then r.fi else []), (if r.nl then l.la else []) ++ r.la⟩
def itAlt (l r : It) : It := ⟨l.nl || r.nl, l.fi ++ r.fi, l.la ++ r.la⟩
def itRep (o : It) (mn : Int) : It := ⟨o.nl || decide (mn = 0), o.fi, o.la⟩
structure Ms where
  c : Nat
  st : List It
  ln : List Lk
  ss : List (List Int)
def oPush (s : Ms) (x : El) : Ms :=
  if x.kind = 0 then ⟨s.c, ⟨true, [], []⟩ :: s.st, s.ln, s.ss⟩
  else if x.kind = 1 then ⟨s.c + 1, ⟨false, [s.c], [s.c]⟩ :: s.st, s.ln, s.ss ++ [x.set]⟩ else
  match s.st with
  | [] => s
  | [o] => if x.kind = 4 then ⟨s.c, [itRep o x.mn], s.ln ++ [(o.la, o.fi)], s.ss⟩ else s
  | r :: l :: b => if x.kind = 4 then ⟨s.c, itRep r x.mn :: l :: b, s.ln ++ [(r.la, r.fi)], s.ss⟩
    else if x.kind = 2 then ⟨s.c, itCat l r :: b, s.ln ++ [(l.la, r.fi)], s.ss⟩ else ⟨s.c, itAlt l r :: b, s.ln, s.ss⟩
def oRun (s : Ms) : List El → Ms
  | [] => s
  | x :: r => oRun (oPush s x) r
theorem oRun_append (s : Ms) (a b : List El) : oRun s (a ++ b) = oRun (oRun s a) b := by
  induction a generalizing s with
  | nil => rfl
  | cons x r ih => simp [oRun, ih]
def SegO (L : List El) (n : Nat) (a : It) (ln : List Lk) (ss : List (List Int)) : Prop := ∀ s : Ms, oRun s L = ⟨s.c + n, a.sh s.c :: s.st, s.ln ++ shL s.c ln, s.ss ++ ss⟩
theorem SegO.one {L : List El} {n n' : Nat} {a a' : It} {ln ln' : List Lk} {ss ss' : List (List Int)} (h : SegO L n a ln ss) (k : SegO L n' a' ln' ss') : n = n' ∧ a.sh 0 = a'.sh 0 ∧ shL 0 ln = shL 0 ln' ∧ ss = ss' := by
  have := (h ⟨0, [], [], []⟩).symm.trans (k ⟨0, [], [], []⟩)
  simpa using this
theorem shiftS (c d : Nat) (xs : List Nat) : (xs.map (d + ·)).map (c + ·) = xs.map (c + d + ·) := by rw [List.map_map]; congr 1; funext x; simp; omega
theorem It.sh_sh (a : It) (c d : Nat) : (a.sh d).sh c = a.sh (c + d) := by unfold It.sh; simp only [shiftS]
theorem shL_app (c : Nat) (a b : List Lk) : shL c (a ++ b) = shL c a ++ shL c b := by simp [shL]
theorem shL_sh (c d : Nat) (a : List Lk) : shL c (shL d a) = shL (c + d) a := by
  unfold shL
  rw [List.map_map]
  congr 1
  funext p
  simp only [Function.comp, shiftS]
theorem cat_sh (l r : It) (c : Nat) : (itCat l r).sh c = itCat (l.sh c) (r.sh c) := by
  unfold itCat It.sh
  simp only [List.map_append]
  cases l.nl <;> cases r.nl <;> simp
theorem alt_sh (l r : It) (c : Nat) : (itAlt l r).sh c = itAlt (l.sh c) (r.sh c) := by
  unfold itAlt It.sh
  simp only [List.map_append]
theorem SegO.e : SegO [⟨0, [], 0, 0⟩] 0 ⟨true, [], []⟩ [] [] := fun s => by simp [oRun, oPush, It.sh, shL]
theorem SegO.s (xs : List Int) : SegO [⟨1, xs, 0, 0⟩] 1 ⟨false, [0], [0]⟩ [] [xs] := fun s => by simp [oRun, oPush, It.sh, shL]
theorem SegO.cat {A B : List El} {n m : Nat} {a b : It} {la lb : List Lk} {sa sb : List (List Int)} (ha : SegO A n a la sa) (hb : SegO B m b lb sb) :
    SegO (A ++ B ++ [⟨2, [], 0, 0⟩]) (n + m) (itCat a (b.sh n)) (la ++ shL n lb ++ [(a.la, (b.sh n).fi)]) (sa ++ sb) := fun s => by
  rw [oRun_append, oRun_append, ha, hb]
  simp only [oRun, oPush]
  simp only [shL_app, shL_sh, cat_sh, It.sh_sh, List.append_assoc]
  simp [shL, It.sh, Nat.add_assoc]
theorem SegO.alt {A B : List El} {n m : Nat} {a b : It} {la lb : List Lk} {sa sb : List (List Int)} (ha : SegO A n a la sa) (hb : SegO B m b lb sb) :
    SegO (A ++ B ++ [⟨3, [], 0, 0⟩]) (n + m) (itAlt a (b.sh n)) (la ++ shL n lb) (sa ++ sb) := fun s => by
  rw [oRun_append, oRun_append, ha, hb]
  simp only [oRun, oPush]
  simp only [shL_app, shL_sh, alt_sh, It.sh_sh, List.append_assoc]
  simp [Nat.add_assoc]
theorem SegO.rep {A : List El} {n : Nat} {a : It} {la : List Lk} {sa : List (List Int)} (ha : SegO A n a la sa) (mn mx : Int) :
    SegO (A ++ [⟨4, [], mn, mx⟩]) n (itRep a mn) (la ++ [(a.la, a.fi)]) sa := fun s => by
  rw [oRun_append, ha]
  simp only [oRun, oPush]
  obtain ⟨c, st, ln, ss⟩ := s
  cases st with
  | nil => simp [shL, itRep, It.sh]
  | cons q st => simp [shL, itRep, It.sh]
theorem app_more {w : World} {ops : Array Oper} {rest : List Oper} {o : Oper} {a : Act} {Q : Exit → Act → World → Prop} (hgd : o.guard = none) (s x : Operand)
    (ho : o.op = .call { callee := .builtin .append, args := #[s, x], argTypes := #[34, 34] }) (base : Nat) (ov : Value) (hs : a.eval s = ov) (os : List Int) (hown : w.ownsRow base 3 1 ov os.length (os.map mI)) (hbase : base ≤ w.heap.size)
    (sv : Value) (hx : a.eval x = sv) (xs : List Int) (hv : SlAt mI 0 0 w.heap.size w sv xs) (hlen : os.length + xs.length ≤ 1048576)
    (h : ∀ v' w', Below base w w' → w'.ownsRow base 3 1 v' (os ++ xs).length ((os ++ xs).map mI) → v'.oneCell' = true → wpList Tryz.prog ops Q rest (a.put o.dst v') w') : wpList Tryz.prog ops Q (o :: rest) a w := by
  obtain ⟨i0, hi, hz0, hz1, hz2⟩ := info_parts Tryz.zinInt
  obtain ⟨sa, sc, rfl, hl, hc⟩ := hv
  cases sa with
  | none =>
    have h0 : xs.length = 0 := by
      by_cases q : 0 < xs.length
      · obtain ⟨b, off, e, -⟩ := hc q; simp at e
      · omega
    rw [h0] at hx
    refine wpList_append_none_c hgd s x 34 ho base 3 i0 1 Tryz.underlying34 hi _ os.length (os.map mI) hs hown sc hx (h _ w (Below.refl _ _) (by rw [List.eq_nil_of_length_eq_zero h0, List.append_nil]; exact hown) ?_)
    obtain ⟨oa, oc, rfl⟩ := own_is hown
    rfl
  | some ad =>
    refine wpList_append_own_at w hgd s x 34 ho base 3 i0 (.int .i64 0) 1 8 Tryz.underlying34 hi hz0 hz1 hz2 rfl (by decide) _ os.length (os.map mI) hs hown ad xs.length sc (xs.map mI) hx (by simp) ?_ ?_ (by unfold maxLen; omega) (by omega) hbase ?_
    · intro j u hu
      have hj : j < xs.length := by
        have := (List.getElem?_eq_some_iff.1 hu).1
        simpa using this
      obtain ⟨b, off, e, -, -, hcell⟩ := hc (by omega)
      simp only [Option.some.injEq] at e
      subst e
      rw [List.getElem?_map, getD_of_lt hj] at hu
      simp only [Option.map_some, Option.some.injEq] at hu
      subst hu
      have e3 : (⟨b, off, none⟩ : Addr).add j = ⟨b, off + j, none⟩ := by cases j <;> rfl
      rw [e3]
      exact hcell j hj
    · intro u hu
      obtain ⟨y, -, rfl⟩ := List.mem_map.1 hu
      rfl
    · intro v' w' h1 hg _ _
      have h2 : w'.ownsRow base 3 1 v' (os ++ xs).length ((os ++ xs).map mI) := by rw [List.length_append, List.map_append]; exact h1
      obtain ⟨oa, oc, rfl⟩ := own_is h2
      exact h _ w' ((Below.refl _ _).grown hg hbase (fun k hk => (hown.lt k hk).1)) h2 rfl
def lvs : List El → Nat
  | [] => 0
  | x :: r => (if x.kind = 1 then 1 else 0) + lvs r
theorem oPush_c (s : Ms) (x : El) : (oPush s x).c = s.c + (if x.kind = 1 then 1 else 0) := by
  unfold oPush
  split
  · rw [if_neg (by omega)]; rfl
  · split
    · rfl
    · split <;> (try split) <;> (try split) <;> simp
theorem oRun_c (L : List El) : ∀ s : Ms, (oRun s L).c = s.c + lvs L := by
  induction L with
  | nil => intro s; simp [oRun, lvs]
  | cons x r ih => intro s; simp only [oRun, lvs, ih, oPush_c]; omega
theorem SegO.n {L : List El} {n : Nat} {a : It} {ln : List Lk} {ss : List (List Int)} (h : SegO L n a ln ss) : n = lvs L := by
  have h1 := congrArg Ms.c (h ⟨0, [], [], []⟩)
  have h2 := oRun_c L ⟨0, [], [], []⟩
  simp only at h1 h2
  omega
def Bdd (a : It) (n : Nat) : Prop := (∀ i ∈ a.fi, i < n) ∧ ∀ i ∈ a.la, i < n
theorem Bdd.sh {a : It} {n : Nat} (h : Bdd a n) (c : Nat) : Bdd (a.sh c) (c + n) := by
  refine ⟨fun i hi => ?_, fun i hi => ?_⟩
  · obtain ⟨j, hj, rfl⟩ := List.mem_map.1 hi; have := h.1 j hj; omega
  · obtain ⟨j, hj, rfl⟩ := List.mem_map.1 hi; have := h.2 j hj; omega
theorem Bdd.mono {a : It} {n m : Nat} (h : Bdd a n) (hm : n ≤ m) : Bdd a m := ⟨fun i hi => Nat.lt_of_lt_of_le (h.1 i hi) hm, fun i hi => Nat.lt_of_lt_of_le (h.2 i hi) hm⟩
theorem Bdd.cat {a b : It} {n : Nat} (h : Bdd a n) (k : Bdd b n) : Bdd (itCat a b) n := by
  refine ⟨fun i hi => ?_, fun i hi => ?_⟩
  · rcases List.mem_append.1 hi with hi | hi
    · exact h.1 i hi
    · split at hi
      · exact k.1 i hi
      · cases hi
  · rcases List.mem_append.1 hi with hi | hi
    · split at hi
      · exact h.2 i hi
      · cases hi
    · exact k.2 i hi
theorem Bdd.alt {a b : It} {n : Nat} (h : Bdd a n) (k : Bdd b n) : Bdd (itAlt a b) n := ⟨fun i hi => (List.mem_append.1 hi).elim (h.1 i) (k.1 i), fun i hi => (List.mem_append.1 hi).elim (h.2 i) (k.2 i)⟩
end Go.Proofs.YtinhliecfjlocaaGreat
