import Derived.Test.YtbgjgaejfkdceaaGreatP6
import Derived.Deep.RegionHeld3
import Derived.Test.YtbgjgaejfkdceaaGreatP3
import Derived.Test.YtbgjgaejfkdceaaGreatP2
import Derived.Laws.OwnMore
namespace Go.Proofs.YtbgjgaejfkdceaaGreat
open Go.RowKit

theorem own_ne {b b' e e' s s' n n' : Nat} {w : World} {v v' : Value} {xs xs' : List Value} (h : w.ownsRow b e s v n xs) (h' : w.ownsRow b' e' s' v' n' xs') (he : e ≠ e') : v.ownBlock = none ∨ v.ownBlock ≠ v'.ownBlock := by
  rcases h.2 with ⟨rfl, _⟩ | ⟨g, cap, cur, rfl, _, hg, _⟩
  · exact Or.inl rfl
  · refine Or.inr (fun e1 => ?_)
    rcases h'.2 with ⟨rfl, _⟩ | ⟨g', cap', cur', rfl, _, hg', _⟩
    · simp [Value.ownBlock] at e1
    · obtain rfl : g = g' := by simpa [Value.ownBlock] using e1
      rw [hg] at hg'
      simp at hg'
      exact he hg'.2
theorem LL.grown {α : Type} {mk : α → Value} {d : α} {e te : TypeId} {base : Nat} {w w' : World} {v : Value} {ps : List (Cl α)} {row : Option Nat} (h : LL mk d e te base w v ps) (hg : w.grownBy w' row) (hr : v.ownBlock = none ∨ v.ownBlock ≠ row) (he : ∀ p ∈ ps, 0 < p.xs.length → some p.b ≠ row) : LL mk d e te base w' v ps :=
  ⟨h.own.kept hg hr, fun p hp => (h.ok p hp).same (fun h0 => hg.block p.b ((h.ok p hp).lt h0) (he p hp h0)), h.lo, h.apart⟩
theorem grown_alloc (w : World) (o : Obj) : w.grownBy (w.alloc o) none := ⟨rfl, rfl, rfl, by rw [sz_alloc]; omega, fun k hk _ => (pushd_alloc w o).old hk⟩

/-- Keys and posting lists that own their memory. -/
structure GT (n0 : Nat) (w : World) (kv : Value) (ks : List Int) (pv : Value) (ps : List (Cl Int)) : Prop where
  keys : w.ownsRow n0 3 1 kv ks.length (ks.map mI)
  ll : LL mI 0 3 53 n0 w pv ps
  kap : ∀ p ∈ ps, 0 < p.xs.length → some p.b ≠ kv.ownBlock
/-- .. and the last list can grow. -/
structure GS (n0 : Nat) (w : World) (kv : Value) (ks : List Int) (pv : Value) (ps : List (Cl Int)) : Prop extends GT n0 w kv ks pv ps where
  last : ∀ ps' q, ps = ps' ++ [q] → w.ownsRow n0 3 1 q.v q.xs.length (q.xs.map mI) ∧ (q.v.ownBlock = none ∨ (0 < q.xs.length ∧ q.v.ownBlock = some q.b))

theorem GT.nil {n0 : Nat} {w : World} : GS n0 w (.slice none 0 0) [] (.slice none 0 0) [] := ⟨⟨World.ownsRow_nil _ _ _ _, LL.nil, by simp⟩, fun ps' q e => by simp at e⟩
theorem GT.drewN {n0 : Nat} {w : World} {kv pv : Value} {ks : List Int} {ps : List (Cl Int)} (h : GT n0 w kv ks pv ps) (q : Nat) : GT n0 (w.drewN q) kv ks pv ps := ⟨h.keys, ⟨h.ll.own, h.ll.ok, h.ll.lo, h.ll.apart⟩, h.kap⟩
theorem GS.drewN {n0 : Nat} {w : World} {kv pv : Value} {ks : List Int} {ps : List (Cl Int)} (h : GS n0 w kv ks pv ps) (q : Nat) : GS n0 (w.drewN q) kv ks pv ps := ⟨h.toGT.drewN q, h.last⟩

/-- One key more. -/
theorem GT.key {n0 : Nat} {w w' : World} {kv kv' pv : Value} {ks : List Int} {ps : List (Cl Int)} {k : Int} {o : Obj} (h : GT n0 w kv ks pv ps) (hn : n0 ≤ w.heap.size) (h1 : w'.ownsRow n0 3 1 kv' (ks.length + 1) (ks.map mI ++ [.int .i64 k])) (hg : (w.alloc o).grownBy w' kv.ownBlock)
    (hat : kv'.ownBlock = kv.ownBlock ∨ kv'.ownBlock = some (w.alloc o).heap.size) : GT n0 w' kv' (ks ++ [k]) pv ps ∧ Below n0 w w' := by
  refine ⟨⟨by rw [List.length_append, List.map_append]; exact h1, (h.ll.grown (grown_alloc w o) (by cases pv.ownBlock <;> simp) (fun _ _ _ => by simp)).grown hg ?_ h.kap, fun p hp h0 => ?_⟩, ((below1 w o).mono hn).grown hg (by rw [sz_alloc]; omega) (fun j hj => (h.keys.lt j hj).1)⟩
  · exact own_ne h.ll.own h.keys (by decide)
  · rcases hat with e | e
    · rw [e]; exact h.kap p hp h0
    · rw [e]
      intro e2
      have h2 := (h.ll.ok p hp).lt h0
      rw [sz_alloc] at e2
      have := Option.some.inj e2
      omega

/-- One empty posting list more. -/
theorem GT.post0 {n0 : Nat} {w w' : World} {kv pv pv' : Value} {ks : List Int} {ps : List (Cl Int)} {o : Obj} (h : GT n0 w kv ks pv ps) (hn : n0 ≤ w.heap.size) (h1 : w'.ownsRow n0 53 1 pv' (ps.length + 1) (ps.map Cl.v ++ [.slice none 0 0])) (hg : (w.alloc o).grownBy w' pv.ownBlock) :
    GS n0 w' kv ks pv' (ps ++ [⟨.slice none 0 0, [], 0⟩]) ∧ Below n0 w w' := by
  obtain ⟨r1, r2⟩ := h.ll.app (p := ⟨.slice none 0 0, [], 0⟩) (by decide) hn ⟨none, 0, rfl, ⟨Nat.le_refl _, Nat.zero_le _⟩, fun h0 => absurd h0 (by simp)⟩ (fun h0 => absurd h0 (by simp)) (fun q _ _ h0 => absurd h0 (by simp)) (pushd_alloc w o) h1 hg
  refine ⟨⟨⟨(h.keys.alloc o).kept hg ?_, r1, fun p hp h0 => ?_⟩, fun ps' q e => ?_⟩, r2⟩
  · exact own_ne h.keys h.ll.own (by decide)
  · rcases List.mem_append.1 hp with hp | hp
    · exact h.kap p hp h0
    · rw [List.mem_singleton] at hp
      subst hp
      exact absurd h0 (by simp)
  · have e2 := (List.append_inj' e rfl).2
    rw [List.singleton_inj] at e2
    subst e2
    exact ⟨World.ownsRow_nil _ _ _ _, Or.inl rfl⟩

theorem own_block_is {base e n : Nat} {w : World} {v : Value} {xs : List Int} (h : w.ownsRow base e 1 v n (xs.map mI)) (hp : 0 < n) : ∃ g, v.ownBlock = some g ∧ Cl.ok mI 0 e w ⟨v, xs, g⟩ ∧ base ≤ g ∧ g < w.heap.size := by
  have hlen := h.1
  rw [List.length_map, Nat.mul_one] at hlen
  rcases h.2 with ⟨rfl, hz⟩ | ⟨g, cap, cur, rfl, hbg, hg, hnc, hcm, hcs, htake⟩
  · omega
  · refine ⟨g, rfl, ⟨some ⟨g, 0, none⟩, cap, by rw [hlen], ⟨by show xs.length ≤ cap; omega, hcm⟩, fun hp => ⟨0, rfl, ⟨cur, hg⟩, fun i hi => ?_⟩⟩, hbg, (h.lt g rfl).2⟩
    have hi' : i < xs.length := hi
    show w.cell? ⟨g, 0 + i, none⟩ = some (mI (xs[i]?.getD 0))
    rw [Nat.zero_add, h.cellAt i (by omega), List.getElem?_map, List.getElem?_eq_getElem hi']
    rfl

/-- The last posting list grows by one. -/
theorem GS.post {n0 g : Nat} {w w' : World} {kv v' : Value} {ks : List Int} {ps : List (Cl Int)} {q : Cl Int} {x : Int} {o : Obj} {cap : Nat} (h : GS n0 w kv ks (.slice (some ⟨g, 0, none⟩) (ps.length + 1) cap) (ps ++ [q])) (hn : n0 ≤ w.heap.size)
    (h1 : w'.ownsRow n0 3 1 v' (q.xs.length + 1) (q.xs.map mI ++ [.int .i64 x])) (hg : (w.alloc o).grownBy w' q.v.ownBlock) (hat : v'.ownBlock = q.v.ownBlock ∨ v'.ownBlock = some (w.alloc o).heap.size) :
    ∃ q' : Cl Int, q'.xs = q.xs ++ [x] ∧ GS n0 (w'.setCell ⟨g, ps.length, none⟩ v') kv ks (.slice (some ⟨g, 0, none⟩) (ps.length + 1) cap) (ps ++ [q']) ∧ Below n0 w (w'.setCell ⟨g, ps.length, none⟩ v') ∧ w'.cell? ⟨g, ps.length, none⟩ = some q.v ∧ w'.frozen? ⟨g, ps.length, none⟩ = false := by
  obtain ⟨hq, hqb⟩ := h.last ps q rfl
  have h1' : w'.ownsRow n0 3 1 v' (q.xs ++ [x]).length ((q.xs ++ [x]).map mI) := by rw [List.length_append, List.map_append]; exact h1
  obtain ⟨g', e', hok', hlo', hlt'⟩ := own_block_is (xs := q.xs ++ [x]) (n := (q.xs ++ [x]).length) h1' (by simp)
  have hrow : w.ownsRow n0 53 1 (.slice (some ⟨g, 0, none⟩) (ps.length + 1) cap) (ps.length + 1) ((ps ++ [q]).map Cl.v) := by
    have := h.ll.own
    rwa [List.length_append] at this
  have hgn : n0 ≤ g := by
    rcases hrow.2 with ⟨e, _⟩ | ⟨g2, cap2, cur, e, hb, _⟩
    · cases e
    · cases e; exact hb
  have hge : (some g) ≠ q.v.ownBlock := by
    intro e
    rcases own_ne hq hrow (by decide) with e2 | e2
    · rw [e2] at e; cases e
    · rw [← e] at e2; exact e2 rfl
  have hg' : g ≠ g' := by
    intro e
    obtain ⟨a2, c2, -, -, hc2⟩ := hok'
    obtain ⟨off, -, ⟨c3, hb3⟩, -⟩ := hc2 (by simp)
    rcases hat with e3 | e3
    · rw [e'] at e3; rw [← e] at e3; exact hge e3
    · rw [e'] at e3
      have h5 := Option.some.inj e3
      rw [sz_alloc] at h5
      have h6 : g < w.heap.size := (hrow.lt g rfl).2
      omega
  have hrow' : w'.ownsRow n0 53 1 (.slice (some ⟨g, 0, none⟩) (ps.length + 1) cap) (ps.length + 1) ((ps ++ [q]).map Cl.v) := (hrow.alloc o).kept hg (Or.inr hge)
  have hset := own_set (k := ps.length) (u := v') hrow' (by omega)
  have hkq : kv.ownBlock = none ∨ kv.ownBlock ≠ q.v.ownBlock := by
    rcases hqb with e | ⟨hq0, e⟩
    · rw [e]
      cases kv.ownBlock <;> simp
    · rw [e]
      exact Or.inr (fun e2 => h.kap q (by simp) hq0 e2.symm)
  have hkeys' : w'.ownsRow n0 3 1 kv ks.length (ks.map mI) := (h.keys.alloc o).kept hg hkq
  have hgk : w'.grownBy (w'.setCell ⟨g, ps.length, none⟩ v') (some g) := ⟨rfl, rfl, rfl, by rw [sz_put]; exact Nat.le_refl _, fun k _ hk => Below.heap_setCell _ _ _ k (fun e => hk (by rw [e]))⟩
  have hother : ∀ p ∈ ps, 0 < p.xs.length → some p.b ≠ q.v.ownBlock := fun p hp h0 => by
    rcases hqb with e | ⟨hq0, e⟩
    · rw [e]; simp
    · rw [e]
      intro e2
      have hap := (List.pairwise_append.1 h.ll.apart).2.2 p hp q (by simp) h0 hq0
      exact hap (Option.some.inj e2)
  have hpg : ∀ p : Cl Int, p.ok mI 0 3 w → 0 < p.xs.length → p.b ≠ g := fun p hp h0 e => by
    have := h.ll.not_row (by decide) hp rfl h0
    rw [e] at this
    exact this rfl
  refine ⟨⟨v', q.xs ++ [x], g'⟩, rfl, ⟨⟨hkeys'.kept hgk ?_, ⟨?_, fun p hp => ?_, fun p hp h0 => ?_, ?_⟩, fun p hp h0 => ?_⟩, fun ps' q' e => ?_⟩, ?_, ?_, ?_⟩
  · exact own_ne hkeys' hrow' (by decide)
  · rw [List.length_append, List.map_append]
    have e9 : ((ps ++ [q]).map Cl.v).set ps.length v' = ps.map Cl.v ++ [v'] := by
      rw [List.map_append, List.set_append_right _ _ (by rw [List.length_map]; exact Nat.le_refl _), List.length_map, Nat.sub_self]
      rfl
    rw [e9] at hset
    exact hset
  · rcases List.mem_append.1 hp with hp | hp
    · refine (h.ll.ok p (by simp [hp])).same (fun h0 => ?_)
      have hlt := (h.ll.ok p (by simp [hp])).lt h0
      rw [Below.heap_setCell _ _ _ _ (by show p.b ≠ g; exact hpg p (h.ll.ok p (by simp [hp])) h0), hg.block p.b (by rw [sz_alloc]; omega) (hother p hp h0), (pushd_alloc w o).old hlt]
    · rw [List.mem_singleton] at hp
      subst hp
      exact hok'.same (fun _ => Below.heap_setCell _ _ _ _ (by show g' ≠ g; exact fun e => hg' e.symm))
  · rcases List.mem_append.1 hp with hp | hp
    · exact h.ll.lo p (by simp [hp]) h0
    · rw [List.mem_singleton] at hp
      subst hp
      exact hlo'
  · refine List.pairwise_append.2 ⟨(List.pairwise_append.1 h.ll.apart).1, List.pairwise_singleton _ _, fun p hp r hr h0 _ => ?_⟩
    rw [List.mem_singleton] at hr
    subst hr
    show p.b ≠ g'
    intro e
    rcases hat with e3 | e3
    · rw [e'] at e3
      exact hother p hp h0 (by rw [e]; exact e3)
    · rw [e'] at e3
      have h5 := Option.some.inj e3
      rw [sz_alloc] at h5
      have := (h.ll.ok p (by simp [hp])).lt h0
      omega
  · rcases List.mem_append.1 hp with hp | hp
    · exact h.kap p (by simp [hp]) h0
    · rw [List.mem_singleton] at hp
      subst hp
      show some g' ≠ kv.ownBlock
      intro e
      rcases hat with e3 | e3
      · rw [e'] at e3
        rcases hkq with e4 | e4
        · rw [e4] at e; cases e
        · exact e4 (by rw [← e, e3])
      · rw [e'] at e3
        have h5 := Option.some.inj e3
        rw [sz_alloc] at h5
        have := (h.keys.lt g' e.symm).2
        omega
  · have e2 := (List.append_inj' e rfl).2
    rw [List.singleton_inj] at e2
    subst e2
    refine ⟨h1'.kept hgk ?_, Or.inr ⟨by simp, e'⟩⟩
    rw [e']
    exact Or.inr (fun e => hg' (Option.some.inj e).symm)
  · exact bput (((below1 w o).mono hn).grown hg (by rw [sz_alloc]; omega) (fun j hj => (hq.lt j hj).1)) hgn _
  · rw [hrow'.cellAt ps.length (by omega), List.map_append, List.getElem?_append_right (by rw [List.length_map]; exact Nat.le_refl _), List.length_map, Nat.sub_self]
    rfl
  · rcases hrow'.2 with ⟨e, _⟩ | ⟨g2, cap2, cur, e, _, hgb, _⟩
    · cases e
    · cases e
      exact frz ⟨_, _, hgb⟩

end Go.Proofs.YtbgjgaejfkdceaaGreat

namespace Go.Proofs.YtbgjgaejfkdceaaGreat
open Go.RowKit

theorem plcs_mem (xss : List (List Int)) (n : Nat) (p : Int) : p ∈ plcs xss n ↔ ∃ i : Nat, i < n ∧ ∃ t, t ∈ tr (xss[i]?.getD []) ∧ p = t * 1000 + i := by
  induction n with
  | zero => simp [plcs]
  | succ n ih =>
    rw [plcs, List.mem_append, ih]
    constructor
    · rintro (⟨i, hi, t, ht, e⟩ | h)
      · exact ⟨i, by omega, t, ht, e⟩
      · unfold plc at h
        obtain ⟨t, ht, e⟩ := List.mem_map.1 h
        exact ⟨n, by omega, t, ht, e.symm⟩
    · rintro ⟨i, hi, t, ht, e⟩
      by_cases q : i < n
      · exact Or.inl ⟨i, q, t, ht, e⟩
      · obtain rfl : i = n := by omega
        exact Or.inr (List.mem_map.2 ⟨t, ht, e.symm⟩)
theorem allT_mem (xss : List (List Int)) (z : Int) : z ∈ allT xss ↔ ∃ i : Nat, i < xss.length ∧ z ∈ tr (xss[i]?.getD []) := by
  unfold allT
  rw [List.mem_flatMap]
  constructor
  · rintro ⟨x, hx, hz⟩
    obtain ⟨i, hi, e⟩ := List.mem_iff_getElem.1 hx
    exact ⟨i, hi, by rw [List.getElem?_eq_getElem hi]; show z ∈ tr xss[i]; rw [e]; exact hz⟩
  · rintro ⟨i, hi, hz⟩
    rw [List.getElem?_eq_getElem hi] at hz
    exact ⟨xss[i], List.getElem_mem _, hz⟩
theorem tr_nonneg {bs : List Int} (h : Bytes bs) {t : Int} (ht : t ∈ tr bs) : 0 ≤ t ∧ t ≤ 16777215 := by
  unfold tr tris at ht
  obtain ⟨i, -, rfl⟩ := List.mem_map.1 ht
  have h0 := h i
  have h1 := h (i + 1)
  have h2 := h (i + 2)
  have e : tri3 bs i = bs[i]?.getD 0 * 65536 + bs[i + 1]?.getD 0 * 256 + bs[i + 2]?.getD 0 := rfl
  omega

theorem tot_app {α : Type} (a b : List (List α)) : tot (a ++ b) = tot a + tot b := by
  induction a with
  | nil => simp [tot]
  | cons x r ih => simp only [List.cons_append, tot, ih]; omega

/-- While the places are put into their lists: the first m are. -/
structure KInv (base : Int) (zs : List Int) (m : Nat) (ks : List Int) (pss : List (List Int)) : Prop where
  asc : Asc ks
  mem : ∀ z, z ∈ ks ↔ ∃ p, p ∈ zs.take m ∧ z = p / 1000
  len : pss.length = ks.length
  post : ∀ j : Nat, j < ks.length → Asc (pss[j]?.getD []) ∧ ∀ x, x ∈ pss[j]?.getD [] ↔ ∃ p, p ∈ zs.take m ∧ p / 1000 = ks[j]?.getD 0 ∧ x = base + p % 1000
  cnt : tot pss ≤ m ∧ ks.length ≤ m
theorem KInv.start (base : Int) (zs : List Int) : KInv base zs 0 [] [] := ⟨List.Pairwise.nil, by simp, rfl, fun j hj => absurd hj (by simp), by simp [tot]⟩
theorem take_lt {zs : List Int} (hz : Asc zs) {m : Nat} (hm : m < zs.length) {p : Int} (hp : p ∈ zs.take m) : p < zs[m]?.getD 0 := by
  obtain ⟨i, hi, e⟩ := mem_get.1 hp
  rw [List.length_take] at hi
  rw [List.getElem?_take, if_pos (by omega)] at e
  rw [← e]
  exact asc_get hz (by omega) hm
theorem KInv.le {base : Int} {zs : List Int} {m : Nat} {ks : List Int} {pss : List (List Int)} (h : KInv base zs m ks pss) (hz : Asc zs) (hm : m < zs.length) : ∀ z ∈ ks, z ≤ zs[m]?.getD 0 / 1000 := fun z hk => by
  obtain ⟨p, hp, rfl⟩ := (h.mem z).1 hk
  have := take_lt hz hm hp
  omega
theorem KInv.lt {base : Int} {zs : List Int} {m : Nat} {ks : List Int} {pss : List (List Int)} (h : KInv base zs m ks pss) (hz : Asc zs) (hm : m < zs.length) (hne : ks = [] ∨ ks[ks.length - 1]?.getD 0 ≠ zs[m]?.getD 0 / 1000) : ∀ z ∈ ks, z < zs[m]?.getD 0 / 1000 := fun z hk => by
  have h1 := h.le hz hm z hk
  rcases hne with e | e
  · rw [e] at hk; simp at hk
  · obtain ⟨i, hi, e2⟩ := mem_get.1 hk
    have h2 := h.le hz hm (ks[ks.length - 1]?.getD 0) (mem_get.2 ⟨ks.length - 1, by omega, rfl⟩)
    by_cases q : i = ks.length - 1
    · subst q; omega
    · have := asc_get h.asc (show i < ks.length - 1 by omega) (by omega)
      omega
theorem KInv.new {base : Int} {zs : List Int} {m : Nat} {ks : List Int} {pss : List (List Int)} (h : KInv base zs m ks pss) (hm : m < zs.length) (hlt : ∀ z ∈ ks, z < zs[m]?.getD 0 / 1000) : KInv base zs (m + 1) (ks ++ [zs[m]?.getD 0 / 1000]) (pss ++ [[base + zs[m]?.getD 0 % 1000]]) := by
  refine ⟨List.pairwise_append.2 ⟨h.asc, List.pairwise_singleton _ _, fun a ha b hb => ?_⟩, fun z => ?_, by simp [h.len], fun j hj => ?_, by have := h.cnt; rw [tot_app, List.length_append]; simp [tot]; omega⟩
  · rw [List.mem_singleton] at hb
    rw [hb]
    exact hlt a ha
  · rw [List.mem_append, h.mem, List.mem_singleton]
    constructor
    · rintro (⟨p, hp, e⟩ | e)
      · exact ⟨p, (take_succ_mem hm p).2 (Or.inl hp), e⟩
      · exact ⟨_, (take_succ_mem hm _).2 (Or.inr rfl), e⟩
    · rintro ⟨p, hp, e⟩
      rcases (take_succ_mem hm p).1 hp with hp | rfl
      · exact Or.inl ⟨p, hp, e⟩
      · exact Or.inr e
  · by_cases q : j < ks.length
    · rw [List.getElem?_append_left (by rw [h.len]; exact q), List.getElem?_append_left q]
      obtain ⟨h1, h2⟩ := h.post j q
      refine ⟨h1, fun x => ?_⟩
      rw [h2]
      constructor
      · rintro ⟨p, hp, e⟩
        exact ⟨p, (take_succ_mem hm p).2 (Or.inl hp), e⟩
      · rintro ⟨p, hp, e1, e2⟩
        rcases (take_succ_mem hm p).1 hp with hp | rfl
        · exact ⟨p, hp, e1, e2⟩
        · have := hlt (ks[j]?.getD 0) (mem_get.2 ⟨j, q, rfl⟩)
          omega
    · have hj' : j = ks.length := by rw [List.length_append] at hj; simp at hj; omega
      subst hj'
      rw [List.getElem?_append_right (by rw [h.len]; exact Nat.le_refl _), List.getElem?_append_right (Nat.le_refl _), h.len, Nat.sub_self]
      simp only [List.getElem?_cons_zero, Option.getD_some]
      refine ⟨List.pairwise_singleton _ _, fun x => ?_⟩
      rw [List.mem_singleton]
      constructor
      · rintro rfl
        exact ⟨_, (take_succ_mem hm _).2 (Or.inr rfl), rfl, rfl⟩
      · rintro ⟨p, hp, e1, e2⟩
        rcases (take_succ_mem hm p).1 hp with hp | rfl
        · have := hlt (p / 1000) ((h.mem _).2 ⟨p, hp, rfl⟩)
          omega
        · exact e2
theorem KInv.same {base : Int} {zs : List Int} {m : Nat} {ks l : List Int} {pss : List (List Int)} (h : KInv base zs m ks (pss ++ [l])) (hz : Asc zs) (hm : m < zs.length) (hk : ks[ks.length - 1]?.getD 0 = zs[m]?.getD 0 / 1000) : KInv base zs (m + 1) ks (pss ++ [l ++ [base + zs[m]?.getD 0 % 1000]]) := by
  have hlen := h.len
  rw [List.length_append] at hlen
  simp only [List.length_singleton] at hlen
  have hmk : zs[m]?.getD 0 / 1000 ∈ ks := mem_get.2 ⟨ks.length - 1, by omega, hk⟩
  refine ⟨h.asc, fun z => ?_, by simp; omega, fun j hj => ?_, by have := h.cnt; rw [tot_app] at this ⊢; simp [tot] at this ⊢; omega⟩
  · rw [h.mem]
    constructor
    · rintro ⟨p, hp, e⟩
      exact ⟨p, (take_succ_mem hm p).2 (Or.inl hp), e⟩
    · rintro ⟨p, hp, e⟩
      rcases (take_succ_mem hm p).1 hp with hp | rfl
      · exact ⟨p, hp, e⟩
      · rw [e]
        exact (h.mem _).1 hmk
  · by_cases q : j < pss.length
    · have h3 := h.post j hj
      rw [List.getElem?_append_left q] at h3 ⊢
      obtain ⟨h1, h2⟩ := h3
      refine ⟨h1, fun x => ?_⟩
      rw [h2]
      constructor
      · rintro ⟨p, hp, e⟩
        exact ⟨p, (take_succ_mem hm p).2 (Or.inl hp), e⟩
      · rintro ⟨p, hp, e1, e2⟩
        rcases (take_succ_mem hm p).1 hp with hp | rfl
        · exact ⟨p, hp, e1, e2⟩
        · have := asc_get h.asc (show j < ks.length - 1 by omega) (by omega)
          omega
    · have hj' : j = pss.length := by omega
      have hkj : ks[j]?.getD 0 = zs[m]?.getD 0 / 1000 := by rw [show j = ks.length - 1 by omega]; exact hk
      subst hj'
      have h3 := h.post pss.length hj
      rw [List.getElem?_append_right (Nat.le_refl _), Nat.sub_self] at h3 ⊢
      simp only [List.getElem?_cons_zero, Option.getD_some] at h3 ⊢
      obtain ⟨h1, h2⟩ := h3
      refine ⟨List.pairwise_append.2 ⟨h1, List.pairwise_singleton _ _, fun a ha b hb => ?_⟩, fun x => ?_⟩
      · rw [List.mem_singleton] at hb
        obtain ⟨p, hp, e1, e2⟩ := (h2 a).1 ha
        have := take_lt hz hm hp
        omega
      · rw [List.mem_append, h2, List.mem_singleton]
        constructor
        · rintro (⟨p, hp, e⟩ | e)
          · exact ⟨p, (take_succ_mem hm p).2 (Or.inl hp), e⟩
          · exact ⟨_, (take_succ_mem hm _).2 (Or.inr rfl), hkj.symm, e⟩
        · rintro ⟨p, hp, e1, e2⟩
          rcases (take_succ_mem hm p).1 hp with hp | rfl
          · exact Or.inl ⟨p, hp, e1, e2⟩
          · exact Or.inr e2
theorem KInv.done {base : Int} {zs : List Int} {ks : List Int} {pss xss : List (List Int)} (h : KInv base zs zs.length ks pss) (ho : Ord (plcs xss xss.length) zs) (hn : xss.length ≤ 1000) : SegR base xss ks pss := by
  have hmem : ∀ p, p ∈ zs.take zs.length ↔ ∃ i : Nat, i < xss.length ∧ ∃ t, t ∈ tr (xss[i]?.getD []) ∧ p = t * 1000 + i := fun p => by rw [List.take_length, ho.mem, plcs_mem]
  refine ⟨⟨h.asc, fun z => ?_⟩, h.len, fun j hj => ⟨(h.post j hj).1, fun x => ?_⟩⟩
  · rw [h.mem, allT_mem]
    constructor
    · rintro ⟨p, hp, e⟩
      obtain ⟨i, hi, t, ht, e2⟩ := (hmem p).1 hp
      exact ⟨i, hi, by rw [show z = t by omega]; exact ht⟩
    · rintro ⟨i, hi, ht⟩
      exact ⟨z * 1000 + i, (hmem _).2 ⟨i, hi, z, ht, rfl⟩, by omega⟩
  · rw [(h.post j hj).2]
    constructor
    · rintro ⟨p, hp, e, e2⟩
      obtain ⟨i, hi, t, ht, e3⟩ := (hmem p).1 hp
      exact ⟨i, hi, by omega, by rw [show ks[j]?.getD 0 = t by omega]; exact ht⟩
    · rintro ⟨i, hi, e, ht⟩
      exact ⟨ks[j]?.getD 0 * 1000 + i, (hmem _).2 ⟨i, hi, _, ht, rfl⟩, by omega, by omega⟩

theorem own_last {base e g cap : Nat} {w : World} {ps : List (Cl Int)} {q : Cl Int} {n : Nat} (h : w.ownsRow base e 1 (.slice (some ⟨g, 0, none⟩) n cap) (ps ++ [q]).length ((ps ++ [q]).map Cl.v)) : w.cell? ⟨g, ps.length, none⟩ = some q.v := by
  rw [List.length_append] at h
  obtain ⟨a, c, e⟩ := own_is h
  cases e
  rw [h.cellAt ps.length (by simp), List.map_append, List.getElem?_append_right (by rw [List.length_map]; exact Nat.le_refl _), List.length_map, Nat.sub_self]
  rfl

theorem len_snoc {ps : List (Cl Int)} {q : Cl Int} {m : Nat} (h : ∀ p ∈ ps, p.xs.length ≤ m) (hq : q.xs.length ≤ m + 1) : ∀ p ∈ ps ++ [q], p.xs.length ≤ m + 1 := fun p hp => by
  rcases List.mem_append.1 hp with h1 | h1
  · have := h p h1; omega
  · rw [List.mem_singleton] at h1; subst h1; exact hq
theorem GT.low {n n' : Nat} {w : World} {kv pv : Value} {ks : List Int} {ps : List (Cl Int)} (h : GT n w kv ks pv ps) (hn : n' ≤ n) : GT n' w kv ks pv ps := ⟨own_low h.keys hn, ⟨own_low h.ll.own hn, h.ll.ok, fun p hp h0 => Nat.le_trans hn (h.ll.lo p hp h0), h.ll.apart⟩, h.kap⟩

/-- What postingLists answers. -/
def PostRet (e : Ending) (w w' : World) (base : Int) (xss : List (List Int)) : Prop := ∃ kv pv ks ps, e = .returned (.tuple #[kv, pv]) ∧ SegR base xss ks (ps.map Cl.xs) ∧ (ks.length ≤ 1048576 ∧ tot (ps.map Cl.xs) ≤ 1048576) ∧ GT w.heap.size w' kv ks pv ps

set_option maxHeartbeats 4000000 in
set_option maxRecDepth 100000 in
theorem postingLists_any (base : Int) (v : Value) (xss : List (List Int)) (w : World) (hv : SsAt mB 0 w.heap.size w v xss) (hbb : ∀ x ∈ xss, Bytes x) (hT : tot xss ≤ 1048576) (hL : xss.length ≤ 1000) (hb0 : 0 ≤ base) (hb1 : base ≤ 1000) :
    Calls Tryz.prog 85 #[.int .i64 base, v] w fun e w' => PostRet e w w' base xss ∧ Below w.heap.size w w' := by
  obtain ⟨i0, hi, hz0, hz1, hz2⟩ := info_parts Tryz.zinInt
  obtain ⟨j0, hj, hy0, hy1, hy2⟩ := info_parts Tryz.zinIntS
  have Hv := hide hv
  have HB := hide hbb
  obtain ⟨a, cap, rfl, hl, hc⟩ := hv
  clear hbb hc
  go_enter Tryz.func85, Tryz.ntmps85
  go_wp2_with fail
  refine (trigramPlaces_any _ xss _ (unhide Hv) (unhide HB) hT hL).mono ?_
  rintro e w1 ⟨⟨v1, zs, rfl, ho, hzl, hown⟩, hb1'⟩
  have hz1' := hb1'.size
  have HO := hide ho
  have hzl' : zs.length ≤ 1048576 := Nat.le_trans hzl (Nat.le_trans (plcs_len xss _ (Nat.le_refl _)) (Nat.le_trans (tot_take xss _) hT))
  have hpos : ∀ p, p ∈ zs → 0 ≤ p ∧ p ≤ 16777215999 := fun p hp => by
    obtain ⟨i, hi2, t, ht, e⟩ := (plcs_mem xss _ p).1 ((ho.mem p).1 hp)
    have := tr_nonneg (unhide HB (xss[i]?.getD []) (by rw [List.getElem?_eq_getElem hi2]; exact List.getElem_mem _)) ht
    omega
  have HP := hide hpos
  have SZ := hide ((own_slw (lo := 0) hown (Nat.zero_le _) (by unfold maxLen; omega)).at)
  obtain ⟨za, zc, rfl⟩ := own_is hown
  clear hown ho hzl hpos
  go_wp2_with fail
  go_loopw [4, 5, 14] (fun kv pv iv wr => ∃ (m : Nat) (ks : List Int) (ps : List (Cl Int)), m ≤ zs.length ∧ ks.length ≤ m ∧ (∀ p ∈ ps, p.xs.length ≤ m) ∧ iv = .int .i64 m ∧ KInv base zs m ks (ps.map Cl.xs) ∧ GS w1.heap.size wr kv ks pv ps ∧ Below w1.heap.size w1 wr) (fun _ _ iv _ => zs.length - (intOf iv).toNat)
  case atStart => exact ⟨0, [], [], Nat.zero_le _, Nat.le_refl _, by simp, rfl, KInv.start base zs, GT.nil, Below.refl _ _⟩
  case round =>
    obtain ⟨m, ks, ps, hm, hkm, hpm, rfl, hkv, hgs, hb⟩ := hrel
    have HPM := hide hpm
    clear hpm
    have hszr := hb.size
    have HK := hide hkv
    have HG := hide hgs
    have hpl : ps.length = ks.length := by have := hkv.len; rwa [List.length_map] at this
    have HPL := hide hpl
    obtain ⟨ka, kc, rfl⟩ := own_is hgs.keys
    obtain ⟨pa, pc, rfl⟩ := own_is hgs.ll.own
    clear hkv hgs
    by_cases hlt : m < zs.length
    · have hlt' : (m : Int) < (zs.length : Int) := by omega
      obtain ⟨_, _, e1, -, hc⟩ := (unhide SZ).below hb (Nat.le_refl _)
      cases e1
      obtain ⟨b, off, rfl, -, hbn, hcell⟩ := hc (by omega)
      have hx := hcell m hlt
      unfold mI at hx
      obtain ⟨p0, p1⟩ := unhide HP (zs[m]?.getD 0) (mem_get.2 ⟨m, hlt, rfl⟩)
      have Hlt := hide (fun hne => (unhide HK).new hlt ((unhide HK).lt (unhide HO).asc hlt hne))
      have Hsame := hide (fun (pss : List (List Int)) (l : List Int) (e : ps.map Cl.xs = pss ++ [l]) he => KInv.same (l := l) (pss := pss) (by rw [← e]; exact unhide HK) (unhide HO).asc hlt he)
      clear hcell hc
      generalize zs[m]?.getD 0 = p at *
      have d1 : p.tdiv 1000 = p / 1000 := by rw [Int.tdiv_eq_ediv_of_nonneg p0]
      have d2 : p.tmod 1000 = p % 1000 := by rw [Int.tmod_eq_emod_of_nonneg p0]
      have r0 : 0 ≤ p % 1000 := by omega
      have r1 : p % 1000 < 1000 := by omega
      have hpk : ps.length ≤ 1048576 := by omega
      by_cases hk0 : ks = []
      · have Hn := hide (unhide Hlt (Or.inl hk0))
        have hl0 : (ks.length : Int) - 1 < 0 := by rw [hk0]; decide
        have hPK : Hid (ks.length = ps.length) := hpl.symm
        have hkb : ks.length < ps.length + 1 := by omega
        have hkb' : (ks.length : Int) < (ps.length : Int) + 1 := by omega
        clear Hlt Hsame HK hpl HPL hk0
        go_wp2_with (first
          | (at_builtin; refine wpList_append_own_at _ rfl _ _ 53 rfl w1.heap.size 3 i0 (.int .i64 0) 1 8 Tryz.underlying53 hi hz0 hz1 hz2 rfl (by decide) _ _ _ rfl (World.ownsRow.alloc (w := wr) (unhide HG).keys _) ⟨wr.heap.size, 0, none⟩ 1 1 [.int .i64 (p / 1000)] rfl rfl (cell_1 (by simp)) (by intro u hu; simp at hu; subst hu; rfl) (by unfold maxLen; omega) (by omega) (by rw [sz_alloc]; show _ ≤ wr.heap.size + 1; omega) ?_; intro kv2 w2 g1 g2 _ g4; have H2 := hide (GT.key (w := wr) (unhide HG).toGT hszr g1 g2 g4); obtain ⟨kg, kcap, rfl⟩ := ownsRow_succ g1; have hz2' : w1.heap.size ≤ w2.heap.size := Nat.le_trans hszr (unhide H2).2.size; clear g1 g2 g4 HG)
          | (at_builtin; refine wpList_append_own_at _ rfl _ _ 54 rfl w1.heap.size 53 j0 (.slice none 0 0) 1 24 Tryz.underlying54 hj hy0 hy1 hy2 rfl (by decide) _ _ _ rfl (World.ownsRow.alloc (w := w2) (unhide H2).1.ll.own _) ⟨w2.heap.size, 0, none⟩ 1 1 [.slice none 0 0] rfl rfl (cell_1 (by simp)) (by intro u hu; simp at hu; subst hu; rfl) (by unfold maxLen; omega) (by omega) (by rw [sz_alloc]; omega) ?_; intro pv3 w3 g1 g2 _ _; have H3 := hide ((unhide H2).1.post0 hz2' g1 g2); obtain ⟨pg, pcap, rfl⟩ := ownsRow_succ g1; have hz3' : w1.heap.size ≤ w3.heap.size := Nat.le_trans hz2' (unhide H3).2.size; have hB3 := hide ((unhide H2).2.trans (unhide H3).2); have hcl3 : w3.cell? ⟨pg, ks.length, none⟩ = some (.slice none 0 0) := (by rw [unhide hPK]; exact own_last (unhide H3).1.ll.own); clear g1 g2 H2)
          | (at_builtin; refine wpList_append_own_at _ rfl _ _ 53 rfl w1.heap.size 3 i0 (.int .i64 0) 1 8 Tryz.underlying53 hi hz0 hz1 hz2 rfl (by decide) _ 0 [] rfl (World.ownsRow_nil _ _ _ _) ⟨w3.heap.size, 0, none⟩ 1 1 [.int .i64 (base + p % 1000)] rfl rfl (cell_1 (by simp)) (by intro u hu; simp at hu; subst hu; rfl) (by unfold maxLen; omega) (by omega) (by rw [sz_alloc]; omega) ?_; intro v4 w4 g1 g2 _ g4; have H4 := hide (GS.post (unhide H3).1 hz3' g1 g2 g4); obtain ⟨vg, vcap, rfl⟩ := ownsRow_succ g1; obtain ⟨c4, z4⟩ : w4.cell? ⟨pg, ks.length, none⟩ = some (.slice none 0 0) ∧ w4.frozen? ⟨pg, ks.length, none⟩ = false := (by rw [unhide hPK]; obtain ⟨q', _, _, _, x1, x2⟩ := unhide H4; exact ⟨x1, x2⟩); clear g1 g2 g4))
        obtain ⟨q', e1, e2, e3, -, -⟩ := unhide H4
        rw [show (⟨pg, ks.length, none⟩ : Addr) = ⟨pg, ps.length, none⟩ by rw [unhide hPK]]
        refine ⟨⟨m + 1, ks ++ [p / 1000], ps ++ [q'], by omega, by simp; omega, len_snoc (unhide HPM) (by rw [e1]; simp), by go_num, ?_, e2, hb.trans ((unhide hB3).trans e3)⟩, by simp [intOf]; omega⟩
        rw [List.map_append, List.map_singleton, e1]
        exact unhide Hn
      · have hpp : 0 < ks.length := List.length_pos_iff.2 hk0
        obtain ⟨g, oc', e, hcl⟩ := own_at (unhide HG).keys hpp
        cases e
        have hl0 : wr.cell? ⟨g, ks.length - 1, none⟩ = some (.int .i64 (ks[ks.length - 1]?.getD 0)) := by
          rw [hcl _ (by omega), List.getElem?_map, getD_of_lt (show ks.length - 1 < ks.length by omega)]
          rfl
        have hidx : ((ks.length : Int) - 1).toNat = ks.length - 1 := by omega
        have hlb : ¬ (ks.length : Int) - 1 < 0 := by omega
        have hlb2 : (0 : Int) ≤ (ks.length : Int) - 1 := by omega
        have hlb3 : (ks.length : Int) - 1 < (ks.length : Int) := by omega
        by_cases hne : ks[ks.length - 1]?.getD 0 = p / 1000
        · obtain ⟨ps0, q, rfl⟩ : ∃ ps0 q, ps = ps0 ++ [q] := ⟨ps.dropLast, ps.getLast (by intro e; rw [e] at hpl; simp at hpl; omega), (List.dropLast_concat_getLast _).symm⟩
          have hpl0 : ps0.length = ks.length - 1 := by rw [List.length_append] at hpl; simp at hpl; omega
          have Hn := hide (unhide Hsame (ps0.map Cl.xs) q.xs (by rw [List.map_append]; rfl) hne)
          have hown := ((unhide HG).last ps0 q rfl).1
          have hqm := unhide HPM q (by simp)
          obtain ⟨qa, qc, eq⟩ := own_is hown
          have elen : (ps0 ++ [q]).length = ps0.length + 1 := by simp
          have hrw := (unhide HG).ll.own
          rw [elen] at hrw HG ⊢
          obtain ⟨pg, e8⟩ : ∃ pg, pa = some ⟨pg, 0, none⟩ := by
            rcases hrw.2 with ⟨e, h0⟩ | ⟨g2, cap2, cur, e, _⟩
            · omega
            · cases e; exact ⟨g2, rfl⟩
          subst e8
          have hcl3 : wr.cell? ⟨pg, ps0.length, none⟩ = some (.slice qa q.xs.length qc) := by rw [← eq]; exact own_last (unhide HG).ll.own
          rw [eq] at hown
          have HOw := hide hown
          have Hgp := hide (fun (v' : Value) (w' : World) (o : Obj) => GS.post (x := base + p % 1000) (v' := v') (w' := w') (o := o) (unhide HG) hszr)
          rw [eq] at Hgp
          have hP0 : Hid (ks.length - 1 = ps0.length) := hpl0.symm
          have i1 : ((ks.length : Int) - 1).toNat = ps0.length := by omega
          have i2 : (ks.length : Int) - 1 < (ps0.length : Int) + 1 := by omega
          rw [hne] at hl0
          have hcl4 : wr.cell? ⟨pg, ks.length - 1, none⟩ = some (.slice qa q.xs.length qc) := by rw [unhide hP0]; exact hcl3
          have Hok := hide (unhide HPM)
          clear hcl hne hpl HPL elen hrw hown Hlt Hsame HK hpl0 i1 hcl3
          go_wp2_with (at_builtin; refine wpList_append_own_at _ rfl _ _ 53 rfl w1.heap.size 3 i0 (.int .i64 0) 1 8 Tryz.underlying53 hi hz0 hz1 hz2 rfl (by decide) _ _ _ rfl (World.ownsRow.alloc (w := wr) (unhide HOw) _) ⟨wr.heap.size, 0, none⟩ 1 1 [.int .i64 (base + p % 1000)] rfl rfl (cell_1 (by simp)) (by intro u hu; simp at hu; subst hu; rfl) (by unfold maxLen; omega) (by omega) (by rw [sz_alloc]; omega) ?_; intro v4 w4 g1 g2 _ g4; have H4 := hide (unhide Hgp v4 w4 _ g1 g2 g4); obtain ⟨vg, vcap, rfl⟩ := ownsRow_succ g1; obtain ⟨c4, z4⟩ : w4.cell? ⟨pg, ks.length - 1, none⟩ = some (.slice qa q.xs.length qc) ∧ w4.frozen? ⟨pg, ks.length - 1, none⟩ = false := (by rw [unhide hP0]; obtain ⟨q', _, _, _, x1, x2⟩ := unhide H4; exact ⟨x1, x2⟩); clear g1 g2 g4)
          obtain ⟨q', e1, e2, e3, -, -⟩ := unhide H4
          rw [show (⟨pg, ks.length - 1, none⟩ : Addr) = ⟨pg, ps0.length, none⟩ by rw [unhide hP0]]
          refine ⟨⟨m + 1, ks, ps0 ++ [q'], by omega, by omega, len_snoc (fun r hr => unhide HPM r (by simp [hr])) (by rw [e1]; simp; omega), by go_num, ?_, e2, hb.trans e3⟩, by simp [intOf]; omega⟩
          rw [List.map_append, List.map_singleton, e1]
          exact unhide Hn
        · have Hn := hide (unhide Hlt (Or.inr hne))
          generalize ks[ks.length - 1]?.getD 0 = lk at *
          have hne' : (lk != p / 1000) = true := by simp [hne]
          have hPK : Hid (ks.length = ps.length) := hpl.symm
          have hkb : ks.length < ps.length + 1 := by omega
          have hkb' : (ks.length : Int) < (ps.length : Int) + 1 := by omega
          clear Hlt Hsame HK hpl HPL hk0 hcl hne
          go_wp2_with (first
            | (at_builtin; refine wpList_append_own_at _ rfl _ _ 53 rfl w1.heap.size 3 i0 (.int .i64 0) 1 8 Tryz.underlying53 hi hz0 hz1 hz2 rfl (by decide) _ _ _ rfl (World.ownsRow.alloc (w := wr) (unhide HG).keys _) ⟨wr.heap.size, 0, none⟩ 1 1 [.int .i64 (p / 1000)] rfl rfl (cell_1 (by simp)) (by intro u hu; simp at hu; subst hu; rfl) (by unfold maxLen; omega) (by omega) (by rw [sz_alloc]; show _ ≤ wr.heap.size + 1; omega) ?_; intro kv2 w2 g1 g2 _ g4; have H2 := hide (GT.key (w := wr) (unhide HG).toGT hszr g1 g2 g4); obtain ⟨kg, kcap, rfl⟩ := ownsRow_succ g1; have hz2' : w1.heap.size ≤ w2.heap.size := Nat.le_trans hszr (unhide H2).2.size; clear g1 g2 g4 HG)
            | (at_builtin; refine wpList_append_own_at _ rfl _ _ 54 rfl w1.heap.size 53 j0 (.slice none 0 0) 1 24 Tryz.underlying54 hj hy0 hy1 hy2 rfl (by decide) _ _ _ rfl (World.ownsRow.alloc (w := w2) (unhide H2).1.ll.own _) ⟨w2.heap.size, 0, none⟩ 1 1 [.slice none 0 0] rfl rfl (cell_1 (by simp)) (by intro u hu; simp at hu; subst hu; rfl) (by unfold maxLen; omega) (by omega) (by rw [sz_alloc]; omega) ?_; intro pv3 w3 g1 g2 _ _; have H3 := hide ((unhide H2).1.post0 hz2' g1 g2); obtain ⟨pg, pcap, rfl⟩ := ownsRow_succ g1; have hz3' : w1.heap.size ≤ w3.heap.size := Nat.le_trans hz2' (unhide H3).2.size; have hB3 := hide ((unhide H2).2.trans (unhide H3).2); have hcl3 : w3.cell? ⟨pg, ks.length, none⟩ = some (.slice none 0 0) := (by rw [unhide hPK]; exact own_last (unhide H3).1.ll.own); clear g1 g2 H2)
            | (at_builtin; refine wpList_append_own_at _ rfl _ _ 53 rfl w1.heap.size 3 i0 (.int .i64 0) 1 8 Tryz.underlying53 hi hz0 hz1 hz2 rfl (by decide) _ 0 [] rfl (World.ownsRow_nil _ _ _ _) ⟨w3.heap.size, 0, none⟩ 1 1 [.int .i64 (base + p % 1000)] rfl rfl (cell_1 (by simp)) (by intro u hu; simp at hu; subst hu; rfl) (by unfold maxLen; omega) (by omega) (by rw [sz_alloc]; omega) ?_; intro v4 w4 g1 g2 _ g4; have H4 := hide (GS.post (unhide H3).1 hz3' g1 g2 g4); obtain ⟨vg, vcap, rfl⟩ := ownsRow_succ g1; obtain ⟨c4, z4⟩ : w4.cell? ⟨pg, ks.length, none⟩ = some (.slice none 0 0) ∧ w4.frozen? ⟨pg, ks.length, none⟩ = false := (by rw [unhide hPK]; obtain ⟨q', _, _, _, x1, x2⟩ := unhide H4; exact ⟨x1, x2⟩); clear g1 g2 g4))
          obtain ⟨q', e1, e2, e3, -, -⟩ := unhide H4
          rw [show (⟨pg, ks.length, none⟩ : Addr) = ⟨pg, ps.length, none⟩ by rw [unhide hPK]]
          refine ⟨⟨m + 1, ks ++ [p / 1000], ps ++ [q'], by omega, by simp; omega, len_snoc (unhide HPM) (by rw [e1]; simp), by go_num, ?_, e2, hb.trans ((unhide hB3).trans e3)⟩, by simp [intOf]; omega⟩
          rw [List.map_append, List.map_singleton, e1]
          exact unhide Hn
    · obtain rfl : m = zs.length := by omega
      have Hseg := hide ((unhide HK).done (unhide HO) hL)
      have Hcnt := hide (unhide HK).cnt
      have hBf := hb1'.trans (hb.mono hz1')
      go_wp2_with fail
      go_ret2
      exact ⟨⟨_, _, ks, ps, rfl, unhide Hseg, ⟨Nat.le_trans (unhide Hcnt).2 hzl', Nat.le_trans (unhide Hcnt).1 hzl'⟩, (unhide HG).toGT.low hz1'⟩, hBf⟩

end Go.Proofs.YtbgjgaejfkdceaaGreat

namespace Go.Proofs.YtbgjgaejfkdceaaGreat
open Go.RowKit

/-- A segment that owns its memory, from block lo on. -/
def SegF (lo hi : Nat) (w : World) (v : Value) (base : Int) (xss : List (List Int)) (ks : List Int) (pss : List (List Int)) : Prop :=
  ∃ (lv kv pv : Value) (S1 S2 S3 : Nat → Prop), v = .agg #[.int .i64 base, lv, kv, pv] ∧ SsF mB 0 S1 w lv xss ∧ SlF mI 0 S2 w kv ks ∧ SsF mI 0 S3 w pv pss ∧
    (∀ k, S1 k ∨ S2 k ∨ S3 k → lo ≤ k ∧ k < hi) ∧ (∀ k, S1 k → ¬ S2 k ∧ ¬ S3 k) ∧ ∀ k, S2 k → ¬ S3 k
theorem SegF.same {lo hi : Nat} {w w' : World} {v : Value} {base : Int} {xss pss : List (List Int)} {ks : List Int} (h : SegF lo hi w v base xss ks pss) (hs : ∀ k, lo ≤ k → k < hi → w'.heap[k]? = w.heap[k]?) : SegF lo hi w' v base xss ks pss := by
  obtain ⟨lv, kv, pv, S1, S2, S3, e, h1, h2, h3, h4, h5, h6⟩ := h
  exact ⟨lv, kv, pv, S1, S2, S3, e, h1.same (fun k hk => hs k (h4 k (Or.inl hk)).1 (h4 k (Or.inl hk)).2), h2.same (fun k hk => hs k (h4 k (Or.inr (Or.inl hk))).1 (h4 k (Or.inr (Or.inl hk))).2), h3.same (fun k hk => hs k (h4 k (Or.inr (Or.inr hk))).1 (h4 k (Or.inr (Or.inr hk))).2), h4, h5, h6⟩
theorem SegF.keep {lo hi m : Nat} {w w' : World} {v : Value} {base : Int} {xss pss : List (List Int)} {ks : List Int} (h : SegF lo hi w v base xss ks pss) (hb : Below m w w') (hm : hi ≤ m) : SegF lo hi w' v base xss ks pss := h.same (fun k _ h2 => hb.block k (by omega))
theorem SegF.put {lo hi b o : Nat} {w : World} {v u : Value} {base : Int} {xss pss : List (List Int)} {ks : List Int} (h : SegF lo hi w v base xss ks pss) (hb : b < lo) : SegF lo hi (w.setCell ⟨b, o, none⟩ u) v base xss ks pss := h.same (fun k k1 _ => Below.heap_setCell _ _ _ _ (by show k ≠ b; omega))
theorem SegF.low {lo lo' hi hi' : Nat} {w : World} {v : Value} {base : Int} {xss pss : List (List Int)} {ks : List Int} (h : SegF lo hi w v base xss ks pss) (hl : lo' ≤ lo) (hh : hi ≤ hi') : SegF lo' hi' w v base xss ks pss := by
  obtain ⟨lv, kv, pv, S1, S2, S3, e, h1, h2, h3, h4, h5, h6⟩ := h
  exact ⟨lv, kv, pv, S1, S2, S3, e, h1, h2, h3, fun k hk => ⟨Nat.le_trans hl (h4 k hk).1, Nat.lt_of_lt_of_le (h4 k hk).2 hh⟩, h5, h6⟩
/-- In the blocks of S. -/
theorem LL.footP {α : Type} {mk : α → Value} {d : α} {e te : TypeId} {base : Nat} {w : World} {v : Value} {ps : List (Cl α)} {S : Nat → Prop} (hte : te ≠ e) (h : LL mk d e te base w v ps) (hrow : ∀ g, v.ownBlock = some g → S g) (hel : ∀ p ∈ ps, 0 < p.xs.length → S p.b) : SsF mk d S w v (ps.map Cl.xs) := by
  have hlen := h.own.1
  rcases h.own.2 with ⟨rfl, hz⟩ | ⟨g, cap, cur, rfl, hbg, hg, hnc, hcm, hcs, htake⟩
  · have : ps = [] := List.eq_nil_of_length_eq_zero hz
    subst this
    exact SsF.nil _ _ _ _ _ _ (Nat.zero_le _)
  · have hgl : g < w.heap.size := (h.own.lt g rfl).2
    have hget : ∀ i : Nat, i < ps.length → ∃ p, ps[i]? = some p ∧ p ∈ ps := fun i hi => ⟨ps[i], by simp [hi], List.getElem_mem hi⟩
    refine ⟨some ⟨g, 0, none⟩, cap, by rw [List.length_map], ⟨by rw [List.length_map]; exact hnc, hcm⟩, fun _ => ⟨g, 0, fun i => ((ps[i]?).map Cl.v).getD undef, fun i k => ∃ p, ps[i]? = some p ∧ 0 < p.xs.length ∧ k = p.b, rfl, hrow g rfl, ⟨cur, te, hg⟩, fun i hi => ?_, fun i hi => ?_, fun i hi k hk => ?_, fun i j hi hj hne k hk hk' => ?_⟩⟩
    · rw [List.length_map] at hi
      obtain ⟨p, hp, -⟩ := hget i hi
      show w.cell? ⟨g, 0 + i, none⟩ = some (((ps[i]?).map Cl.v).getD undef)
      rw [Nat.zero_add, h.own.cellAt i (by omega), List.getElem?_map, hp]
      rfl
    · rw [List.length_map] at hi
      obtain ⟨p, hp, hm⟩ := hget i hi
      have e1 : ((ps[i]?).map Cl.v).getD undef = p.v := by rw [hp]; rfl
      have e2 : ((ps.map Cl.xs)[i]?).getD [] = p.xs := by rw [List.getElem?_map, hp]; rfl
      show SlF mk d _ w (((ps[i]?).map Cl.v).getD undef) (((ps.map Cl.xs)[i]?).getD []) ∧ CapOk (((ps[i]?).map Cl.v).getD undef)
      rw [e1, e2]
      exact ⟨(h.ok p hm).foot.mono (fun k hk => ⟨p, hp, hk.1, hk.2⟩), (h.ok p hm).cap⟩
    · obtain ⟨p, hp, hp0, rfl⟩ := hk
      have hm : p ∈ ps := List.mem_of_getElem? hp
      refine ⟨hel p hm hp0, fun e1 => ?_⟩
      exact h.not_row hte (h.ok p hm) rfl hp0 (by rw [e1]; rfl)
    · obtain ⟨p, hp, hp0, rfl⟩ := hk
      obtain ⟨q, hq, hq0, e1⟩ := hk'
      rw [List.length_map] at hi hj
      have hpair := List.pairwise_iff_getElem.1 h.apart
      have ep : ps[i]'hi = p := by rw [List.getElem?_eq_getElem hi] at hp; exact Option.some.inj hp
      have eq : ps[j]'hj = q := by rw [List.getElem?_eq_getElem hj] at hq; exact Option.some.inj hq
      rcases Nat.lt_or_gt_of_ne hne with hlt | hlt
      · exact hpair i j hi hj hlt (by rw [ep]; exact hp0) (by rw [eq]; exact hq0) (by rw [ep, eq]; exact e1)
      · exact hpair j i hj hi hlt (by rw [eq]; exact hq0) (by rw [ep]; exact hp0) (by rw [ep, eq]; exact e1.symm)

/-- Out of its parts: the lines, then keys and posting lists. -/
theorem SegF.mk' {n m : Nat} {w : World} {base : Int} {lv kv pv : Value} {lps ps : List (Cl Int)} {ks : List Int} (hl : SsF mB 0 (Rng n m) w lv (lps.map Cl.xs)) (hg : GT m w kv ks pv ps) (hm : m ≤ w.heap.size) (hk : ks.length ≤ maxLen) (hnm : n ≤ m) : SegF n w.heap.size w (.agg #[.int .i64 base, lv, kv, pv]) base (lps.map Cl.xs) ks (ps.map Cl.xs) := by
  refine ⟨lv, kv, pv, Rng n m, fun k => kv.ownBlock = some k, fun k => Rng m w.heap.size k ∧ kv.ownBlock ≠ some k, rfl, hl, ?_, ?_, fun k hk => ?_, fun k hk => ⟨fun h2 => ?_, fun h3 => ?_⟩, fun k h2 h3 => h3.2 h2⟩
  · have hlen := hg.keys.1
    rcases hg.keys.2 with ⟨e, hz⟩ | ⟨g, cap, cur, e, hbg, hgb, hnc, hcm, hcs, htake⟩
    · refine ⟨0, 0, ⟨none, 0, by rw [e, hz], by omega, fun hp => by omega⟩, fun k h1 h2 => by omega⟩
    · subst e
      refine ⟨g, g + 1, ⟨_, cap, rfl, hk, fun hp => ⟨g, 0, rfl, Nat.le_refl _, Nat.lt_succ_self _, ⟨cur, _, hgb⟩, fun i hi => ?_⟩⟩, fun k h1 h2 => by rw [show k = g by omega]; rfl⟩
      rw [Nat.zero_add, hg.keys.cellAt i (by omega), List.getElem?_map, getD_of_lt hi]
      rfl
  · refine hg.ll.footP (by decide) (fun g e => ?_) (fun p hp h0 => ?_)
    · have h1 := hg.ll.own.lt g e
      refine ⟨⟨h1.1, h1.2⟩, fun e2 => ?_⟩
      rcases own_ne hg.ll.own hg.keys (by decide) with e3 | e3
      · rw [e3] at e; cases e
      · exact e3 (by rw [e, e2])
    · exact ⟨⟨hg.ll.lo p hp h0, (hg.ll.ok p hp).lt h0⟩, fun e2 => hg.kap p hp h0 e2.symm⟩
  · rcases hk with h | h | h
    · exact ⟨h.1, Nat.lt_of_lt_of_le h.2 hm⟩
    · have := hg.keys.lt k h
      exact ⟨by omega, this.2⟩
    · exact ⟨by have := h.1.1; omega, h.1.2⟩
  · have := hg.keys.lt k h2
    have := hk.2
    omega
  · have := h3.1.1
    have := hk.2
    omega

theorem run_bclone (x : Value) (w : World) : Sem.run Tryz.prog (callFunc 58 #[x]) w = .ok (.enter 58 #[x]) w := by kernel_rfl

/-- What building a segment answers: by the program. -/
def BuildGot (e : Ending) (w w' : World) (base : Int) (xss : List (List Int)) : Prop :=
  (Fits base xss ∧ ∃ v ks pss, e = .returned (.tuple #[v, .int .i64 0]) ∧ SegR base xss ks pss ∧ (ks.length ≤ 1048576 ∧ tot pss ≤ 1048576) ∧ SegF w.heap.size w'.heap.size w' v base xss ks pss) ∨ (¬ Fits base xss ∧ e = .returned (.tuple #[.agg #[.int .i64 0, .slice none 0 0, .slice none 0 0, .slice none 0 0], .int .i64 4]))

set_option maxHeartbeats 4000000 in
set_option maxRecDepth 100000 in
theorem implBuild_any (base : Int) (v : Value) (xss : List (List Int)) (w : World) (hv : SsAt mB 0 w.heap.size w v xss) (hbb : ∀ x ∈ xss, Bytes x) (hT : tot xss ≤ 1048576) (hL : xss.length ≤ 1048576) (hb0 : -9223372036854775808 ≤ base) (hb1 : base ≤ 9223372036854775807) :
    Calls Tryz.prog 66 #[.int .i64 base, v] w fun e w' => BuildGot e w w' base xss ∧ Below w.heap.size w w' := by
  obtain ⟨j0, hj, hy0, hy1, hy2⟩ := info_parts Tryz.zinByteS
  have Hv := hide hv
  have HB := hide hbb
  obtain ⟨a, cap, rfl, hl, hc⟩ := hv
  clear hbb hc
  have hb00 := below1 w (.cells #[.int .i64 0, .slice none 0 0, .slice none 0 0, .slice none 0 0] 56)
  have RR0 := Row4.new w 56 (.int .i64 0) (.slice none 0 0) (.slice none 0 0) (.slice none 0 0)
  go_enter Tryz.func66, Tryz.ntmps66
  go_wp2_with fail
  refine (fitSegment_any base _ xss _ ((unhide Hv).below hb00 (Nat.le_refl _)) (unhide HB) hT hL hb0 hb1).mono ?_
  rintro e w1 ⟨hr, q1, hw1⟩
  have hB1 : Below w.heap.size w w1 := by rw [hw1]; exact below_drewN hb00 q1
  have RR1 : Row4 w1 w.heap.size 56 (.int .i64 0) (.slice none 0 0) (.slice none 0 0) (.slice none 0 0) := by rw [hw1]; exact RR0
  have hz1 : w.heap.size + 1 ≤ w1.heap.size := by rw [hw1]; show _ ≤ (w.alloc _).heap.size; rw [sz_alloc]; exact Nat.le_refl _
  clear hw1 RR0 hb00
  rcases hr.cases with ⟨rfl, hm⟩ | ⟨rfl, hm⟩
  · have Hm := hide hm
    have h0 := hm.1
    have h1 := hm.2.2.1
    have HRR := hide RR1
    have hL2 : xss.length ≤ 1000 := by omega
    clear hm hr RR1
    go_wp2_with fail
    have hb20 := below1 w1 (.cells #[.int .i64 base, .slice none 0 0, .slice none 0 0, .slice none 0 0] 56)
    have RS0 := Row4.new w1 56 (.int .i64 base) (.slice none 0 0) (.slice none 0 0) (.slice none 0 0)
    go_loopw [18] (fun iv wr => ∃ (k : Nat) (lv : Value) (ps : List (Cl Int)), k ≤ xss.length ∧ ps.length ≤ k ∧ iv = .int .i64 k ∧ ps.map Cl.xs = xss.take k ∧ Row4 wr w1.heap.size 56 (.int .i64 base) lv (.slice none 0 0) (.slice none 0 0) ∧ LB (w1.heap.size + 1) wr lv ps ∧ Below w1.heap.size w1 wr) (fun iv _ => xss.length - (intOf iv).toNat)
    case atStart => exact ⟨0, _, [], Nat.zero_le _, Nat.le_refl _, rfl, by simp, RS0, LL.nil, hb20⟩
    case round =>
      obtain ⟨k, lv, ps, hk, hpk, rfl, hln, hbox, hll, hb⟩ := hrel
      have hszr := hb.size
      have Hll := hide hll
      have Hln := hide hln
      have Hbx := hide hbox
      obtain ⟨la, lc, rfl⟩ := own_is hll.own
      obtain ⟨f0, f1, f2, f3, g0, g1, g2, g3⟩ := hbox.facts
      have hBl : w1.heap.size < wr.heap.size := World.rowIs.lt hbox
      clear hll hln hbox
      by_cases hlt : k < xss.length
      · have hlt' : (k : Int) < (xss.length : Int) := by omega
        obtain ⟨_, _, e1, -, hc⟩ := (unhide Hv).below (hB1.trans (hb.mono (by omega))) (Nat.le_refl _)
        cases e1
        obtain ⟨b, off, rfl, hbn, hcell⟩ := hc (by omega)
        obtain ⟨s, hx, hs, -⟩ := hcell k hlt
        have Hs := hide hs
        have ht := tot_get xss k
        have Hsn := hide (take_snoc xss [] k hlt)
        obtain ⟨sa, sc, rfl, -, -⟩ := hs
        clear hcell hc
        generalize xss[k]?.getD [] = x at *
        have hS : Hid (∀ W' : World, Below wr.heap.size wr W' → W'.cell? ⟨w1.heap.size, 1, none⟩ = some (.slice la ps.length lc) ∧ W'.frozen? ⟨w1.heap.size, 1, none⟩ = false) := fun W' hW => by
          have := ((unhide Hbx).below hW (by omega)).facts
          exact ⟨this.2.1, this.2.2.2.2.2.1⟩
        have hS2 : Hid (∀ W' : World, Below (w1.heap.size + 1) wr W' → W'.cell? ⟨w1.heap.size, 1, none⟩ = some (.slice la ps.length lc) ∧ W'.frozen? ⟨w1.heap.size, 1, none⟩ = false) := fun W' hW => by
          have := ((unhide Hbx).below hW (by omega)).facts
          exact ⟨this.2.1, this.2.2.2.2.2.1⟩
        go_wp2_with fail
        go_region_law (
          (first
            | (refine step_call_o 58 #[.tmp 24] _ rfl #[.slice sa x.length sc] rfl (by first | (simp [Act.eval]; done) | (simp [Act.eval, Act.put]; done)) (run_bclone _) (bclone_any _ x _ (by exact unhide Hs) (by omega)) ?_; rintro e w5 ⟨⟨v5, rfl, hown5⟩, hb5⟩; have hB5 : Below wr.heap.size wr w5 := ⟨hb5.os, hb5.tape, hb5.output, hb5.size, hb5.block⟩; have Hown5 : Hid (w5.ownsRow wr.heap.size 5 1 v5 x.length (x.map mB)) := hown5; have hz5 := hB5.size; have HLk := hide ((unhide Hll).keep hB5 (Nat.le_refl _)); have Hpu := hide (LB.push (unhide Hll) (by omega) hB5 (Below.refl _ wr) (unhide Hown5)); obtain ⟨ya, yc, rfl⟩ := own_is hown5; obtain ⟨c5, z5⟩ := unhide hS _ hB5; obtain ⟨c6, z6⟩ := unhide hS _ (hB5.alloc hz5 (.cells #[.slice ya x.length yc] 25)); clear hown5 hb5; refine ⟨_, rfl, ?_⟩)
            | (refine step_append_lies _ rfl (.tmp 23) (.tmp 26) 22 rfl (w1.heap.size + 1) 25 j0 (.slice none 0 0) 1 24 Tryz.underlying22 hj hy0 hy1 hy2 rfl (by decide) (.slice la ps.length lc) ps.length (ps.map Cl.v) (by first | (simp [Act.eval]; done) | (simp [Act.eval, Act.put]; done)) (by refine Pushd.own (w := w5) (o := .cells #[.slice ya x.length yc] 25) ?_ (unhide HLk).own; exact ⟨rfl, rfl, rfl, rfl⟩) ⟨w5.heap.size, 0, none⟩ 1 1 [.slice ya x.length yc] (by first | (simp [Act.eval]; done) | (simp [Act.eval, Act.put]; done)) rfl (by refine Pushd.news (w := w5) (cs := #[.slice ya x.length yc]) (t := 25) ?_; exact ⟨rfl, rfl, rfl, rfl⟩) (by intro u hu; simp at hu; subst hu; rfl) (by decide) (by unfold maxLen; omega) (by omega) (by show w1.heap.size + 1 ≤ (w5.alloc _).heap.size; rw [sz_alloc]; omega) (w5.heap.size + 1) (sz_alloc w5 _) (fun gg cap' w7 q1 q2 q3 q4 => ?_); have h7 := hide (unhide Hpu w7 (.slice (some ⟨gg, 0, none⟩) (ps.length + 1) cap') q1 q2); have hB7 : Below (w1.heap.size + 1) wr w7 := (by obtain ⟨_, _, _, r⟩ := unhide h7; exact r); obtain ⟨c7, z7⟩ := unhide hS2 _ hB7; clear q1 q2 q3 q4)))
        all_goals
          go_wp2
          obtain ⟨p, r1, r2, r3⟩ := unhide h7
          exact ⟨⟨k + 1, _, ps ++ [p], by omega, by simp; omega, by go_num, by rw [unhide Hsn, ← unhide Hln, ← r1, List.map_append]; rfl, ((unhide Hbx).below hB7 (by omega)).put1, r2.putlo (by omega), bput (hb.trans (hB7.mono (by omega))) (Nat.le_refl _) _⟩, by simp [intOf]; omega⟩
      · obtain rfl : k = xss.length := by omega
        have Hx : Hid (ps.map Cl.xs = xss) := by
          have := unhide Hln
          rwa [List.take_length] at this
        obtain ⟨w4, hw4⟩ : ∃ w4, w4 = wr := ⟨_, rfl⟩
        rw [← hw4] at hb hszr Hll Hbx f0 f1 f2 f3 g0 g1 g2 g3 hBl ⊢
        clear hw4
        go_wp2_with fail
        refine (postingLists_any base _ xss _ ((unhide Hv).below (hB1.trans (hb.mono (by omega))) (Nat.le_refl _)) (unhide HB) hT hL2 h0 (by omega)).mono ?_
        rintro e w5 ⟨⟨kv, pv, ks, qs, rfl, hseg, hcnt, hgt⟩, hb5⟩
        have Hcnt := hide hcnt
        clear hcnt
        have hz5 := hb5.size
        have Hseg := hide hseg
        have Hgt := hide hgt
        have SL := hide ((LB.footR (unhide Hll)).keep hb5 (Nat.le_refl _))
        have Hb5 := hide ((unhide Hbx).below hb5 hBl)
        obtain ⟨ka, kc, rfl⟩ := own_is hgt.keys
        obtain ⟨pa, pc, rfl⟩ := own_is hgt.ll.own
        clear f0 f1 f2 f3 g0 g1 g2 g3
        obtain ⟨f0, f1, f2, f3, g0, g1, g2, g3⟩ := (unhide Hb5).facts
        have hB5 : Below w1.heap.size w1 w5 := hb.trans (hb5.mono (by omega))
        have hRR := hide ((unhide HRR).below hB5 (by omega))
        obtain ⟨r0, r1, r2, r3, t0, t1, t2, t3⟩ := (unhide hRR).facts
        clear hseg hgt
        go_wp2_with fail
        have hks : ks.length ≤ maxLen := by
          have h8 := own_cap (unhide Hgt).keys
          have := h8.le
          omega
        have hF := SegF.mk' (base := base) (unhide SL) (unhide Hgt) hz5 hks (by omega)
        rw [unhide Hx] at hF
        have hF' := ((((((hF.put (b := w1.heap.size) (o := 2) (u := .slice ka ks.length kc) (by omega)).put (b := w1.heap.size) (o := 3) (u := .slice pa qs.length pc) (by omega)).put (b := w.heap.size) (o := 0) (u := .int .i64 base) (by omega)).put (b := w.heap.size) (o := 1) (u := .slice la ps.length lc) (by omega)).put (b := w.heap.size) (o := 2) (u := .slice ka ks.length kc) (by omega)).put (b := w.heap.size) (o := 3) (u := .slice pa qs.length pc) (by omega)).low (lo' := w.heap.size) (by omega) (Nat.le_of_eq (show w5.heap.size = ((((((w5.setCell ⟨w1.heap.size, 2, none⟩ (.slice ka ks.length kc)).setCell ⟨w1.heap.size, 3, none⟩ (.slice pa qs.length pc)).setCell ⟨w.heap.size, 0, none⟩ (.int .i64 base)).setCell ⟨w.heap.size, 1, none⟩ (.slice la ps.length lc)).setCell ⟨w.heap.size, 2, none⟩ (.slice ka ks.length kc)).setCell ⟨w.heap.size, 3, none⟩ (.slice pa qs.length pc)).heap.size by simp only [sz_put]))
        have hRF := (((((unhide hRR).other (b' := w1.heap.size) (o := 2) (u := .slice ka ks.length kc) (by omega)).other (b' := w1.heap.size) (o := 3) (u := .slice pa qs.length pc) (by omega)).put0 (u := .int .i64 base)).put1 (u := .slice la ps.length lc)).put2 (u := .slice ka ks.length kc) |>.put3 (u := .slice pa qs.length pc)
        obtain ⟨e0, e1, e2, e3, -⟩ := hRF.facts
        have hBB := bput (bput (bput (bput (bput (bput (hB1.trans (hB5.mono (by omega))) (b := w1.heap.size) (o := 2) (by omega) (.slice ka ks.length kc)) (b := w1.heap.size) (o := 3) (by omega) (.slice pa qs.length pc)) (b := w.heap.size) (o := 0) (Nat.le_refl _) (.int .i64 base)) (b := w.heap.size) (o := 1) (Nat.le_refl _) (.slice la ps.length lc)) (b := w.heap.size) (o := 2) (Nat.le_refl _) (.slice ka ks.length kc)) (b := w.heap.size) (o := 3) (Nat.le_refl _) (.slice pa qs.length pc)
        exact bodyPost_ret (v := .tuple #[.agg #[.int .i64 base, .slice la ps.length lc, .slice ka ks.length kc, .slice pa qs.length pc], .int .i64 0]) (by simp [results, Tryz.results66, go_sem, e0, e1, e2, e3]) rfl ⟨Or.inl ⟨unhide Hm, _, ks, qs.map Cl.xs, rfl, unhide Hseg, unhide Hcnt, hF'⟩, hBB⟩
  · have Hm := hide hm
    have HRR := hide RR1
    obtain ⟨r0, r1, r2, r3, t0, t1, t2, t3⟩ := RR1.facts
    clear hm hr RR1
    go_wp2_with fail
    obtain ⟨e0, e1, e2, e3, -⟩ := ((((unhide HRR).put0 (u := .int .i64 0)).put1 (u := .slice none 0 0)).put2 (u := .slice none 0 0)).put3 (u := .slice none 0 0) |>.facts
    refine bodyPost_ret (v := .tuple #[.agg #[.int .i64 0, .slice none 0 0, .slice none 0 0, .slice none 0 0], .int .i64 4]) (by simp [results, Tryz.results66, go_sem, e0, e1, e2, e3]) rfl ⟨Or.inr ⟨unhide Hm, rfl⟩, bput (bput (bput (bput hB1 (Nat.le_refl _) _) (Nat.le_refl _) _) (Nat.le_refl _) _) (Nat.le_refl _) _⟩

end Go.Proofs.YtbgjgaejfkdceaaGreat

namespace Go.Proofs.YtbgjgaejfkdceaaGreat
open Go.RowKit

/-- A segment that can be read. -/
def SegRd (w : World) (v : Value) (base : Int) (xss : List (List Int)) (ks : List Int) (pss : List (List Int)) : Prop :=
  ∃ lv kv pv, v = .agg #[.int .i64 base, lv, kv, pv] ∧ SsAt mB 0 w.heap.size w lv xss ∧ SlAt mI 0 0 w.heap.size w kv ks ∧ SsAt mI 0 w.heap.size w pv pss
theorem SegRd.below {w w' : World} {v : Value} {base : Int} {xss pss : List (List Int)} {ks : List Int} {m : Nat} (h : SegRd w v base xss ks pss) (hb : Below m w w') (hm : w.heap.size ≤ m) : SegRd w' v base xss ks pss := by
  obtain ⟨lv, kv, pv, e, h1, h2, h3⟩ := h
  exact ⟨lv, kv, pv, e, h1.below hb hm, h2.below hb hm, h3.below hb hm⟩
theorem SegAt.rd {lo : Nat} {w : World} {v : Value} {base : Int} {xss pss : List (List Int)} {ks : List Int} (h : SegAt lo w v base xss ks pss) : SegRd w v base xss ks pss := by
  obtain ⟨lv, kv, pv, e, h1, h2, h3⟩ := h
  exact ⟨lv, kv, pv, e, h1.all (Nat.le_refl _), h2.all (Nat.le_refl _), h3.all (Nat.le_refl _)⟩
theorem SegF.rd {lo hi : Nat} {w : World} {v : Value} {base : Int} {xss pss : List (List Int)} {ks : List Int} (h : SegF lo hi w v base xss ks pss) (hh : hi ≤ w.heap.size) : SegRd w v base xss ks pss := by
  obtain ⟨lv, kv, pv, S1, S2, S3, e, h1, h2, h3, h4, h5, h6⟩ := h
  exact ⟨lv, kv, pv, e, h1.at (fun k hk => Nat.lt_of_lt_of_le (h4 k (Or.inl hk)).2 hh), h2.at (fun k hk => Nat.lt_of_lt_of_le (h4 k (Or.inr (Or.inl hk))).2 hh), h3.at (fun k hk => Nat.lt_of_lt_of_le (h4 k (Or.inr (Or.inr hk))).2 hh)⟩
theorem SegRd.zero (w : World) : SegRd w (.agg #[.int .i64 0, .slice none 0 0, .slice none 0 0, .slice none 0 0]) 0 [] [] [] :=
  ⟨_, _, _, rfl, ⟨none, 0, rfl, ⟨Nat.le_refl _, Nat.zero_le _⟩, fun h => absurd h (by simp)⟩, ⟨none, 0, rfl, Nat.zero_le _, fun h => absurd h (by simp)⟩, ⟨none, 0, rfl, ⟨Nat.le_refl _, Nat.zero_le _⟩, fun h => absurd h (by simp)⟩⟩
theorem SegAt.zero (lo : Nat) (w : World) : SegAt lo w (.agg #[.int .i64 0, .slice none 0 0, .slice none 0 0, .slice none 0 0]) 0 [] [] [] :=
  ⟨_, _, _, rfl, SsF.nil _ _ _ _ _ _ (Nat.zero_le _), ⟨none, 0, rfl, Nat.zero_le _, fun h => absurd h (by simp)⟩, SsF.nil _ _ _ _ _ _ (Nat.zero_le _)⟩
theorem SegF.zero (lo hi : Nat) (w : World) : SegF lo hi w (.agg #[.int .i64 0, .slice none 0 0, .slice none 0 0, .slice none 0 0]) 0 [] [] [] :=
  ⟨_, _, _, fun _ => False, fun _ => False, fun _ => False, rfl, SsF.nil _ _ _ _ _ _ (Nat.zero_le _), ⟨0, 0, ⟨none, 0, rfl, Nat.zero_le _, fun h => absurd h (by simp)⟩, fun k _ h => absurd h (by omega)⟩, SsF.nil _ _ _ _ _ _ (Nat.zero_le _), fun k h => by simp at h, fun k h => by simp at h, fun k h => by simp at h⟩

/-- How a segment's marks are counted. -/
def segN (xss : List (List Int)) (ks : List Int) (pss : List (List Int)) : Int := (tot xss : Int) + ks.length + tot pss
/-- A segment whose numbers are marks. -/
def SegMk (w : World) (v : Value) (base k : Int) (xss : List (List Int)) (ks : List Int) (pss : List (List Int)) : Prop :=
  SegRd w v base (marksL cntB k xss) (cnts (k + tot xss) ks.length) (marksL cnts (k + tot xss + ks.length) pss)

end Go.Proofs.YtbgjgaejfkdceaaGreat

namespace Go.Proofs.YtbgjgaejfkdceaaGreat
open Go.RowKit

/-- A number as a varint. -/
def viF : Nat → Int → List Int
  | 0, n => [n % 256]
  | k + 1, n => if n < 128 then [n % 256] else (n % 128 + 128) :: viF k (n / 128)
/-- A number as a varint. -/
def vi (n : Int) : List Int := viF n.toNat n
theorem viF_enough : ∀ (k j : Nat) (n : Int), n.toNat ≤ k → n.toNat ≤ j → viF k n = viF j n
  | 0, 0, _, _, _ => rfl
  | 0, j + 1, n, h, _ => by rw [viF, viF, if_pos (by omega)]
  | k + 1, 0, n, _, h => by rw [viF, viF, if_pos (by omega)]
  | k + 1, j + 1, n, h, h' => by
    rw [viF, viF]
    by_cases g : n < 128
    · rw [if_pos g, if_pos g]
    · rw [if_neg g, if_neg g, viF_enough k j (n / 128) (by omega) (by omega)]
theorem vi_lo {n : Int} (h : n < 128) : vi n = [n % 256] := by
  unfold vi
  cases n.toNat with
  | zero => rfl
  | succ k => rw [viF, if_pos h]
theorem vi_hi {n : Int} (h : ¬ n < 128) : vi n = (n % 128 + 128) :: vi (n / 128) := by
  unfold vi
  obtain ⟨k, hk⟩ : ∃ k, n.toNat = k + 1 := ⟨n.toNat - 1, by omega⟩
  rw [hk, viF, if_neg h, viF_enough k (n / 128).toNat (n / 128) (by omega) (by omega)]
theorem vi_ind {P : Int → Prop} (lo : ∀ n, n < 128 → P n) (hi : ∀ n, ¬ n < 128 → P (n / 128) → P n) (n : Int) : P n := by
  have key : ∀ (k : Nat) (n : Int), n.toNat ≤ k → P n := by
    intro k
    induction k with
    | zero => intro n h; exact lo n (by omega)
    | succ k ih =>
      intro n h
      by_cases g : n < 128
      · exact lo n g
      · exact hi n g (ih _ (by omega))
  exact key _ n (Nat.le_refl _)
theorem vi_len (k : Nat) : ∀ n : Int, n < 128 ^ (k + 1) → (vi n).length ≤ k + 1 := by
  induction k with
  | zero => intro n h; rw [vi_lo (by simpa using h)]; simp
  | succ k ih =>
    intro n h
    by_cases h1 : n < 128
    · rw [vi_lo h1]; simp
    · rw [vi_hi h1, List.length_cons]
      have := ih (n / 128) (by rw [Int.pow_succ] at h; omega)
      omega
theorem vi_len9 {n : Int} (h : n ≤ 9223372036854775807) : (vi n).length ≤ 9 := vi_len 8 n (by omega)
theorem vi_bytes (n : Int) : ∀ x ∈ vi n, 0 ≤ x ∧ x ≤ 255 := by
  induction n using vi_ind with
  | lo n h => rw [vi_lo h]; intro x hx; simp at hx; omega
  | hi n h ih =>
    rw [vi_hi h]
    intro x hx
    rcases List.mem_cons.1 hx with rfl | hx
    · omega
    · exact ih x hx

/-- A whole list of bytes behind a row of one's own. -/
theorem app_moreB {w : World} {ops : Array Oper} {rest : List Oper} {o : Oper} {a : Act} {Q : Exit → Act → World → Prop} (hgd : o.guard = none) (s x : Operand)
    (ho : o.op = .call { callee := .builtin .append, args := #[s, x], argTypes := #[25, 25] }) (base : Nat) (ov : Value) (hs : a.eval s = ov) (os : List Int) (hown : w.ownsRow base 5 1 ov os.length (os.map mB)) (hbase : base ≤ w.heap.size)
    (sv : Value) (hx : a.eval x = sv) (xs : List Int) (hv : SlAt mB 0 0 w.heap.size w sv xs) (hlen : os.length + xs.length ≤ 1073741824)
    (h : ∀ v' w', Below base w w' → w'.ownsRow base 5 1 v' (os ++ xs).length ((os ++ xs).map mB) → v'.oneCell' = true → wpList Tryz.prog ops Q rest (a.put o.dst v') w') : wpList Tryz.prog ops Q (o :: rest) a w := by
  obtain ⟨i0, hi, hz0, hz1, hz2⟩ := info_parts Tryz.zinByte
  obtain ⟨sa, sc, rfl, hl, hc⟩ := hv
  cases sa with
  | none =>
    have h0 : xs.length = 0 := by
      by_cases q : 0 < xs.length
      · obtain ⟨b, off, e, -⟩ := hc q; simp at e
      · omega
    rw [h0] at hx
    refine wpList_append_none_c hgd s x 25 ho base 5 i0 1 Tryz.underlying25 hi _ os.length (os.map mB) hs hown sc hx (h _ w (Below.refl _ _) (by rw [List.eq_nil_of_length_eq_zero h0, List.append_nil]; exact hown) ?_)
    obtain ⟨oa, oc, rfl⟩ := own_is hown
    rfl
  | some ad =>
    refine wpList_append_own_at w hgd s x 25 ho base 5 i0 (.int .u8 0) 1 1 Tryz.underlying25 hi hz0 hz1 hz2 rfl (by decide) _ os.length (os.map mB) hs hown ad xs.length sc (xs.map mB) hx (by simp) ?_ ?_ (by unfold maxLen; omega) (by omega) hbase ?_
    · intro j u hu
      have hj : j < xs.length := by
        have := (List.getElem?_eq_some_iff.1 hu).1
        simpa using this
      obtain ⟨b, off, e, -, -, hcell⟩ := hc (by omega)
      simp only [Option.some.injEq] at e
      subst e
      rw [List.getElem?_map, getD_of_lt hj] at hu
      simp only [Option.map_some, Option.some.injEq] at hu
      subst hu
      have e3 : (⟨b, off, none⟩ : Addr).add j = ⟨b, off + j, none⟩ := by cases j <;> rfl
      rw [e3]
      exact hcell j hj
    · intro u hu
      obtain ⟨y, -, rfl⟩ := List.mem_map.1 hu
      rfl
    · intro v' w' h1 hg _ _
      have h2 : w'.ownsRow base 5 1 v' (os ++ xs).length ((os ++ xs).map mB) := by rw [List.length_append, List.map_append]; exact h1
      obtain ⟨oa, oc, rfl⟩ := own_is h2
      exact h _ w' ((Below.refl _ _).grown hg hbase (fun k hk => (hown.lt k hk).1)) h2 rfl

/-- What owns its row can be read. -/
theorem own_rdB {base n : Nat} {w : World} {v : Value} {xs : List Int} (h : w.ownsRow base 5 1 v n (xs.map mB)) (hn : n ≤ maxLen) : SlAt mB 0 0 w.heap.size w v xs := by
  have hlen := h.1
  rw [List.length_map, Nat.mul_one] at hlen
  rcases h.2 with ⟨rfl, hz⟩ | ⟨g, cap, cur, rfl, hbg, hg, hnc, hcm, hcs, htake⟩
  · exact ⟨none, 0, by rw [hlen, hz], by omega, fun hp => by omega⟩
  · refine ⟨_, cap, by rw [hlen], by omega, fun hp => ⟨g, 0, rfl, Nat.zero_le _, (h.lt g rfl).2, fun i hi => ?_⟩⟩
    rw [Nat.zero_add, h.cellAt i (by omega), List.getElem?_map, getD_of_lt hi]
    rfl

/-- What the model's l4varint answers. -/
def ViR (e : Ending) (w w' : World) (n : Int) : Prop := ∃ v, e = .returned v ∧ w'.ownsRow w.heap.size 5 1 v (vi n).length ((vi n).map mB)

theorem viR_lo {n : Int} (h : n < 128) (w : World) : ViR (.returned (.slice (some ⟨w.heap.size, 0, none⟩) 1 1)) w (w.alloc (.cells #[.int .u8 (n % 256)] 5)) n :=
  ⟨_, rfl, by rw [vi_lo h]; exact World.ownsRow_lit w #[.int .u8 (n % 256)] 1 (Nat.le_refl _) (by unfold maxLen; omega) rfl⟩

set_option maxHeartbeats 2000000 in
set_option maxRecDepth 100000 in
theorem l4varint_lo (n : Int) (w : World) (h1 : n < 128) (_hn0 : -9223372036854775808 ≤ n) :
    Calls Tryz.prog 64 #[.int .i64 n] w fun e w' => ViR e w w' n ∧ Below w.heap.size w w' := by
  go_enter Tryz.func64, Tryz.ntmps64
  go_wp2
  go_ret
  exact ⟨viR_lo h1 w, below1 _ _⟩

set_option maxHeartbeats 2000000 in
set_option maxRecDepth 100000 in
theorem l4varint_f (f : Nat) : ∀ (n : Int) (w : World), n < 128 ^ (f + 1) → f ≤ 8 → n ≤ 9223372036854775807 → -9223372036854775808 ≤ n →
    Calls Tryz.prog 64 #[.int .i64 n] w fun e w' => ViR e w w' n ∧ Below w.heap.size w w' := by
  induction f with
  | zero => intro n w h0 _ _ h; exact l4varint_lo n w (by simpa using h0) h
  | succ f ih =>
    intro n w h0 hf hn1 hn0
    by_cases h1 : n < 128
    · exact l4varint_lo n w h1 hn0
    · have hlt : n / 128 < 128 ^ (f + 1) := by rw [Int.pow_succ] at h0; omega
      have IH := hide (fun w => ih (n / 128) w hlt (by omega) (by omega) (by omega))
      have Hv := hide (vi_hi h1)
      have hln := vi_len f (n / 128) hlt
      clear ih hlt h0
      have hb0 := below1 w (.cells #[.int .u8 (n % 128 + 128)] 5)
      have HO : Hid ((w.alloc (.cells #[.int .u8 (n % 128 + 128)] 5)).ownsRow w.heap.size 5 1 (.slice (some ⟨w.heap.size, 0, none⟩) 1 1) 1 ([n % 128 + 128].map mB)) := World.ownsRow_lit w #[.int .u8 (n % 128 + 128)] 1 (Nat.le_refl _) (by unfold maxLen; omega) rfl
      go_enter Tryz.func64, Tryz.ntmps64
      go_wp2_with fail
      generalize w.alloc (.cells #[.int .u8 (n % 128 + 128)] 5) = V at *
      refine (unhide IH V).mono ?_
      rintro e w1 ⟨⟨v1, rfl, hown⟩, hb1⟩
      have hz0 := hb0.size
      have hz1 := hb1.size
      have HO1 := hide (own_keep (unhide HO) hb1 (Nat.le_refl _))
      have HS1 := hide (own_rdB hown (by unfold maxLen; omega))
      have hB1 : Below w.heap.size w w1 := hb0.trans (hb1.mono hz0)
      obtain ⟨oa, oc, rfl⟩ := own_is hown
      clear hown hb1 hb0
      go_wp2_with (at_builtin; refine app_moreB rfl _ _ rfl w.heap.size _ rfl [n % 128 + 128] (by exact unhide HO1) (by omega) _ rfl (vi (n / 128)) (by exact unhide HS1) (by simp; omega) ?_; intro v3 w3 hb3 ho3 hoc3)
      go_ret
      exact ⟨⟨_, rfl, by rw [unhide Hv]; exact ho3⟩, hB1.trans hb3⟩

theorem l4varint_any (n : Int) (w : World) (hn1 : n ≤ 9223372036854775807) (hn0 : -9223372036854775808 ≤ n) :
    Calls Tryz.prog 64 #[.int .i64 n] w fun e w' => ViR e w w' n ∧ Below w.heap.size w w' := l4varint_f 8 n w (by omega) (Nat.le_refl _) hn1 hn0

end Go.Proofs.YtbgjgaejfkdceaaGreat
