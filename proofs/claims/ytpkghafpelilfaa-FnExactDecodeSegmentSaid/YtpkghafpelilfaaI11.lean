import Derived.Test.YtpkghafpelilfaaI10
namespace Go.Proofs.Ytpkghafpelilfaa
open Go.RowKit

theorem own_ne {b b' e e' s s' n n' : Nat} {w : World} {v v' : Value} {xs xs' : List Value} (h : w.ownsRow b e s v n xs) (h' : w.ownsRow b' e' s' v' n' xs') (he : e ≠ e') : v.ownBlock = none ∨ v.ownBlock ≠ v'.ownBlock := by
  rcases h.2 with ⟨rfl, _⟩ | ⟨g, cap, cur, rfl, _, hg, _⟩
  · exact Or.inl rfl
  · refine Or.inr (fun e1 => ?_)
    rcases h'.2 with ⟨rfl, _⟩ | ⟨g', cap', cur', rfl, _, hg', _⟩
    · simp [Value.ownBlock] at e1
    · obtain rfl : g = g' := by simpa [Value.ownBlock] using e1
      rw [hg] at hg'
      simp at hg'
      exact he hg'.2
theorem LL.grown {α : Type} {mk : α → Value} {d : α} {e te : TypeId} {base : Nat} {w w' : World} {v : Value} {ps : List (Cl α)} {row : Option Nat} (h : LL mk d e te base w v ps) (hg : w.grownBy w' row) (hr : v.ownBlock = none ∨ v.ownBlock ≠ row) (he : ∀ p ∈ ps, 0 < p.xs.length → some p.b ≠ row) : LL mk d e te base w' v ps :=
  ⟨h.own.kept hg hr, fun p hp => (h.ok p hp).same (fun h0 => hg.block p.b ((h.ok p hp).lt h0) (he p hp h0)), h.lo, h.apart⟩
theorem grown_alloc (w : World) (o : Obj) : w.grownBy (w.alloc o) none := ⟨rfl, rfl, rfl, by rw [sz_alloc]; omega, fun k hk _ => (pushd_alloc w o).old hk⟩

/-- Keys and posting lists that own their memory. -/
structure GT (n0 : Nat) (w : World) (kv : Value) (ks : List Int) (pv : Value) (ps : List (Cl Int)) : Prop where
  keys : w.ownsRow n0 3 1 kv ks.length (ks.map mI)
  ll : LL mI 0 3 23 n0 w pv ps
  kap : ∀ p ∈ ps, 0 < p.xs.length → some p.b ≠ kv.ownBlock
/-- .. and the last list can grow. -/
structure GS (n0 : Nat) (w : World) (kv : Value) (ks : List Int) (pv : Value) (ps : List (Cl Int)) : Prop extends GT n0 w kv ks pv ps where
  last : ∀ ps' q, ps = ps' ++ [q] → w.ownsRow n0 3 1 q.v q.xs.length (q.xs.map mI) ∧ (q.v.ownBlock = none ∨ (0 < q.xs.length ∧ q.v.ownBlock = some q.b))

theorem GT.nil {n0 : Nat} {w : World} : GS n0 w (.slice none 0 0) [] (.slice none 0 0) [] := ⟨⟨World.ownsRow_nil _ _ _ _, LL.nil, by simp⟩, fun ps' q e => by simp at e⟩
theorem GT.drewN {n0 : Nat} {w : World} {kv pv : Value} {ks : List Int} {ps : List (Cl Int)} (h : GT n0 w kv ks pv ps) (q : Nat) : GT n0 (w.drewN q) kv ks pv ps := ⟨h.keys, ⟨h.ll.own, h.ll.ok, h.ll.lo, h.ll.apart⟩, h.kap⟩
theorem GS.drewN {n0 : Nat} {w : World} {kv pv : Value} {ks : List Int} {ps : List (Cl Int)} (h : GS n0 w kv ks pv ps) (q : Nat) : GS n0 (w.drewN q) kv ks pv ps := ⟨h.toGT.drewN q, h.last⟩

/-- One key more. -/
theorem GT.key {n0 : Nat} {w w' : World} {kv kv' pv : Value} {ks : List Int} {ps : List (Cl Int)} {k : Int} {o : Obj} (h : GT n0 w kv ks pv ps) (hn : n0 ≤ w.heap.size) (h1 : w'.ownsRow n0 3 1 kv' (ks.length + 1) (ks.map mI ++ [.int .i64 k])) (hg : (w.alloc o).grownBy w' kv.ownBlock)
    (hat : kv'.ownBlock = kv.ownBlock ∨ kv'.ownBlock = some (w.alloc o).heap.size) : GT n0 w' kv' (ks ++ [k]) pv ps ∧ Below n0 w w' := by
  refine ⟨⟨by rw [List.length_append, List.map_append]; exact h1, (h.ll.grown (grown_alloc w o) (by cases pv.ownBlock <;> simp) (fun _ _ _ => by simp)).grown hg ?_ h.kap, fun p hp h0 => ?_⟩, ((below1 w o).mono hn).grown hg (by rw [sz_alloc]; omega) (fun j hj => (h.keys.lt j hj).1)⟩
  · exact own_ne h.ll.own h.keys (by decide)
  · rcases hat with e | e
    · rw [e]; exact h.kap p hp h0
    · rw [e]
      intro e2
      have h2 := (h.ll.ok p hp).lt h0
      rw [sz_alloc] at e2
      have := Option.some.inj e2
      omega

/-- One empty posting list more. -/
theorem GT.post0 {n0 : Nat} {w w' : World} {kv pv pv' : Value} {ks : List Int} {ps : List (Cl Int)} {o : Obj} (h : GT n0 w kv ks pv ps) (hn : n0 ≤ w.heap.size) (h1 : w'.ownsRow n0 23 1 pv' (ps.length + 1) (ps.map Cl.v ++ [.slice none 0 0])) (hg : (w.alloc o).grownBy w' pv.ownBlock) :
    GS n0 w' kv ks pv' (ps ++ [⟨.slice none 0 0, [], 0⟩]) ∧ Below n0 w w' := by
  obtain ⟨r1, r2⟩ := h.ll.app (p := ⟨.slice none 0 0, [], 0⟩) (by decide) hn ⟨none, 0, rfl, ⟨Nat.le_refl _, Nat.zero_le _⟩, fun h0 => absurd h0 (by simp)⟩ (fun h0 => absurd h0 (by simp)) (fun q _ _ h0 => absurd h0 (by simp)) (pushd_alloc w o) h1 hg
  refine ⟨⟨⟨(h.keys.alloc o).kept hg ?_, r1, fun p hp h0 => ?_⟩, fun ps' q e => ?_⟩, r2⟩
  · exact own_ne h.keys h.ll.own (by decide)
  · rcases List.mem_append.1 hp with hp | hp
    · exact h.kap p hp h0
    · rw [List.mem_singleton] at hp
      subst hp
      exact absurd h0 (by simp)
  · have e2 := (List.append_inj' e rfl).2
    rw [List.singleton_inj] at e2
    subst e2
    exact ⟨World.ownsRow_nil _ _ _ _, Or.inl rfl⟩

theorem own_block_is {base e n : Nat} {w : World} {v : Value} {xs : List Int} (h : w.ownsRow base e 1 v n (xs.map mI)) (hp : 0 < n) : ∃ g, v.ownBlock = some g ∧ Cl.ok mI 0 e w ⟨v, xs, g⟩ ∧ base ≤ g ∧ g < w.heap.size := by
  have hlen := h.1
  rw [List.length_map, Nat.mul_one] at hlen
  rcases h.2 with ⟨rfl, hz⟩ | ⟨g, cap, cur, rfl, hbg, hg, hnc, hcm, hcs, htake⟩
  · omega
  · refine ⟨g, rfl, ⟨some ⟨g, 0, none⟩, cap, by rw [hlen], ⟨by show xs.length ≤ cap; omega, hcm⟩, fun hp => ⟨0, rfl, ⟨cur, hg⟩, fun i hi => ?_⟩⟩, hbg, (h.lt g rfl).2⟩
    have hi' : i < xs.length := hi
    show w.cell? ⟨g, 0 + i, none⟩ = some (mI (xs[i]?.getD 0))
    rw [Nat.zero_add, h.cellAt i (by omega), List.getElem?_map, List.getElem?_eq_getElem hi']
    rfl

/-- The last posting list grows by one. -/
theorem GS.post {n0 g : Nat} {w w' : World} {kv v' : Value} {ks : List Int} {ps : List (Cl Int)} {q : Cl Int} {x : Int} {o : Obj} {cap : Nat} (h : GS n0 w kv ks (.slice (some ⟨g, 0, none⟩) (ps.length + 1) cap) (ps ++ [q])) (hn : n0 ≤ w.heap.size)
    (h1 : w'.ownsRow n0 3 1 v' (q.xs.length + 1) (q.xs.map mI ++ [.int .i64 x])) (hg : (w.alloc o).grownBy w' q.v.ownBlock) (hat : v'.ownBlock = q.v.ownBlock ∨ v'.ownBlock = some (w.alloc o).heap.size) :
    ∃ q' : Cl Int, q'.xs = q.xs ++ [x] ∧ GS n0 (w'.setCell ⟨g, ps.length, none⟩ v') kv ks (.slice (some ⟨g, 0, none⟩) (ps.length + 1) cap) (ps ++ [q']) ∧ Below n0 w (w'.setCell ⟨g, ps.length, none⟩ v') ∧ w'.cell? ⟨g, ps.length, none⟩ = some q.v ∧ w'.frozen? ⟨g, ps.length, none⟩ = false := by
  obtain ⟨hq, hqb⟩ := h.last ps q rfl
  have h1' : w'.ownsRow n0 3 1 v' (q.xs ++ [x]).length ((q.xs ++ [x]).map mI) := by rw [List.length_append, List.map_append]; exact h1
  obtain ⟨g', e', hok', hlo', hlt'⟩ := own_block_is (xs := q.xs ++ [x]) (n := (q.xs ++ [x]).length) h1' (by simp)
  have hrow : w.ownsRow n0 23 1 (.slice (some ⟨g, 0, none⟩) (ps.length + 1) cap) (ps.length + 1) ((ps ++ [q]).map Cl.v) := by
    have := h.ll.own
    rwa [List.length_append] at this
  have hgn : n0 ≤ g := by
    rcases hrow.2 with ⟨e, _⟩ | ⟨g2, cap2, cur, e, hb, _⟩
    · cases e
    · cases e; exact hb
  have hge : (some g) ≠ q.v.ownBlock := by
    intro e
    rcases own_ne hq hrow (by decide) with e2 | e2
    · rw [e2] at e; cases e
    · rw [← e] at e2; exact e2 rfl
  have hg' : g ≠ g' := by
    intro e
    obtain ⟨a2, c2, -, -, hc2⟩ := hok'
    obtain ⟨off, -, ⟨c3, hb3⟩, -⟩ := hc2 (by simp)
    rcases hat with e3 | e3
    · rw [e'] at e3; rw [← e] at e3; exact hge e3
    · rw [e'] at e3
      have h5 := Option.some.inj e3
      rw [sz_alloc] at h5
      have h6 : g < w.heap.size := (hrow.lt g rfl).2
      omega
  have hrow' : w'.ownsRow n0 23 1 (.slice (some ⟨g, 0, none⟩) (ps.length + 1) cap) (ps.length + 1) ((ps ++ [q]).map Cl.v) := (hrow.alloc o).kept hg (Or.inr hge)
  have hset := own_set (k := ps.length) (u := v') hrow' (by omega)
  have hkq : kv.ownBlock = none ∨ kv.ownBlock ≠ q.v.ownBlock := by
    rcases hqb with e | ⟨hq0, e⟩
    · rw [e]
      cases kv.ownBlock <;> simp
    · rw [e]
      exact Or.inr (fun e2 => h.kap q (by simp) hq0 e2.symm)
  have hkeys' : w'.ownsRow n0 3 1 kv ks.length (ks.map mI) := (h.keys.alloc o).kept hg hkq
  have hgk : w'.grownBy (w'.setCell ⟨g, ps.length, none⟩ v') (some g) := ⟨rfl, rfl, rfl, by rw [sz_put]; exact Nat.le_refl _, fun k _ hk => Below.heap_setCell _ _ _ k (fun e => hk (by rw [e]))⟩
  have hother : ∀ p ∈ ps, 0 < p.xs.length → some p.b ≠ q.v.ownBlock := fun p hp h0 => by
    rcases hqb with e | ⟨hq0, e⟩
    · rw [e]; simp
    · rw [e]
      intro e2
      have hap := (List.pairwise_append.1 h.ll.apart).2.2 p hp q (by simp) h0 hq0
      exact hap (Option.some.inj e2)
  have hpg : ∀ p : Cl Int, p.ok mI 0 3 w → 0 < p.xs.length → p.b ≠ g := fun p hp h0 e => by
    have := h.ll.not_row (by decide) hp rfl h0
    rw [e] at this
    exact this rfl
  refine ⟨⟨v', q.xs ++ [x], g'⟩, rfl, ⟨⟨hkeys'.kept hgk ?_, ⟨?_, fun p hp => ?_, fun p hp h0 => ?_, ?_⟩, fun p hp h0 => ?_⟩, fun ps' q' e => ?_⟩, ?_, ?_, ?_⟩
  · exact own_ne hkeys' hrow' (by decide)
  · rw [List.length_append, List.map_append]
    have e9 : ((ps ++ [q]).map Cl.v).set ps.length v' = ps.map Cl.v ++ [v'] := by
      rw [List.map_append, List.set_append_right _ _ (by rw [List.length_map]; exact Nat.le_refl _), List.length_map, Nat.sub_self]
      rfl
    rw [e9] at hset
    exact hset
  · rcases List.mem_append.1 hp with hp | hp
    · refine (h.ll.ok p (by simp [hp])).same (fun h0 => ?_)
      have hlt := (h.ll.ok p (by simp [hp])).lt h0
      rw [Below.heap_setCell _ _ _ _ (by show p.b ≠ g; exact hpg p (h.ll.ok p (by simp [hp])) h0), hg.block p.b (by rw [sz_alloc]; omega) (hother p hp h0), (pushd_alloc w o).old hlt]
    · rw [List.mem_singleton] at hp
      subst hp
      exact hok'.same (fun _ => Below.heap_setCell _ _ _ _ (by show g' ≠ g; exact fun e => hg' e.symm))
  · rcases List.mem_append.1 hp with hp | hp
    · exact h.ll.lo p (by simp [hp]) h0
    · rw [List.mem_singleton] at hp
      subst hp
      exact hlo'
  · refine List.pairwise_append.2 ⟨(List.pairwise_append.1 h.ll.apart).1, List.pairwise_singleton _ _, fun p hp r hr h0 _ => ?_⟩
    rw [List.mem_singleton] at hr
    subst hr
    show p.b ≠ g'
    intro e
    rcases hat with e3 | e3
    · rw [e'] at e3
      exact hother p hp h0 (by rw [e]; exact e3)
    · rw [e'] at e3
      have h5 := Option.some.inj e3
      rw [sz_alloc] at h5
      have := (h.ll.ok p (by simp [hp])).lt h0
      omega
  · rcases List.mem_append.1 hp with hp | hp
    · exact h.kap p (by simp [hp]) h0
    · rw [List.mem_singleton] at hp
      subst hp
      show some g' ≠ kv.ownBlock
      intro e
      rcases hat with e3 | e3
      · rw [e'] at e3
        rcases hkq with e4 | e4
        · rw [e4] at e; cases e
        · exact e4 (by rw [← e, e3])
      · rw [e'] at e3
        have h5 := Option.some.inj e3
        rw [sz_alloc] at h5
        have := (h.keys.lt g' e.symm).2
        omega
  · have e2 := (List.append_inj' e rfl).2
    rw [List.singleton_inj] at e2
    subst e2
    refine ⟨h1'.kept hgk ?_, Or.inr ⟨by simp, e'⟩⟩
    rw [e']
    exact Or.inr (fun e => hg' (Option.some.inj e).symm)
  · exact bput (((below1 w o).mono hn).grown hg (by rw [sz_alloc]; omega) (fun j hj => (hq.lt j hj).1)) hgn _
  · rw [hrow'.cellAt ps.length (by omega), List.map_append, List.getElem?_append_right (by rw [List.length_map]; exact Nat.le_refl _), List.length_map, Nat.sub_self]
    rfl
  · rcases hrow'.2 with ⟨e, _⟩ | ⟨g2, cap2, cur, e, _, hgb, _⟩
    · cases e
    · cases e
      exact frz ⟨_, _, hgb⟩

end Go.Proofs.Ytpkghafpelilfaa
