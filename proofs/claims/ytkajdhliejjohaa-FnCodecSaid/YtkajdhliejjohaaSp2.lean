import Derived.Test.YtkajdhliejjohaaSp1
namespace Go.Proofs.Ytkajdhliejjohaa
open Go.RowKit

/-- A list that can be read, in a block of S. -/
def SlS (mk : Int → Value) (S : Nat → Prop) (w : World) (v : Value) (xs : List Int) : Prop :=
  ∃ a cap, v = .slice a xs.length cap ∧ (xs.length ≤ cap ∧ cap ≤ maxLen) ∧ (0 < xs.length → ∃ b off, a = some ⟨b, off, none⟩ ∧ S b ∧ ∀ i : Nat, i < xs.length → w.cell? ⟨b, off + i, none⟩ = some (mk (xs[i]?.getD 0)))
theorem SlS.same {mk : Int → Value} {S : Nat → Prop} {w w' : World} {v : Value} {xs : List Int} (h : SlS mk S w v xs) (hs : ∀ k, S k → w'.heap[k]? = w.heap[k]?) : SlS mk S w' v xs := by
  obtain ⟨a, cap, rfl, hl, hc⟩ := h
  refine ⟨a, cap, rfl, hl, fun hp => ?_⟩
  obtain ⟨b, off, e, h1, h2⟩ := hc hp
  exact ⟨b, off, e, h1, fun i hi => by rw [World.cell?_of_block (w := w) (a := ⟨b, off + i, none⟩) (hs b h1)]; exact h2 i hi⟩
theorem SlS.at {mk : Int → Value} {S : Nat → Prop} {w : World} {v : Value} {xs : List Int} {N : Nat} (h : SlS mk S w v xs) (hs : ∀ k, S k → k < N) : SlAt mk 0 0 N w v xs ∧ CapOk v := by
  obtain ⟨a, cap, rfl, hl, hc⟩ := h
  refine ⟨⟨a, cap, rfl, by omega, fun hp => ?_⟩, CapOk.mk hl.1 hl.2⟩
  obtain ⟨b, off, e, h1, h2⟩ := hc hp
  exact ⟨b, off, e, Nat.zero_le _, hs b h1, h2⟩
theorem SlS.nil (mk : Int → Value) (S : Nat → Prop) (w : World) (a : Option Addr) (cap : Nat) (hc : cap ≤ maxLen) : SlS mk S w (.slice a 0 cap) [] := ⟨a, cap, rfl, ⟨Nat.zero_le _, hc⟩, fun h => absurd h (by simp)⟩
theorem Cl.ok.s {mk : Int → Value} {e : TypeId} {S : Nat → Prop} {w : World} {p : Cl Int} (h : p.ok mk 0 e w) (hS : 0 < p.xs.length → S p.b) : SlS mk S w p.v p.xs := by
  obtain ⟨a, cap, e1, hl, hc⟩ := h
  refine ⟨a, cap, e1, hl, fun hp => ?_⟩
  obtain ⟨off, e2, -, h2⟩ := hc hp
  exact ⟨p.b, off, e2, hS hp, h2⟩
theorem own_s {mk : Int → Value} {lo n : Nat} {e : TypeId} {S : Nat → Prop} {w : World} {v : Value} {xs : List Int} (h : w.ownsRow lo e 1 v n (xs.map mk)) (hS : ∀ g, v.ownBlock = some g → S g) : SlS mk S w v xs := by
  have hlen := h.1
  rw [List.length_map, Nat.mul_one] at hlen
  rcases h.2 with ⟨rfl, hz⟩ | ⟨g, cap, cur, rfl, hbg, hg, hnc, hcm, hcs, htake⟩
  · have : xs = [] := List.eq_nil_of_length_eq_zero (by omega)
    subst this
    exact SlS.nil _ _ _ _ _ (Nat.zero_le _)
  · refine ⟨_, cap, by rw [hlen], by omega, fun _ => ⟨g, 0, rfl, hS g rfl, fun i hi => ?_⟩⟩
    rw [Nat.zero_add, h.cellAt i (by omega), List.getElem?_map, List.getElem?_eq_getElem hi]
    rfl
theorem SlS.tail {mk : Int → Value} {S : Nat → Prop} {w : World} {g off n cap : Nat} {xs : List Int} (h : SlS mk S w (.slice (some ⟨g, off, none⟩) (n + 1) cap) xs) : SlS mk S w (.slice (some ⟨g, off + 1, none⟩) n (cap - 1)) xs.tail := by
  obtain ⟨a, cap', e1, hl, hc⟩ := h
  simp only [Value.slice.injEq] at e1
  obtain ⟨rfl, e2, rfl⟩ := e1
  obtain ⟨b, o, e3, hb, hcl⟩ := hc (by omega)
  simp only [Option.some.injEq, Addr.mk.injEq, and_true] at e3
  obtain ⟨rfl, rfl⟩ := e3
  have e4 : xs.tail.length = n := by rw [List.length_tail]; omega
  refine ⟨_, _, by rw [e4], by rw [e4]; omega, fun _ => ⟨g, off + 1, rfl, hb, fun i hi => ?_⟩⟩
  have := hcl (i + 1) (by omega)
  rw [show xs.tail[i]? = xs[i + 1]? by cases xs <;> simp, ← this]
  congr 2
  omega

/-- A row of lists that can be read, in blocks of S. -/
def SsS (mk : Int → Value) (S : Nat → Prop) (w : World) (v : Value) (xss : List (List Int)) : Prop :=
  ∃ a cap, v = .slice a xss.length cap ∧ (xss.length ≤ cap ∧ cap ≤ maxLen) ∧ (0 < xss.length → ∃ b off, a = some ⟨b, off, none⟩ ∧ S b ∧ ∀ i : Nat, i < xss.length → ∃ s, w.cell? ⟨b, off + i, none⟩ = some s ∧ SlS mk S w s (xss[i]?.getD []))
theorem SsS.same {mk : Int → Value} {S : Nat → Prop} {w w' : World} {v : Value} {xss : List (List Int)} (h : SsS mk S w v xss) (hs : ∀ k, S k → w'.heap[k]? = w.heap[k]?) : SsS mk S w' v xss := by
  obtain ⟨a, cap, rfl, hl, hc⟩ := h
  refine ⟨a, cap, rfl, hl, fun hp => ?_⟩
  obtain ⟨b, off, e, h1, h2⟩ := hc hp
  refine ⟨b, off, e, h1, fun i hi => ?_⟩
  obtain ⟨s, h3, h4⟩ := h2 i hi
  exact ⟨s, by rw [World.cell?_of_block (w := w) (a := ⟨b, off + i, none⟩) (hs b h1)]; exact h3, h4.same hs⟩
theorem SsS.at {mk : Int → Value} {S : Nat → Prop} {N : Nat} {w : World} {v : Value} {xss : List (List Int)} (h : SsS mk S w v xss) (hs : ∀ k, S k → k < N) : SsAt mk 0 N w v xss := by
  obtain ⟨a, cap, rfl, hl, hc⟩ := h
  refine ⟨a, cap, rfl, hl, fun hp => ?_⟩
  obtain ⟨b, off, e, h1, h2⟩ := hc hp
  refine ⟨b, off, e, hs b h1, fun i hi => ?_⟩
  obtain ⟨s, h3, h4⟩ := h2 i hi
  exact ⟨s, h3, (h4.at hs).1, (h4.at hs).2⟩
theorem SsS.nil (mk : Int → Value) (S : Nat → Prop) (w : World) (a : Option Addr) (cap : Nat) (hc : cap ≤ maxLen) : SsS mk S w (.slice a 0 cap) [] := ⟨a, cap, rfl, ⟨Nat.zero_le _, hc⟩, fun h => absurd h (by simp)⟩
theorem row_s {mk : Int → Value} {lo n : Nat} {e : TypeId} {S : Nat → Prop} {w : World} {v : Value} {vs : List Value} {xss : List (List Int)} (h : w.ownsRow lo e 1 v n vs) (hS : ∀ g, v.ownBlock = some g → S g) (hl : vs.length = xss.length) (hv : ∀ (i : Nat) (s : Value), vs[i]? = some s → SlS mk S w s (xss[i]?.getD [])) : SsS mk S w v xss := by
  have hlen := h.1
  rw [Nat.mul_one] at hlen
  rcases h.2 with ⟨rfl, hz⟩ | ⟨g, cap, cur, rfl, hbg, hg, hnc, hcm, hcs, htake⟩
  · have : xss = [] := List.eq_nil_of_length_eq_zero (by omega)
    subst this
    exact SsS.nil _ _ _ _ _ (Nat.zero_le _)
  · refine ⟨_, cap, by rw [← hl, hlen], by omega, fun _ => ⟨g, 0, rfl, hS g rfl, fun i hi => ?_⟩⟩
    have hi' : i < vs.length := by omega
    exact ⟨vs[i], by rw [Nat.zero_add, h.cellAt i (by omega)]; simp [hi'], hv i vs[i] (by simp [hi'])⟩
theorem ll_s {mk : Int → Value} {lo : Nat} {e te : TypeId} {S : Nat → Prop} {w : World} {v : Value} {ps : List (Cl Int)} (h : LL mk 0 e te lo w v ps) (hS : ∀ g, v.ownBlock = some g → S g) (hS2 : ∀ p ∈ ps, 0 < p.xs.length → S p.b) : SsS mk S w v (ps.map Cl.xs) := by
  refine row_s h.own hS (by simp) (fun i s hs => ?_)
  rw [List.getElem?_map] at hs ⊢
  obtain ⟨p, hp, rfl⟩ := Option.map_eq_some_iff.1 hs
  rw [hp]
  have hm := List.mem_of_getElem? hp
  exact (h.ok p hm).s (hS2 p hm)
theorem ll_vs {mk : Int → Value} {lo : Nat} {e te : TypeId} {S : Nat → Prop} {w w' : World} {v : Value} {ps : List (Cl Int)} (h : LL mk 0 e te lo w v ps) (hs : ∀ p ∈ ps, 0 < p.xs.length → S p.b ∧ w'.heap[p.b]? = w.heap[p.b]?) : ∀ (i : Nat) (s : Value), (ps.map Cl.v)[i]? = some s → SlS mk S w' s ((ps.map Cl.xs)[i]?.getD []) := fun i s hi => by
  rw [List.getElem?_map] at hi ⊢
  obtain ⟨p, hp, rfl⟩ := Option.map_eq_some_iff.1 hi
  rw [hp]
  have hm := List.mem_of_getElem? hp
  exact ((h.ok p hm).same (fun h0 => (hs p hm h0).2)).s (fun h0 => (hs p hm h0).1)
theorem row_push_s {mk : Int → Value} {lo n : Nat} {e : TypeId} {S : Nat → Prop} {w : World} {v s : Value} {vs : List Value} {xss : List (List Int)} {x : List Int} (h : w.ownsRow lo e 1 v n (vs ++ [s])) (hS : ∀ g, v.ownBlock = some g → S g) (hl : vs.length = xss.length) (hv : ∀ (i : Nat) (s : Value), vs[i]? = some s → SlS mk S w s (xss[i]?.getD [])) (hs : SlS mk S w s x) : SsS mk S w v (xss ++ [x]) := by
  refine row_s h hS (by simp [hl]) (fun i u hu => ?_)
  by_cases hi : i < vs.length
  · rw [List.getElem?_append_left hi] at hu
    rw [List.getElem?_append_left (by omega)]
    exact hv i u hu
  · have hi2 : i = vs.length := by have := (List.getElem?_eq_some_iff.1 hu).1; simp at this; omega
    subst hi2
    rw [List.getElem?_append_right (Nat.le_refl _), Nat.sub_self] at hu
    rw [hl, List.getElem?_append_right (Nat.le_refl _), Nat.sub_self]
    simp at hu
    subst hu
    exact hs
theorem row_set_s {mk : Int → Value} {lo n i : Nat} {e : TypeId} {S : Nat → Prop} {w : World} {v s : Value} {vs : List Value} {xss : List (List Int)} {x : List Int} (h : w.ownsRow lo e 1 v n (vs.set i s)) (hS : ∀ g, v.ownBlock = some g → S g) (hl : vs.length = xss.length) (hi : i < vs.length) (hv : ∀ (j : Nat) (s : Value), j ≠ i → vs[j]? = some s → SlS mk S w s (xss[j]?.getD [])) (hs : SlS mk S w s x) : SsS mk S w v (xss.set i x) := by
  refine row_s h hS (by simp [hl]) (fun j u hu => ?_)
  by_cases e : i = j
  · subst e
    rw [List.getElem?_set_self hi] at hu
    rw [List.getElem?_set_self (by omega)]
    simp at hu
    subst hu
    exact hs
  · rw [List.getElem?_set_ne e] at hu ⊢
    exact hv j u (fun q => e q.symm) hu
theorem SsS.tail {mk : Int → Value} {S : Nat → Prop} {w : World} {g off n cap : Nat} {xss : List (List Int)} (h : SsS mk S w (.slice (some ⟨g, off, none⟩) (n + 1) cap) xss) : SsS mk S w (.slice (some ⟨g, off + 1, none⟩) n (cap - 1)) xss.tail := by
  obtain ⟨a, cap', e1, hl, hc⟩ := h
  simp only [Value.slice.injEq] at e1
  obtain ⟨rfl, e2, rfl⟩ := e1
  obtain ⟨b, o, e3, hb, hcl⟩ := hc (by omega)
  simp only [Option.some.injEq, Addr.mk.injEq, and_true] at e3
  obtain ⟨rfl, rfl⟩ := e3
  have e4 : xss.tail.length = n := by rw [List.length_tail]; omega
  refine ⟨_, _, by rw [e4], by rw [e4]; omega, fun _ => ⟨g, off + 1, rfl, hb, fun i hi => ?_⟩⟩
  obtain ⟨s, h1, h2⟩ := hcl (i + 1) (by omega)
  refine ⟨s, by rw [← h1]; congr 2; omega, ?_⟩
  rw [show xss.tail[i]? = xss[i + 1]? by cases xss <;> simp]
  exact h2

/-- A segment that can be read, in blocks of S. -/
def SgS (S : Nat → Prop) (w : World) (v : Value) (base : Int) (xss : List (List Int)) (ks : List Int) (pss : List (List Int)) : Prop :=
  ∃ lv kv pv, v = .agg #[.int .i64 base, lv, kv, pv] ∧ SsS mB S w lv xss ∧ SlS mI S w kv ks ∧ SsS mI S w pv pss
theorem SgS.same {S : Nat → Prop} {w w' : World} {v : Value} {base : Int} {xss pss : List (List Int)} {ks : List Int} (h : SgS S w v base xss ks pss) (hs : ∀ k, S k → w'.heap[k]? = w.heap[k]?) : SgS S w' v base xss ks pss := by
  obtain ⟨lv, kv, pv, e, h1, h2, h3⟩ := h
  exact ⟨lv, kv, pv, e, h1.same hs, h2.same hs, h3.same hs⟩
theorem SgS.rd {S : Nat → Prop} {w : World} {v : Value} {base : Int} {xss pss : List (List Int)} {ks : List Int} (h : SgS S w v base xss ks pss) (hs : ∀ k, S k → k < w.heap.size) : SegRd w v base xss ks pss := by
  obtain ⟨lv, kv, pv, e, h1, h2, h3⟩ := h
  exact ⟨lv, kv, pv, e, h1.at hs, (h2.at hs).1, h3.at hs⟩
/-- The parts of a segment that owns its memory, each in its place. -/
structure SegP (lo m1 m2 : Nat) (w : World) (lv kv pv : Value) (ps qs : List (Cl Int)) (ks : List Int) : Prop where
  o1 : lo ≤ m1
  o2 : m1 ≤ m2
  ln : LB lo w lv ps
  lg : ∀ g, lv.ownBlock = some g → g < m1
  lp : ∀ p ∈ ps, 0 < p.xs.length → p.b < m1
  ky : w.ownsRow m1 3 1 kv ks.length (ks.map mI)
  kg : ∀ g, kv.ownBlock = some g → g < m2
  po : LL mI 0 3 25 m2 w pv qs
  eo : EO m2 w qs
theorem SegP.same {lo m1 m2 : Nat} {w w' : World} {lv kv pv : Value} {ps qs : List (Cl Int)} {ks : List Int} (h : SegP lo m1 m2 w lv kv pv ps qs ks) (hs : ∀ k, lo ≤ k → k < w.heap.size → w'.heap[k]? = w.heap[k]?) : SegP lo m1 m2 w' lv kv pv ps qs ks := by
  have o1 := h.o1
  have o2 := h.o2
  exact ⟨h.o1, h.o2, h.ln.same hs, h.lg, h.lp, own_same h.ky (fun g hg => hs g (by have := (h.ky.lt g hg).1; omega) (h.ky.lt g hg).2), h.kg, h.po.same (fun k k1 k2 => hs k (by omega) k2), fun q hq => ⟨(h.eo q hq).1, own_same (h.eo q hq).2.1 (fun g hg => hs g (by have := ((h.eo q hq).2.1.lt g hg).1; omega) ((h.eo q hq).2.1.lt g hg).2), (h.eo q hq).2.2⟩⟩
/-- Each part as it is read, whatever happens elsewhere. -/
theorem SegP.lines {lo m1 m2 : Nat} {w w' : World} {lv kv pv : Value} {ps qs : List (Cl Int)} {ks : List Int} (h : SegP lo m1 m2 w lv kv pv ps qs ks) {S : Nat → Prop} (hS : ∀ k, lo ≤ k → k < m1 → k < w.heap.size → S k ∧ w'.heap[k]? = w.heap[k]?) : SsS mB S w' lv (ps.map Cl.xs) := by
  have h1 : ∀ k, lv.ownBlock = some k → S k ∧ w'.heap[k]? = w.heap[k]? := fun k hk => hS k (h.ln.own.lt k hk).1 (h.lg k hk) (h.ln.own.lt k hk).2
  have h2 : ∀ p ∈ ps, 0 < p.xs.length → S p.b ∧ w'.heap[p.b]? = w.heap[p.b]? := fun p hp h0 => hS p.b (h.ln.lo p hp h0) (h.lp p hp h0) ((h.ln.ok p hp).lt h0)
  exact ll_s (lo := lo) ⟨own_same h.ln.own (fun g hg => (h1 g hg).2), fun p hp => (h.ln.ok p hp).same (fun h0 => (h2 p hp h0).2), h.ln.lo, h.ln.apart⟩ (fun g hg => (h1 g hg).1) (fun p hp h0 => (h2 p hp h0).1)
theorem SegP.keys {lo m1 m2 : Nat} {w w' : World} {lv kv pv : Value} {ps qs : List (Cl Int)} {ks : List Int} (h : SegP lo m1 m2 w lv kv pv ps qs ks) {S : Nat → Prop} (hS : ∀ k, m1 ≤ k → k < m2 → k < w.heap.size → S k ∧ w'.heap[k]? = w.heap[k]?) : SlS mI S w' kv ks := by
  have h1 : ∀ k, kv.ownBlock = some k → S k ∧ w'.heap[k]? = w.heap[k]? := fun k hk => hS k (h.ky.lt k hk).1 (h.kg k hk) (h.ky.lt k hk).2
  exact own_s (own_same h.ky (fun g hg => (h1 g hg).2)) (fun g hg => (h1 g hg).1)
theorem SegP.posts {lo m1 m2 : Nat} {w w' : World} {lv kv pv : Value} {ps qs : List (Cl Int)} {ks : List Int} (h : SegP lo m1 m2 w lv kv pv ps qs ks) {S : Nat → Prop} (hS : ∀ k, m2 ≤ k → k < w.heap.size → S k ∧ w'.heap[k]? = w.heap[k]?) : SsS mI S w' pv (qs.map Cl.xs) := by
  refine ll_s (h.po.same (fun k k1 k2 => (hS k k1 k2).2)) (fun g hg => (hS g (h.po.own.lt g hg).1 (h.po.own.lt g hg).2).1) (fun p hp h0 => (hS p.b (h.po.lo p hp h0) ((h.po.ok p hp).lt h0)).1)
theorem SegO.p {lo : Nat} {w : World} {v : Value} {base : Int} {xss pss : List (List Int)} {ks : List Int} (h : SegO lo w v base xss ks pss) : ∃ lv kv pv m1 m2 ps qs, v = .agg #[.int .i64 base, lv, kv, pv] ∧ ps.map Cl.xs = xss ∧ qs.map Cl.xs = pss ∧ SegP lo m1 m2 w lv kv pv ps qs ks := by
  obtain ⟨lv, kv, pv, m1, m2, ps, qs, e, ⟨l1, l2, l3⟩, ⟨a1, a2, a3, a4⟩, ⟨b1, b2⟩, c1, c2, c3⟩ := h
  exact ⟨lv, kv, pv, m1, m2, ps, qs, e, a1, c1, l1, l2, a2, a3, a4, b1, b2, c2, c3⟩
/-- A row without its last element. -/
theorem own_prefix {base e g n cap : Nat} {w : World} {xs : List Value} {x : Value} (h : w.ownsRow base e 1 (.slice (some ⟨g, 0, none⟩) (n + 1) cap) (n + 1) (xs ++ [x])) : w.ownsRow base e 1 (.slice (some ⟨g, 0, none⟩) n cap) n xs := by
  have hlen := h.1
  rw [List.length_append, List.length_singleton, Nat.mul_one] at hlen
  rcases h.2 with ⟨e0, -⟩ | ⟨g', cap', cur, e0, hb, hg, hn, hm, hs, ht⟩
  · cases e0
  · cases e0
    refine ⟨by omega, Or.inr ⟨g, cap, cur, rfl, hb, hg, by omega, hm, hs, ?_⟩⟩
    rw [Nat.mul_one] at ht ⊢
    have : (cur.toList.take (n + 1)).take n = cur.toList.take n := by rw [List.take_take, Nat.min_eq_left (by omega)]
    rw [← this, ht, List.take_append_of_le_length (by omega), List.take_of_length_le (by omega)]

end Go.Proofs.Ytkajdhliejjohaa
