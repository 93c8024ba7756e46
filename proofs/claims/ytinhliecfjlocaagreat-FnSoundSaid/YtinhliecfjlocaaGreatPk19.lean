import Derived.Test.YtinhliecfjlocaaGreatPk14
import Derived.Test.YtinhliecfjlocaaGreatPk8
import Derived.StillTail
import Derived.BigQuiet
import Derived.Test.YtinhliecfjlocaaGreatPk18
import Derived.Test.YtinhliecfjlocaaGreatPk2
import Derived.Test.YtinhliecfjlocaaGreatPk10
import Derived.Test.YtinhliecfjlocaaGreatPk17
import Derived.Test.YtinhliecfjlocaaGreatW2
import Derived.Maps.OwnIn

namespace Go.Proofs.YtinhliecfjlocaaGreat
open Go.RowKit
def Plain (xss : List (List Int)) : Prop := ∀ i : Nat, i < xss.length → ∀ j : Nat, j < (xss[i]?.getD []).length → (xss[i]?.getD [])[j]?.getD 0 ≠ 10
def Fits (base : Int) (xss : List (List Int)) : Prop := 0 ≤ base ∧ 1 ≤ xss.length ∧ base + xss.length ≤ 1000 ∧ Plain xss ∧ tot xss ≤ 20000
theorem LB.push {base : Nat} {w V wr : World} {ov lv : Value} {ps : List (Cl Int)} {ls : List Int} (Hll : LB base V ov ps) (hbV : base ≤ V.heap.size) (hbl : Below V.heap.size V wr) (hb : Below base w V) (Hown : wr.ownsRow V.heap.size 5 1 lv ls.length (ls.map mB))
    (w' : World) (v' : Value) (g1 : w'.ownsRow base 22 1 v' (ps.length + 1) (ps.map Cl.v ++ [lv])) (g2 : (wr.alloc (.cells #[lv] 22)).grownBy w' ov.ownBlock) : ∃ p : Cl Int, p.xs = ls ∧ LB base w' v' (ps ++ [p]) ∧ Below base w w' := by
  obtain ⟨pb, hp, hplo⟩ := own_cl Hown
  have hz := hbl.size
  obtain ⟨r1, r2⟩ := (Hll.keep hbl (Nat.le_refl _)).app (by decide) (by omega) hp (fun h => Nat.le_trans hbV (hplo h)) (fun q hq hq0 hp0 e => by
    have h1 := (Hll.ok q hq).lt hq0
    have h2 := hplo hp0
    rw [e] at h1
    exact absurd h1 (Nat.not_lt.2 h2)) (pushd_alloc wr _) g1 g2
  exact ⟨_, rfl, r1, (hb.trans (hbl.mono hbV)).trans r2⟩
theorem take_snoc {α : Type} (xss : List α) (d : α) (k : Nat) (h : k < xss.length) : xss.take (k + 1) = xss.take k ++ [xss[k]?.getD d] := by
  rw [List.take_add_one, List.getElem?_eq_getElem h]
  rfl
structure UInv (x y os : List Int) (i j : Nat) : Prop where
  asc : Asc os
  mem : ∀ z, z ∈ os ↔ z ∈ x.take i ∨ z ∈ y.take j
  lx : ∀ z, z ∈ os → ∀ k, i ≤ k → k < x.length → z < x[k]?.getD 0
  ly : ∀ z, z ∈ os → ∀ k, j ≤ k → k < y.length → z < y[k]?.getD 0
theorem UInv.swap {x y os : List Int} {i j : Nat} (h : UInv x y os i j) : UInv y x os j i := ⟨h.asc, fun z => (h.mem z).trans Or.comm, h.ly, h.lx⟩
theorem UInv.start (x y : List Int) : UInv x y [] 0 0 := ⟨List.Pairwise.nil, fun z => by simp, fun z h => by simp at h, fun z h => by simp at h⟩
theorem UInv.one {x y os : List Int} {i j : Nat} (h : UInv x y os i j) (hx : Asc x) (hy : Asc y) (hi : i < x.length) (hlt : j < y.length → x[i]?.getD 0 < y[j]?.getD 0) : UInv x y (os ++ [x[i]?.getD 0]) (i + 1) j := by
  refine ⟨?_, fun z => ?_, fun z hz k h1 h2 => ?_, fun z hz k h1 h2 => ?_⟩
  · refine List.pairwise_append.2 ⟨h.asc, List.pairwise_singleton _ _, fun a ha b hb => ?_⟩
    rw [List.mem_singleton] at hb
    rw [hb]
    exact h.lx a ha i (Nat.le_refl _) hi
  · rw [take_succ_mem hi, List.mem_append, h.mem z, List.mem_singleton]
    constructor
    · rintro ((a | a) | a)
      · exact Or.inl (Or.inl a)
      · exact Or.inr a
      · exact Or.inl (Or.inr a)
    · rintro ((a | a) | a)
      · exact Or.inl (Or.inl a)
      · exact Or.inr a
      · exact Or.inl (Or.inr a)
  · rcases List.mem_append.1 hz with a | a
    · exact h.lx z a k (by omega) h2
    · rw [List.mem_singleton] at a
      rw [a]
      exact asc_get hx (by omega) h2
  · rcases List.mem_append.1 hz with a | a
    · exact h.ly z a k h1 h2
    · rw [List.mem_singleton] at a
      rw [a]
      have h3 := hlt (by omega)
      by_cases e : j = k
      · subst e; exact h3
      · have := asc_get hy (show j < k by omega) h2
        omega
theorem UInv.both {x y os : List Int} {i j : Nat} (h : UInv x y os i j) (hx : Asc x) (hy : Asc y) (hi : i < x.length) (hj : j < y.length) (he : x[i]?.getD 0 = y[j]?.getD 0) : UInv x y (os ++ [x[i]?.getD 0]) (i + 1) (j + 1) := by
  refine ⟨?_, fun z => ?_, fun z hz k h1 h2 => ?_, fun z hz k h1 h2 => ?_⟩
  · refine List.pairwise_append.2 ⟨h.asc, List.pairwise_singleton _ _, fun a ha b hb => ?_⟩
    rw [List.mem_singleton] at hb
    rw [hb]
    exact h.lx a ha i (Nat.le_refl _) hi
  · rw [take_succ_mem hi, take_succ_mem hj, List.mem_append, h.mem z, List.mem_singleton, ← he]
    constructor
    · rintro ((a | a) | a)
      · exact Or.inl (Or.inl a)
      · exact Or.inr (Or.inl a)
      · exact Or.inl (Or.inr a)
    · rintro ((a | a) | (a | a))
      · exact Or.inl (Or.inl a)
      · exact Or.inr a
      · exact Or.inl (Or.inr a)
      · exact Or.inr a
  · rcases List.mem_append.1 hz with a | a
    · exact h.lx z a k (by omega) h2
    · rw [List.mem_singleton] at a
      rw [a]
      exact asc_get hx (by omega) h2
  · rcases List.mem_append.1 hz with a | a
    · exact h.ly z a k (by omega) h2
    · rw [List.mem_singleton] at a
      rw [a, he]
      exact asc_get hy (by omega) h2
theorem UInv.done {x y os xs : List Int} (h : UInv x y os x.length y.length) (hm : ∀ z, z ∈ xs ↔ z ∈ x ∨ z ∈ y) : Ord xs os := ⟨h.asc, fun z => by rw [h.mem z, hm z]; simp⟩
def tr (bs : List Int) : List Int := tris bs (bs.length - 2)
def allT (xss : List (List Int)) : List Int := xss.flatMap tr
theorem allT_len (xss : List (List Int)) : (allT xss).length ≤ tot xss := by
  induction xss with
  | nil => simp [allT, tot]
  | cons x r ih =>
    have h1 : allT (x :: r) = tr x ++ allT r := List.flatMap_cons
    rw [h1, List.length_append, tot, tr, tris_len]
    omega
def PostR (base : Int) (xss : List (List Int)) (k : Int) (l : List Int) : Prop := Asc l ∧ ∀ x, x ∈ l ↔ ∃ i : Nat, i < xss.length ∧ x = base + i ∧ k ∈ tr (xss[i]?.getD [])
structure SegR (base : Int) (xss : List (List Int)) (ks : List Int) (pss : List (List Int)) : Prop where
  keys : Ord (allT xss) ks
  len : pss.length = ks.length
  post : ∀ j : Nat, j < ks.length → PostR base xss (ks[j]?.getD 0) (pss[j]?.getD [])
theorem SegR.uniq {base : Int} {xss : List (List Int)} {ks ks' : List Int} {pss pss' : List (List Int)} (h : SegR base xss ks pss) (h' : SegR base xss ks' pss') : ks = ks' ∧ pss = pss' := by
  obtain rfl := h.keys.uniq h'.keys
  refine ⟨rfl, List.ext_getElem (h.len.trans h'.len.symm) (fun j h1 h2 => ?_)⟩
  have a := h.post j (by rw [← h.len]; exact h1)
  have b := h'.post j (by rw [← h.len]; exact h1)
  rw [List.getElem?_eq_getElem h1] at a
  rw [List.getElem?_eq_getElem h2] at b
  exact asc_uniq a.1 b.1 (fun z => (a.2 z).trans (b.2 z).symm)
def PostP (base : Int) (xss : List (List Int)) (k : Int) (n : Nat) (l : List Int) : Prop := Asc l ∧ ∀ x, x ∈ l ↔ ∃ i : Nat, i < n ∧ x = base + i ∧ k ∈ tr (xss[i]?.getD [])
theorem PostP.yes {base k : Int} {xss : List (List Int)} {n : Nat} {l : List Int} (h : PostP base xss k n l) (hk : k ∈ tr (xss[n]?.getD [])) : PostP base xss k (n + 1) (l ++ [base + n]) := by
  refine ⟨List.pairwise_append.2 ⟨h.1, List.pairwise_singleton _ _, fun a ha b hb => ?_⟩, fun x => ?_⟩
  · rw [List.mem_singleton] at hb
    obtain ⟨i, hi, rfl, -⟩ := (h.2 a).1 ha
    omega
  · rw [List.mem_append, h.2 x, List.mem_singleton]
    constructor
    · rintro (⟨i, hi, e, hm⟩ | e)
      · exact ⟨i, by omega, e, hm⟩
      · exact ⟨n, by omega, e, hk⟩
    · rintro ⟨i, hi, e, hm⟩
      by_cases q : i < n
      · exact Or.inl ⟨i, q, e, hm⟩
      · obtain rfl : i = n := by omega
        exact Or.inr e
theorem PostP.no {base k : Int} {xss : List (List Int)} {n : Nat} {l : List Int} (h : PostP base xss k n l) (hk : k ∉ tr (xss[n]?.getD [])) : PostP base xss k (n + 1) l := by
  refine ⟨h.1, fun x => ?_⟩
  rw [h.2 x]
  constructor
  · rintro ⟨i, hi, e, hm⟩
    exact ⟨i, by omega, e, hm⟩
  · rintro ⟨i, hi, e, hm⟩
    refine ⟨i, ?_, e, hm⟩
    by_cases q : i = n
    · subst q; exact absurd hm hk
    · omega
def TrisP (xss : List (List Int)) (n : Nat) (ps : List (Cl Int)) : Prop := ps.length = n ∧ ∀ i : Nat, i < n → ∀ z, z ∈ ((ps.map Cl.xs)[i]?.getD []) ↔ z ∈ tr (xss[i]?.getD [])
theorem TrisP.step {xss : List (List Int)} {n : Nat} {ps : List (Cl Int)} {p : Cl Int} (h : TrisP xss n ps) (hp : ∀ z, z ∈ p.xs ↔ z ∈ tr (xss[n]?.getD [])) : TrisP xss (n + 1) (ps ++ [p]) := by
  refine ⟨by rw [List.length_append, h.1]; rfl, fun i hi => ?_⟩
  by_cases e : i < n
  · rw [List.map_append, List.getElem?_append_left (by rw [List.length_map, h.1]; exact e)]
    exact h.2 i e
  · obtain rfl : i = n := by omega
    rw [List.map_append, List.getElem?_append_right (by rw [List.length_map, h.1]; exact Nat.le_refl _), List.length_map, h.1]
    simpa using hp
theorem LI.push {base : Nat} {w V wr : World} {ov lv : Value} {ps : List (Cl Int)} {ls : List Int} (Hll : LL mI 0 3 34 base V ov ps) (hbV : base ≤ V.heap.size) (hbl : Below V.heap.size V wr) (hb : Below base w V) (Hown : wr.ownsRow V.heap.size 3 1 lv ls.length (ls.map mI))
    (w' : World) (v' : Value) (g1 : w'.ownsRow base 34 1 v' (ps.length + 1) (ps.map Cl.v ++ [lv])) (g2 : (wr.alloc (.cells #[lv] 34)).grownBy w' ov.ownBlock) : ∃ p : Cl Int, p.xs = ls ∧ LL mI 0 3 34 base w' v' (ps ++ [p]) ∧ Below base w w' := by
  obtain ⟨pb, hp, hplo⟩ := own_cl Hown
  have hz := hbl.size
  obtain ⟨r1, r2⟩ := (Hll.keep hbl (Nat.le_refl _)).app (by decide) (by omega) hp (fun h => Nat.le_trans hbV (hplo h)) (fun q hq hq0 hp0 e => by
    have h1 := (Hll.ok q hq).lt hq0
    have h2 := hplo hp0
    rw [e] at h1
    exact absurd h1 (Nat.not_lt.2 h2)) (pushd_alloc wr _) g1 g2
  exact ⟨_, rfl, r1, (hb.trans (hbl.mono hbV)).trans r2⟩
theorem LI.footR {base : Nat} {w : World} {v : Value} {ps : List (Cl Int)} (h : LL mI 0 3 34 base w v ps) : SsF mI 0 (Rng base w.heap.size) w v (ps.map Cl.xs) := by
  refine h.foot (by decide) ?_
  have h1 := own_cap h.own
  obtain ⟨a, c, rfl⟩ := own_is h.own
  have := h1.le
  omega
theorem LI.at {base : Nat} {w : World} {v : Value} {ps : List (Cl Int)} (h : LL mI 0 3 34 base w v ps) : SsAt mI 0 w.heap.size w v (ps.map Cl.xs) := by
  refine (h.foot (by decide) ?_).all (Nat.le_refl _)
  have h1 := own_cap h.own
  obtain ⟨a, c, rfl⟩ := own_is h.own
  have := h1.le
  omega
theorem LL.putlo {α : Type} {mk : α → Value} {d : α} {e te : TypeId} {base B o : Nat} {w : World} {v u : Value} {ps : List (Cl α)} (h : LL mk d e te base w v ps) (hB : B < base) : LL mk d e te base (w.setCell ⟨B, o, none⟩ u) v ps := by
  have hg : w.grownBy (w.setCell ⟨B, o, none⟩ u) (some B) := ⟨rfl, rfl, rfl, by rw [sz_put]; exact Nat.le_refl _, fun k _ hk => Below.heap_setCell _ _ _ k (fun e => hk (by rw [e]))⟩
  refine ⟨h.own.kept hg ?_, fun p hp => (h.ok p hp).same (fun hp0 => Below.heap_setCell _ _ _ _ (by have := h.lo p hp hp0; show p.b ≠ B; omega)), h.lo, h.apart⟩
  rcases h.own.2 with ⟨rfl, _⟩ | ⟨g, cap, cur, rfl, hbg, _⟩
  · exact Or.inl rfl
  · refine Or.inr (fun e => ?_)
    have : g = B := by simpa [Value.ownBlock] using e
    omega
structure PInv (base : Int) (xss : List (List Int)) (ks : List Int) (B n2 n3 n4 : Nat) (w1 wr : World) (lv kv tv : Value) (tss : List (List Int)) (m : Nat) (pv : Value) (qs : List (Cl Int)) : Prop where
  len : qs.length = m
  post : ∀ i : Nat, i < m → PostR base xss (ks[i]?.getD 0) ((qs.map Cl.xs)[i]?.getD [])
  box : Row4 wr B 38 (.int .i64 base) lv kv pv
  ll : LL mI 0 3 34 n4 wr pv qs
  bel : Below w1.heap.size w1 wr
  keys : SlW mI 0 (B + 1) n2 wr kv ks
  tris : SsF mI 0 (Rng n3 n4) wr tv tss
  size : n4 ≤ wr.heap.size
theorem PInv.step {base : Int} {xss tss : List (List Int)} {ks : List Int} {n2 n3 n4 m : Nat} {w1 V w7 : World} {lv kv tv pv v7 : Value} {qs : List (Cl Int)} {p : Cl Int} (h : PInv base xss ks w1.heap.size n2 n3 n4 w1 V lv kv tv tss m pv qs) (h1 : w1.heap.size < n3) (h2 : n2 ≤ n3) (h3 : n3 ≤ n4)
    (hp : PostR base xss (ks[m]?.getD 0) p.xs) (hll : LL mI 0 3 34 n4 w7 v7 (qs ++ [p])) (hb : Below n4 V w7) : PInv base xss ks w1.heap.size n2 n3 n4 w1 (w7.setCell ⟨w1.heap.size, 3, none⟩ v7) lv kv tv tss (m + 1) v7 (qs ++ [p]) := by
  have hz := hb.size
  have hs := h.size
  refine ⟨by rw [List.length_append, h.len]; rfl, fun i hi => ?_, (h.box.below hb (by omega)).put3, hll.putlo (by omega), bput (h.bel.trans (hb.mono (by omega))) (Nat.le_refl _) _, ?_, ?_, by rw [sz_put]; omega⟩
  · by_cases e : i < m
    · rw [List.map_append, List.getElem?_append_left (by rw [List.length_map, h.len]; exact e)]
      exact h.post i e
    · obtain rfl : i = m := by omega
      rw [List.map_append, List.getElem?_append_right (by rw [List.length_map, h.len]; exact Nat.le_refl _), List.length_map, h.len]
      simpa using hp
  · exact (h.keys.keep hb (by omega)).same (fun k k1 k2 => Below.heap_setCell _ _ _ _ (by show k ≠ w1.heap.size; omega))
  · exact (h.tris.keep hb (by omega)).same (fun k hk => Below.heap_setCell _ _ _ _ (by unfold Rng at hk; show k ≠ w1.heap.size; omega))
def SegAt (lo : Nat) (w : World) (v : Value) (base : Int) (xss : List (List Int)) (ks : List Int) (pss : List (List Int)) : Prop :=
  ∃ lv kv pv, v = .agg #[.int .i64 base, lv, kv, pv] ∧ SsF mB 0 (Rng lo w.heap.size) w lv xss ∧ SlW mI 0 lo w.heap.size w kv ks ∧ SsF mI 0 (Rng lo w.heap.size) w pv pss
theorem SegAt.same {lo : Nat} {w w' : World} {v : Value} {base : Int} {xss pss : List (List Int)} {ks : List Int} (h : SegAt lo w v base xss ks pss) (hz : w.heap.size ≤ w'.heap.size) (hs : ∀ k, lo ≤ k → k < w.heap.size → w'.heap[k]? = w.heap[k]?) : SegAt lo w' v base xss ks pss := by
  obtain ⟨lv, kv, pv, e, h1, h2, h3⟩ := h
  exact ⟨lv, kv, pv, e, (h1.same (fun k hk => hs k hk.1 hk.2)).mono (fun k hk => ⟨hk.1, Nat.lt_of_lt_of_le hk.2 hz⟩), (h2.same (fun k k1 k2 => hs k k1 k2)).mono (Nat.le_refl _) hz, (h3.same (fun k hk => hs k hk.1 hk.2)).mono (fun k hk => ⟨hk.1, Nat.lt_of_lt_of_le hk.2 hz⟩)⟩
theorem SegAt.keep {lo m : Nat} {w w' : World} {v : Value} {base : Int} {xss pss : List (List Int)} {ks : List Int} (h : SegAt lo w v base xss ks pss) (hb : Below m w w') (hm : w.heap.size ≤ m) : SegAt lo w' v base xss ks pss := h.same hb.size (fun k _ h2 => hb.block k (by omega))
theorem SegAt.put {lo b o : Nat} {w : World} {v u : Value} {base : Int} {xss pss : List (List Int)} {ks : List Int} (h : SegAt lo w v base xss ks pss) (hb : b < lo) : SegAt lo (w.setCell ⟨b, o, none⟩ u) v base xss ks pss := h.same (by rw [sz_put]; exact Nat.le_refl _) (fun k k1 _ => Below.heap_setCell _ _ _ _ (by show k ≠ b; omega))
theorem SegAt.low {lo lo' : Nat} {w : World} {v : Value} {base : Int} {xss pss : List (List Int)} {ks : List Int} (h : SegAt lo w v base xss ks pss) (hl : lo' ≤ lo) : SegAt lo' w v base xss ks pss := by
  obtain ⟨lv, kv, pv, e, h1, h2, h3⟩ := h
  exact ⟨lv, kv, pv, e, h1.mono (fun k hk => ⟨Nat.le_trans hl hk.1, hk.2⟩), h2.mono hl (Nat.le_refl _), h3.mono (fun k hk => ⟨Nat.le_trans hl hk.1, hk.2⟩)⟩
/-! The list that is made of marks is canonical. -/
def lstD (C : List Int) : Int := C.getLastD (-2)
theorem lstD_snoc (C : List Int) (s e : Int) : lstD (C ++ [s, e]) = e := by simp [lstD]
theorem lstD_ix {C : List Int} (h : 0 < C.length) : C[C.length - 1]?.getD 0 = lstD C := by
  unfold lstD
  rw [List.getLastD_eq_getLast?, List.getLast?_eq_getElem?]
  rw [List.getElem?_eq_getElem (by omega)]
  rfl
theorem getD_app {C D : List Int} {i : Nat} (h : i < C.length) : (C ++ D)[i]?.getD 0 = C[i]?.getD 0 := by rw [List.getElem?_append_left h]
theorem getD_new (C : List Int) (s e : Int) : (C ++ [s, e])[C.length]?.getD 0 = s ∧ (C ++ [s, e])[C.length + 1]?.getD 0 = e := by
  constructor
  · rw [List.getElem?_append_right (Nat.le_refl _)]; simp
  · rw [List.getElem?_append_right (by omega), show C.length + 1 - C.length = 1 by omega]; rfl
theorem canon_snoc {C : List Int} (h : Canon C) {s e : Int} (h0 : 0 ≤ s) (h1 : s ≤ e) (h2 : e ≤ 255) (h3 : lstD C + 2 ≤ s) : Canon (C ++ [s, e]) := by
  obtain ⟨a, b, c⟩ := h
  obtain ⟨n1, n2⟩ := getD_new C s e
  refine ⟨by simp; omega, fun i hi => ?_, fun m hm => ?_⟩
  · simp at hi
    by_cases e1 : i < C.length
    · rw [getD_app e1]; exact b i e1
    · by_cases e2 : i = C.length
      · subst e2; rw [n1]; omega
      · obtain rfl : i = C.length + 1 := by omega
        rw [n2]; omega
  · simp at hm
    by_cases e1 : 2 * m < C.length
    · have := c m e1
      unfold PairOk at this ⊢
      rw [getD_app e1, getD_app (show 2 * m + 1 < C.length by omega)]
      refine ⟨this.1, fun h => ?_⟩
      rw [getD_app (show 2 * m - 1 < C.length by omega)]
      exact this.2 h
    · obtain e2 : 2 * m = C.length := by omega
      unfold PairOk
      rw [e2, n1, n2]
      refine ⟨h1, fun h => ?_⟩
      rw [getD_app (show C.length - 1 < C.length by omega), lstD_ix h]
      omega
theorem inP_app (C D : List Int) : ∀ (k b : Nat), 2 * k ≤ C.length → InP (C ++ D) k b = InP C k b
  | 0, _, _ => rfl
  | k + 1, b, h => by
    simp only [InP]
    rw [inP_app C D k b (by omega), getD_app (show 2 * k < C.length by omega), getD_app (show 2 * k + 1 < C.length by omega)]
theorem inP_snoc {C : List Int} (h : C.length % 2 = 0) (s e : Int) (b : Nat) : InP (C ++ [s, e]) ((C ++ [s, e]).length / 2) b = (InP C (C.length / 2) b || decide (s ≤ (b : Int) ∧ (b : Int) ≤ e)) := by
  have hl : (C ++ [s, e]).length / 2 = C.length / 2 + 1 := by simp
  obtain ⟨n1, n2⟩ := getD_new C s e
  rw [hl]
  simp only [InP]
  rw [inP_app C _ _ _ (by omega), show 2 * (C.length / 2) = C.length by omega, n1, n2]
structure CnA (p : Nat → Bool) (n : Nat) (C : List Int) : Prop where
  can : Canon C
  inp : ∀ b : Nat, InP C (C.length / 2) b = (decide (b < n) && p b)
  last : lstD C ≤ (n : Int) - 1
  next : n < 256 → p n = true → lstD C + 2 ≤ (n : Int) ∧ (n = 0 ∨ p (n - 1) = false)
structure CnB (p : Nat → Bool) (n : Nat) (C : List Int) (s : Nat) : Prop where
  can : Canon C
  inp : ∀ b : Nat, InP C (C.length / 2) b = (decide (b < s) && p b)
  lt : s < n
  last : lstD C + 2 ≤ (s : Int)
  run : ∀ i, s ≤ i → i < n → p i = true
  top : n < 256
  now : p n = true
theorem cnn_step (p : Nat → Bool) : ∀ n : Nat, n ≤ 256 → CnA p n ((List.range n).flatMap (emR p)) ∨ ∃ (C : List Int) (s : Nat), (List.range n).flatMap (emR p) = C ++ [(s : Int)] ∧ CnB p n C s
  | 0, _ => .inl ⟨⟨rfl, fun i hi => by simp at hi, fun m hm => by simp at hm⟩, fun b => by simp [InP], by simp [lstD], fun _ _ => by simp [lstD]⟩
  | n + 1, hn => by
    have e0 : (List.range (n + 1)).flatMap (emR p) = (List.range n).flatMap (emR p) ++ emR p n := by rw [List.range_succ, List.flatMap_append]; simp
    rw [e0]
    rcases cnn_step p n (by omega) with h | ⟨C, s, e, h⟩
    · generalize (List.range n).flatMap (emR p) = C at h ⊢
      cases hp : p n with
      | false =>
        have em : emR p n = [] := by simp [emR, hp]
        rw [em, List.append_nil]
        refine .inl ⟨h.can, fun b => ?_, by have := h.last; omega, fun _ hq => ⟨by have := h.last; omega, .inr hp⟩⟩
        rw [h.inp b]
        by_cases e : b = n
        · subst e; simp [hp]
        · have : (b < n + 1) ↔ b < n := by omega
          simp [this]
      | true =>
        obtain ⟨h1, h2⟩ := h.next (by omega) hp
        have st : (p n && (n == 0 || !p (n - 1))) = true := by
          rcases h2 with rfl | h2
          · simp [hp]
          · simp [hp, h2]
        by_cases hc : n = 255 ∨ p (n + 1) = false
        · have cl : (p n && (n == 255 || !p (n + 1))) = true := by
            rcases hc with rfl | hc
            · simp [hp]
            · simp [hp, hc]
          have em : emR p n = [(n : Int), (n : Int)] := by simp only [emR]; rw [if_pos st, if_pos cl]; rfl
          rw [em]
          refine .inl ⟨canon_snoc h.can (by omega) (by omega) (by omega) h1, fun b => ?_, by rw [lstD_snoc]; omega, fun hq hq2 => ?_⟩
          · rw [inP_snoc h.can.1, h.inp b]
            by_cases e : b = n
            · subst e; simp [hp]
            · have : (b < n + 1) ↔ b < n := by omega
              have e2 : decide ((n : Int) ≤ (b : Int) ∧ (b : Int) ≤ (n : Int)) = false := decide_eq_false (by omega)
              rw [e2]
              simp [this]
          · rcases hc with rfl | hc
            · omega
            · rw [hc] at hq2; cases hq2
        · have hc1 : n ≠ 255 := fun e => hc (.inl e)
          have hc2 : p (n + 1) = true := by cases e : p (n + 1) with
            | true => rfl
            | false => exact absurd (.inr e) hc
          have cl : ¬ (p n && (n == 255 || !p (n + 1))) = true := by simp [hc1, hc2]
          have em : emR p n = [(n : Int)] := by simp only [emR]; rw [if_pos st, if_neg cl]; rfl
          rw [em]
          exact .inr ⟨C, n, rfl, h.can, h.inp, by omega, h1, fun i i1 i2 => by rw [show i = n by omega]; exact hp, by omega, hc2⟩
    · have hp := h.now
      have hlt := h.lt
      have hq : p (n - 1) = true := h.run (n - 1) (by omega) (by omega)
      have st : ¬ (p n && (n == 0 || !p (n - 1))) = true := by simp [hq]; omega
      rw [e]
      by_cases hc : n = 255 ∨ p (n + 1) = false
      · have cl : (p n && (n == 255 || !p (n + 1))) = true := by
          rcases hc with rfl | hc
          · simp [hp]
          · simp [hp, hc]
        have em : emR p n = [(n : Int)] := by simp only [emR]; rw [if_neg st, if_pos cl]; rfl
        rw [em, List.append_assoc]
        show CnA p (n + 1) (C ++ [(s : Int), (n : Int)]) ∨ _
        refine .inl ⟨canon_snoc h.can (by omega) (by omega) (by have := h.top; omega) h.last, fun b => ?_, by rw [lstD_snoc]; omega, fun hq hq2 => ?_⟩
        · rw [inP_snoc h.can.1, h.inp b]
          by_cases e1 : b < s
          · have e2 : b < n + 1 := by omega
            have e3 : decide ((s : Int) ≤ (b : Int) ∧ (b : Int) ≤ (n : Int)) = false := decide_eq_false (by omega)
            rw [e3]
            simp [e1, e2]
          · by_cases e2 : b ≤ n
            · have e3 : decide ((s : Int) ≤ (b : Int) ∧ (b : Int) ≤ (n : Int)) = true := decide_eq_true (by omega)
              have e4 : b < n + 1 := by omega
              have e5 : p b = true := by
                by_cases e6 : b = n
                · rw [e6]; exact hp
                · exact h.run b (by omega) (by omega)
              rw [e3]
              simp [e1, e4, e5]
            · have e3 : decide ((s : Int) ≤ (b : Int) ∧ (b : Int) ≤ (n : Int)) = false := decide_eq_false (by omega)
              have e4 : ¬ b < n + 1 := by omega
              rw [e3]
              simp [e1, e4]
        · rcases hc with rfl | hc
          · omega
          · rw [hc] at hq2; cases hq2
      · have hc1 : n ≠ 255 := fun e => hc (.inl e)
        have hc2 : p (n + 1) = true := by cases e : p (n + 1) with
          | true => rfl
          | false => exact absurd (.inr e) hc
        have cl : ¬ (p n && (n == 255 || !p (n + 1))) = true := by simp [hc1, hc2]
        have em : emR p n = [] := by simp only [emR]; rw [if_neg st, if_neg cl]; rfl
        rw [em, List.append_nil]
        refine .inr ⟨C, s, rfl, h.can, h.inp, by omega, h.last, fun i i1 i2 => ?_, by have := h.top; omega, hc2⟩
        by_cases e6 : i = n
        · rw [e6]; exact hp
        · exact h.run i i1 (by omega)
theorem cnn_ok (p : Nat → Bool) : Canon (cnn p) ∧ ∀ b : Nat, InP (cnn p) ((cnn p).length / 2) b = (decide (b < 256) && p b) := by
  rcases cnn_step p 256 (Nat.le_refl _) with h | ⟨C, s, -, h⟩
  · exact ⟨h.can, h.inp⟩
  · exact absurd h.top (by omega)
theorem ix_iff (x : List Int) : ix x < 0 ↔ 10 ∉ x := by
  induction x with
  | nil => simp [ix, hd]
  | cons y r ih =>
    have h1 := ix_lo r
    rw [ix_cons]
    by_cases e : y = 10
    · subst e; simp
    · rw [if_neg e]
      by_cases h2 : ix r = -1
      · rw [if_pos h2]
        have := ih.1 (by omega)
        simp [this, Ne.symm e]
      · rw [if_neg h2]
        have h3 : ¬ ix r < 0 := by omega
        have h4 : 10 ∈ r := by
          by_cases q : 10 ∈ r
          · exact q
          · exact absurd (ih.2 q) h3
        simp [h4]
        omega
theorem not_mem_get {x : List Int} (h : 10 ∉ x) : ∀ j : Nat, j < x.length → x[j]?.getD 0 ≠ 10 := fun j hj e => h (mem_get.2 ⟨j, hj, e⟩)
theorem holdsNewline_any (v : Value) (x : List Int) (N : Nat) (w : World) (hv : SlAt mB 0 0 N w v x) (hb : Bytes x) :
    Calls Tryz.prog 55 #[v] w fun e w' => e = .returned (.bool (decide (0 ≤ ix x))) ∧ w' = w := by
  have HV := hide hv
  obtain ⟨a, cap, rfl, -, -⟩ := hv
  have hB := hide hb
  clear hb
  go_enter Tryz.func55, Tryz.ntmps55
  go_wp2_with fail
  refine (indexByte_any _ x _ _ (unhide HV) (unhide hB)).mono ?_
  rintro e w2 ⟨rfl, rfl⟩
  go_wp2
  go_ret
  exact ⟨rfl, rfl⟩
set_option maxHeartbeats 2000000 in
set_option maxRecDepth 100000 in
theorem fitSegment_any (base : Int) (v : Value) (xss : List (List Int)) (w : World) (hv : SsAt mB 0 w.heap.size w v xss) (hbb : ∀ x ∈ xss, Bytes x) (hT : tot xss ≤ 1048576) (hL : xss.length ≤ 1048576) (hb0 : -9223372036854775808 ≤ base) (hb1 : base ≤ 9223372036854775807) :
    Calls Tryz.prog 24 #[.int .i64 base, v] w fun e w' => RetB e (Fits base xss) ∧ ∃ q, w' = w.drewN q := by
  have Hv := hide hv
  have HB := hide hbb
  obtain ⟨a, cap, rfl, hl, hc⟩ := hv
  clear hbb
  by_cases h1 : base < 0
  · have HN : Hid (¬ Fits base xss) := fun h => by obtain ⟨q1, q2, q3, -⟩ := h; omega
    clear hc
    go_enter Tryz.func24, Tryz.ntmps24
    go_wp2
    go_ret
    exact ⟨RetB.no (unhide HN), 0, rfl⟩
  · have k1 : IntKind.i64.wrap (1000 - base) = 1000 - base := k64i (by omega) (by omega)
    by_cases h2 : xss.length = 0
    · have HN : Hid (¬ Fits base xss) := fun h => by obtain ⟨q1, q2, q3, -⟩ := h; omega
      clear hc
      rw [h2]
      go_enter Tryz.func24, Tryz.ntmps24
      go_wp2
      go_ret
      exact ⟨RetB.no (unhide HN), 0, rfl⟩
    · have h2' : ((xss.length : Int) == 0) = false := by rw [beq_eq_false_iff_ne]; omega
      by_cases h3 : 1000 - base < (xss.length : Int)
      · have HN : Hid (¬ Fits base xss) := fun h => by obtain ⟨q1, q2, q3, -⟩ := h; omega
        clear hc
        go_enter Tryz.func24, Tryz.ntmps24
        go_wp2
        go_ret
        exact ⟨RetB.no (unhide HN), 0, rfl⟩
      · have hx1 : base + (xss.length : Int) ≤ 1000 := by omega
        go_enter Tryz.func24, Tryz.ntmps24
        go_wp2_with fail
        go_loopw [5, 24] (fun rv iv wr => (∃ k : Nat, k ≤ xss.length ∧ iv = .int .i64 k ∧ rv = .int .i64 (20000 - (tot (xss.take k) : Int)) ∧ tot (xss.take k) ≤ 20000 ∧ ∀ i : Nat, i < k → ∀ j : Nat, j < (xss[i]?.getD []).length → (xss[i]?.getD [])[j]?.getD 0 ≠ 10) ∧ ∃ q, wr = w.drewN q) (fun _ iv _ => xss.length - (intOf iv).toNat)
        case atStart => exact ⟨⟨0, Nat.zero_le _, rfl, by simp [tot], by simp [tot], fun i hi => absurd hi (Nat.not_lt_zero _)⟩, 0, rfl⟩
        case round =>
          obtain ⟨⟨k, hk, rfl, rfl, htk, hp⟩, q, rfl⟩ := hrel
          have Hp := hide hp
          clear hp
          by_cases hlt : k < xss.length
          · have hlt' : (k : Int) < (xss.length : Int) := by omega
            obtain ⟨b, off, rfl, hbn, hcell⟩ := hc (by omega)
            obtain ⟨s, hx, hs, -⟩ := hcell k hlt
            have Hs : Hid (SlAt mB 0 0 w.heap.size (w.drewN q) s (xss[k]?.getD [])) := hs
            obtain ⟨sa, sc, rfl, -, -⟩ := hs
            have ht1 := hide (tot_step xss k hlt)
            have ht2 := tot_take xss (k + 1)
            have ht3 := tot_get xss k
            have Hb := hide (unhide HB (xss[k]?.getD []) (by rw [List.getElem?_eq_getElem hlt]; exact List.getElem_mem _))
            have Hno : Hid (10 ∈ (xss[k]?.getD []) → ¬ Plain xss) := fun h hpl => by
              obtain ⟨j, hj, e⟩ := mem_get.1 h
              exact hpl k hlt j hj e
            have Hyes : Hid (10 ∉ (xss[k]?.getD []) → ∀ i : Nat, i < k + 1 → ∀ j : Nat, j < (xss[i]?.getD []).length → (xss[i]?.getD [])[j]?.getD 0 ≠ 10) := fun h i hi => by
              by_cases e : i = k
              · subst e; exact not_mem_get h
              · exact unhide Hp i (by omega)
            clear hcell hc Hp
            generalize xss[k]?.getD [] = x at *
            by_cases hr : 20000 - (tot (xss.take k) : Int) < (x.length : Int)
            · have HN : Hid (¬ Fits base xss) := fun h => by
                obtain ⟨_, _, _, _, q5⟩ := h
                have := unhide ht1
                omega
              generalize 20000 - (tot (xss.take k) : Int) = rm at *
              go_wp2
              go_ret
              exact ⟨RetB.no (unhide HN), _, rfl⟩
            · have hrm : Hid (tot (xss.take (k + 1)) ≤ 20000 ∧ 20000 - (tot (xss.take (k + 1)) : Int) = 20000 - (tot (xss.take k) : Int) - (x.length : Int)) := by
                have := unhide ht1
                exact ⟨by omega, by omega⟩
              have hr0 : (0 : Int) ≤ 20000 - (tot (xss.take k) : Int) := by omega
              have hr1 : 20000 - (tot (xss.take k) : Int) ≤ 20000 := by omega
              generalize 20000 - (tot (xss.take k) : Int) = rm at *
              clear ht2 htk
              by_cases h10 : ix x < 0
              · have HN := hide (unhide Hyes ((ix_iff x).1 h10))
                have hd0 : decide (0 ≤ ix x) = false := decide_eq_false (by omega)
                have hd1 : ¬ (0 ≤ ix x) := by omega
                go_wp2_with fail
                refine (holdsNewline_any _ x _ _ (unhide Hs) (unhide Hb)).mono ?_
                rintro e w2 ⟨rfl, rfl⟩
                rw [hd0]
                go_wp2
                go_roundw
                case rel => exact ⟨⟨k + 1, by omega, by go_num, by rw [(unhide hrm).2], (unhide hrm).1, unhide HN⟩, _, rfl⟩
                case measure => simp [intOf]; omega
              · have HN : Hid (¬ Fits base xss) := fun h => by
                  obtain ⟨_, _, _, q4, _⟩ := h
                  refine unhide Hno ?_ q4
                  by_cases q : 10 ∈ x
                  · exact q
                  · exact absurd ((ix_iff x).2 q) h10
                have hd1 : decide (0 ≤ ix x) = true := decide_eq_true (by omega)
                go_wp2_with fail
                refine (holdsNewline_any _ x _ _ (unhide Hs) (unhide Hb)).mono ?_
                rintro e w2 ⟨rfl, rfl⟩
                rw [hd1]
                go_wp2
                go_ret
                exact ⟨RetB.no (unhide HN), _, rfl⟩
          · obtain rfl : k = xss.length := by omega
            have HY : Hid (Fits base xss) := ⟨by omega, by omega, by omega, unhide Hp, by rw [List.take_length] at htk; exact htk⟩
            clear hc
            go_wp2
            go_ret
            exact ⟨RetB.yes (unhide HY), _, rfl⟩
open Go.RowKit Go.Shelf
attribute [local go_sem] Oper.semAt_some
def plc (i : Nat) (bs : List Int) (n : Nat) : List Int := (tris bs n).map (fun t => t * 1000 + (i : Int))
def plcs (xss : List (List Int)) : Nat → List Int
  | 0 => []
  | n + 1 => plcs xss n ++ plc n (xss[n]?.getD []) ((xss[n]?.getD []).length - 2)
theorem plc_len (i : Nat) (bs : List Int) (n : Nat) : (plc i bs n).length = n := by simp [plc, tris_len]
theorem plcs_len (xss : List (List Int)) (k : Nat) (hk : k ≤ xss.length) : (plcs xss k).length ≤ tot (xss.take k) := by
  induction k with
  | zero => simp [plcs]
  | succ k ih =>
    rw [plcs, List.length_append, plc_len, tot_step xss k (by omega)]
    have := ih (by omega)
    omega
theorem plc_wrap (k : Nat) (hk : k < 1000) (bs : List Int) (hb : Bytes bs) (n : Nat) : (tris bs n).map (fun t => wrap64 (wrap64 (t * 1000) + k)) = plc k bs n := by
  unfold plc tris
  rw [List.map_map, List.map_map]
  refine List.map_congr_left (fun i _ => ?_)
  show wrap64 (wrap64 (tri3 bs i * 1000) + k) = tri3 bs i * 1000 + k
  have h0 := hb i
  have h1 := hb (i + 1)
  have h2 := hb (i + 2)
  have e : tri3 bs i = bs[i]?.getD 0 * 65536 + bs[i + 1]?.getD 0 * 256 + bs[i + 2]?.getD 0 := rfl
  have q1 : 0 ≤ tri3 bs i := by omega
  have q2 : tri3 bs i ≤ 16777215 := by omega
  rw [w64i (n := tri3 bs i * 1000) (by omega) (by omega), w64i (by omega) (by omega)]
def mrk (D : Nat) : Deferred := { target := .collected D, args := #[] }
structure Mks (w W : World) (Ds : List Nat) : Prop where
  nd : Ds.Nodup
  lo : ∀ D ∈ Ds, w.heap.size < D
  at' : ∀ D ∈ Ds, W.heap[D]? = some (.deferred (some []))
theorem leaves_marks {fn : Func} {t : Tmp} (hres : fn.results = #[.tmp t]) (tmps : Array Value) (R : Ending → World → Prop) (n : Nat) : ∀ (Ds : List Nat) (W : World), Ds.Nodup → (∀ D ∈ Ds, W.heap[D]? = some (.deferred (some []))) →
    (∀ W' : World, W'.os = W.os → W'.tape = W.tape → W'.output = W.output → W'.heap.size = W.heap.size → (∀ k, (∀ D ∈ Ds, k ≠ D) → W'.heap[k]? = W.heap[k]?) → R (.returned (tmps.getD t undef)) W') → LeavesInM Fence.wide n Tryz.prog fn tmps R (Ds.map mrk) .returning W := by
  intro Ds
  induction Ds with
  | nil =>
    intro W _ _ hR
    exact ⟨_, results_tmp hres _ _ _, hR W rfl rfl rfl rfl (fun _ _ => rfl)⟩
  | cons D Ds ih =>
    intro W hnd hat hR
    have hnd' := List.nodup_cons.1 hnd
    refine ⟨by simp, .inl ⟨D, _, rfl, run_takeDeferred (hat D (by simp)), ih _ hnd'.2 (fun D' hD' => ?_) (fun W' e1 e2 e3 e4 e5 => hR W' e1 e2 e3 ?_ (fun k hk => ?_))⟩⟩
    · rw [World.putObj_heap_other (fun e => by subst e; exact hnd'.1 hD')]
      exact hat D' (by simp [hD'])
    · rw [e4]; simp
    · rw [e5 k (fun D' hD' => hk D' (by simp [hD'])), World.putObj_heap_other (hk D (by simp))]
def IPl (w : World) (Bi : Nat) (k : Nat) (ys : List Int) (Ds : List Nat) (f : Int → Int) (pre : List Int) (W : World) : Prop :=
  (∃ v, Boxed W w.heap.size 34 v ∧ W.ownsRow w.heap.size 3 1 v (ys ++ pre.map f).length ((ys ++ pre.map f).map mI) ∧ v.ownBlock ≠ some Bi) ∧ Below w.heap.size w W ∧ Boxed W Bi 3 (.int .i64 k) ∧ Mks w W Ds
theorem IPl.own {w V : World} {Bi k : Nat} {ys : List Int} {Ds : List Nat} {f : Int → Int} (hV : w.heap.size ≤ V.heap.size) (hD : ∀ D ∈ Ds, D < V.heap.size) : OwnFrom V.heap.size (IPl w Bi k ys Ds f) := by
  rintro s W W' row ⟨⟨v, hv, hr, hn⟩, hb, hbi, hm⟩ hg hrow
  have hb' : ∀ (B : Nat) (t : TypeId) (u : Value), Boxed W B t u → Boxed W' B t u := fun B t u h => h.kept hg (fun e' => by
    obtain ⟨-, o, ho, hc⟩ := hrow B e'.symm
    rw [show W.heap[B]? = _ from h] at ho; cases ho; cases hc)
  refine ⟨⟨v, hb' _ _ _ hv, hr.kept hg ?_, hn⟩, ?_, hb' _ _ _ hbi, hm.nd, hm.lo, fun D hDm => ?_⟩
  · rcases hr.2 with ⟨rfl, _⟩ | ⟨g, cap, cur, rfl, _, hgb, _⟩
    · exact .inl rfl
    · refine .inr fun e' => ?_
      obtain ⟨-, o, ho, hc⟩ := hrow g (by simpa [Value.ownBlock] using e'.symm)
      rw [hgb] at ho; cases ho; cases hc
  · refine hb.trans ⟨hg.os, hg.tape, hg.output, hg.size, fun j hj => hg.block j (by have := hb.size; omega) (fun e => ?_)⟩
    have := (hrow j e.symm).1
    omega
  · rw [hg.block D (by have := Array.getElem?_eq_some_iff.1 (hm.at' D hDm); exact this.1) (fun e => ?_)]
    · exact hm.at' D hDm
    · have h1 := (hrow D e.symm).1
      have h2 := hD D hDm
      omega
set_option maxRecDepth 100000 in
set_option maxHeartbeats 4000000 in
theorem trigramPlaces_any (v : Value) (xss : List (List Int)) (w : World) (hv : SsAt mB 0 w.heap.size w v xss) (hbb : ∀ x ∈ xss, Bytes x) (hT : tot xss ≤ 1048576) (hL : xss.length ≤ 1000) :
    Calls Tryz.prog 56 #[v] w fun e w' => OrdOwn e w w' (plcs xss xss.length) ∧ Below w.heap.size w w' := by
  have Hv := hide hv
  have HB := hide hbb
  obtain ⟨a, cap, rfl, hl, hc⟩ := hv
  obtain ⟨i0, hi, hz0, hz1, hz2⟩ := info_parts Tryz.zinInt
  clear hbb
  refine (callsIn_wide (n := 5)).1 ?_
  refine callsIn_of_wp_marks Tryz.func56 rfl trivial ?_ rfl
  simp only [Tryz.ntmps56, List.size_toArray, List.length_cons, List.length_nil, Nat.reduceAdd, Nat.reduceSub, Array.replicate_succ, Array.replicate_zero, List.push_toArray, List.append_toArray, List.nil_append, List.cons_append]
  gi_wp2_with fail
  have bO := Boxed.new w 34 (.slice none 0 0)
  refine wpIn_loop (fun A W => ∃ (k : Nat) (Ds : List Nat) (t4 t5 t6 t10 t11 t12 t13 t14 t15 t16 t17 t18 t19 t20 t21 t22 t23 t24 t25 t26 : Value), A = { tmps := #[.slice a xss.length cap, undef, .slice none 0 0, .pointer (some ⟨w.heap.size, 0, none⟩), t4, t5, t6, .slice a xss.length cap, .int .i64 xss.length, .int .i64 k, t10, t11, t12, t13, t14, t15, t16, t17, t18, t19, t20, t21, t22, t23, t24, t25, t26], defers := Ds.map mrk } ∧ k ≤ xss.length ∧ (∃ v, Boxed W w.heap.size 34 v ∧ W.ownsRow w.heap.size 3 1 v (plcs xss k).length ((plcs xss k).map mI)) ∧ Below w.heap.size w W ∧ Mks w W Ds) (fun A _ => xss.length - (intOf (A.tmps.getD 9 undef)).toNat) ?start ?round
  case start => exact ⟨0, [], _, _, _, _, _, _, _, _, _, _, _, _, _, _, _, _, _, _, _, _, rfl, Nat.zero_le _, ⟨_, bO, World.ownsRow_nil _ _ _ _⟩, below1 w _, ⟨List.nodup_nil, by simp, by simp⟩⟩
  case round =>
    rintro A W ⟨k, Ds, t4, t5, t6, t10, t11, t12, t13, t14, t15, t16, t17, t18, t19, t20, t21, t22, t23, t24, t25, t26, rfl, hk, ⟨v, hbx, hown⟩, hB, hM⟩
    by_cases hlt : k < xss.length
    · have hlt' : (k : Int) < (xss.length : Int) := by omega
      obtain ⟨b, off, rfl, hbn, hcell⟩ := hc (by omega)
      obtain ⟨s, hx0, hs, -⟩ := hcell k hlt
      have hx : W.cell? ⟨b, off + k, none⟩ = some s := by rw [hB.cell (p := ⟨b, off + k, none⟩) hbn]; exact hx0
      have Hs := hide hs
      have ht := tot_get xss k
      have Hb := hide (unhide HB (xss[k]?.getD []) (by rw [List.getElem?_eq_getElem hlt]; exact List.getElem_mem _))
      have Hpl : Hid (plcs xss (k + 1) = plcs xss k ++ plc k (xss[k]?.getD []) ((xss[k]?.getD []).length - 2)) := rfl
      obtain ⟨sa, sc, rfl, -, hsc⟩ := hs
      clear hcell hc hx0
      generalize xss[k]?.getD [] = x at *
      generalize hys : plcs xss k = ys at *
      gi_wp2_with (refine ⟨trivial, ?_⟩; gi_at_call 54; refine (pieces_in _ _ rfl _).mono ?_; rintro e w' ⟨rfl, rfl⟩)
      have hszW := hB.size
      have hMlt : ∀ D ∈ Ds, D < W.heap.size := fun D hD => (Array.getElem?_eq_some_iff.1 (hM.at' D hD)).1
      have hG : W.grownBy ((W.alloc (.cells #[.int .i64 k] 3)).alloc (.cells #[.slice sa x.length sc] 22)) none := ⟨rfl, rfl, rfl, by simp; omega, fun j hj _ => by rw [(pushd_alloc _ _).old (by rw [sz_alloc]; omega), (pushd_alloc W _).old hj]⟩
      have bN := Boxed.new (W.alloc (.cells #[.int .i64 k] 3)) 22 (.slice sa x.length sc)
      rw [World.size_alloc] at bN
      have bI : Boxed ((W.alloc (.cells #[.int .i64 k] 3)).alloc (.cells #[.slice sa x.length sc] 22)) W.heap.size 3 (.int .i64 k) := (Boxed.new W 3 (.int .i64 k)).alloc _
      have hBV : Below w.heap.size w ((W.alloc (.cells #[.int .i64 k] 3)).alloc (.cells #[.slice sa x.length sc] 22)) := (hB.alloc hszW _).alloc (by simp; omega) _
      have h0 : IPl w W.heap.size k ys Ds (fun t => wrap64 (wrap64 (t * 1000) + k)) [] ((W.alloc (.cells #[.int .i64 k] 3)).alloc (.cells #[.slice sa x.length sc] 22)) := by
        refine ⟨⟨v, (hbx.alloc _).alloc _, ?_, ?_⟩, hBV, bI, hM.nd, hM.lo, fun D hD => ?_⟩
        · rw [List.map_nil, List.append_nil]; exact (hown.alloc _).alloc _
        · intro e
          have := (hown.lt _ e).2
          omega
        · rw [hG.block D (hMlt D hD) (by simp)]; exact hM.at' D hD
      have hVz : ((W.alloc (.cells #[.int .i64 k] 3)).alloc (.cells #[.slice sa x.length sc] 22)).heap.size = W.heap.size + 2 := by simp
      refine wpIn_rangeFunc_ownG rfl (by omega) (gf := 90) (lb := #[.pointer (some ⟨W.heap.size + 1, 0, none⟩)]) rfl trivial (enters_of Tryz.func90 (by kernel_rfl) rfl)
        (pieces_stops 4 (by omega) (W.heap.size + 1) w.heap.size sc sa x (by omega) (unhide Hb) _ bN (by rw [hVz]; omega) (fun hp => by
          obtain ⟨b', off', e, -, h1, h2⟩ := hsc hp
          exact ⟨b', off', e, h1, fun i hi => (hBV.cell (p := ⟨b', off' + i, none⟩) h1).trans (h2 i hi)⟩)) KpX.trans (KpX.putObj (by rw [hVz]; omega)) (Below.refl _ _) (fun _ => rfl)
        (IPl w W.heap.size k ys Ds (fun t => wrap64 (wrap64 (t * 1000) + k)))
        (fun _ _ _ => False)
        (IPl.own (by rw [hVz]; omega) (fun D hD => by have := hMlt D hD; rw [hVz]; omega))
        (fun _ _ _ _ _ hs _ _ => hs)
        h0
        (fun u => { tmps := #[.slice (some ⟨b, off, none⟩) xss.length cap, undef, .slice none 0 0, .pointer (some ⟨w.heap.size, 0, none⟩), .pointer (some ⟨W.heap.size, 0, none⟩), .slice sa x.length sc, .int .i64 u, .slice (some ⟨b, off, none⟩) xss.length cap, .int .i64 xss.length, .int .i64 k, .bool true, .int .i64 k, .pointer (some ⟨b, off + k, none⟩), .slice sa x.length sc, .slice sa x.length sc, .func (.func 90) #[] #[.pointer (some ⟨W.heap.size + 1, 0, none⟩)], .int .i64 u, t17, t18, t19, t20, t21, t22, t23, t24, t25, t26], defers := [] }) ?assign ?body ?done ?stop
      case assign =>
        intro l u W' K hK
        gi_wp2
        exact hK
      case body =>
        rintro l pre u W' ⟨⟨v', hv', hrow, hne⟩, hB', hbi, hM'⟩ hlt2
        have hcv := hv'.cell
        have hci := hbi.cell
        have hszB := hB'.size
        have hyl : ys.length ≤ 1048576 := by
          rw [← hys]
          exact Nat.le_trans (plcs_len xss k hk) (Nat.le_trans (tot_take xss k) hT)
        have hlb : w.heap.size < W.heap.size := hbx.lt
        have hpl : (ys ++ pre.map (fun t => wrap64 (wrap64 (t * 1000) + k))).length ≤ 2097152 := by simp; omega
        have HL : Hid (ys ++ (pre ++ [u]).map (fun t => wrap64 (wrap64 (t * 1000) + k)) = (ys ++ pre.map (fun t => wrap64 (wrap64 (t * 1000) + k))) ++ [wrap64 (wrap64 (u * 1000) + k)]) := by
          show _ = _
          rw [List.map_append, List.append_assoc]
          rfl
        generalize ys ++ pre.map (fun t => wrap64 (wrap64 (t * 1000) + k)) = L at *
        have hil := hbi.lt
        gi_wp2_with (gi_at_builtin; refine wpListIn_append_own_at _ rfl _ _ 34 rfl w.heap.size 3 i0 (.int .i64 0) 1 8 Tryz.underlying34 hi hz0 hz1 hz2 rfl (by decide) _ _ _ rfl (hrow.alloc _) ⟨W'.heap.size, 0, none⟩ 1 1 [.int .i64 (wrap64 (wrap64 (u * 1000) + k))] rfl rfl (cell_one_new _ _ _) (by simp [Value.oneCell']) (by unfold maxLen; omega) (by omega) (by simp; omega) ?_; intro v2 w1 hown' hgrow _ hbl2; obtain ⟨g', cap', rfl⟩ := ownsRow_succ hown'; obtain ⟨hv1, hv2, hr2, hk2, hb2⟩ := hv'.appended (by decide) hrow hB'.size (Nat.le_refl _) hown' hgrow; have hc1 := hv1.cell; have hf1 := hv1.frozen)
        refine ⟨hk2.from _, ⟨hb2, fun u' hu => (Below.heap_setCell _ _ _ _ (by show W.heap.size + 1 ≠ w.heap.size; omega)).trans ((hu.alloc _).kept hgrow (hu.not_row (by decide) hrow))⟩, ⟨_, hv2, ?_, ?_⟩, hB'.trans hb2, ?_, hM'.nd, hM'.lo, fun D hD => hk2.same D _ (hM'.at' D hD) rfl⟩
        · rw [unhide HL, List.length_append, List.map_append]
          exact hr2
        · rcases hbl2 with e | e
          · rw [e]; exact hne
          · rw [e]
            intro e2
            have := Option.some.inj e2
            simp at this
            omega
        · exact (Below.heap_setCell _ _ _ _ (by show W.heap.size ≠ w.heap.size; omega)).trans ((hbi.alloc _).kept hgrow (fun e => hne e.symm))
      case done =>
        rintro D zs W' hD hzs ⟨⟨v', hv', hrow, hne⟩, hB', hbi, hM'⟩ hK
        have e1 := plc_wrap k (by omega) x (unhide Hb) (x.length - 2)
        rw [hzs, e1] at hrow
        have HR := hide hrow
        rw [← unhide Hpl] at HR
        gi_wp2_with fail
        refine ⟨⟨k + 1, D :: Ds, _, _, _, _, _, _, _, _, _, _, _, _, _, _, _, _, _, _, _, _, rfl, by omega, ⟨v', hv', unhide HR⟩, hB', ⟨List.nodup_cons.2 ⟨fun hm => ?_, hM'.nd⟩, fun D' hD' => ?_, fun D' hD' => ?_⟩⟩, by simp [intOf]; omega⟩
        · have := hMlt D hm
          rw [hVz] at hD
          omega
        · rcases List.mem_cons.1 hD' with rfl | h
          · rw [hVz] at hD; omega
          · exact hM'.lo D' h
        · rcases List.mem_cons.1 hD' with rfl | h
          · exact hK
          · exact hM'.at' D' h
      case stop =>
        rintro D c pre W' _ _ h _
        exact h.elim
    · obtain rfl : k = xss.length := by omega
      have hyl : (plcs xss xss.length).length ≤ 1048576 := Nat.le_trans (plcs_len xss xss.length hk) (Nat.le_trans (tot_take xss _) hT)
      have hcv := hbx.cell
      have Hown := hide hown
      have Hbx := hide hbx
      generalize hys : plcs xss xss.length = ys at *
      have Hys := hide hys.symm
      clear hys
      obtain ⟨oa, oc, rfl⟩ := own_is hown
      have hnD : Hid (∀ D ∈ Ds, some D ≠ (Value.slice oa ys.length oc).ownBlock) := fun D hD e => by
        rcases (unhide Hown).2 with ⟨e1, _⟩ | ⟨g, cap', cur, e1, _, hgb, _⟩
        · rw [e1] at e; cases e
        · rw [e1] at e
          obtain rfl : D = g := by simpa [Value.ownBlock] using e
          have := hM.at' D hD
          rw [hgb] at this
          cases this
      clear hown hc hbx
      gi_wp2_with fail
      refine ⟨trivial, ?_⟩
      refine (callsIn_wide.2 (ascending_any w.heap.size _ _ _ (unhide Hown) hB.size (by omega))).mono ?_
      rintro e w2 ⟨v2, zs, rfl, ho, hle, hown2, hb2, hg2⟩
      have hM2 : Mks w w2 Ds := ⟨hM.nd, hM.lo, fun D hD => (hg2.block D ((Array.getElem?_eq_some_iff.1 (hM.at' D hD)).1) (unhide hnD D hD)).trans (hM.at' D hD)⟩
      have Hown2 := hide hown2
      obtain ⟨pa, pc, rfl⟩ := own_is hown2
      clear hown2
      gi_wp2
      refine leaves_marks rfl _ _ 5 Ds w2 hM2.nd hM2.at' (fun W' e1 e2 e3 e4 e5 => ?_)
      have hz2 := hb2.size
      have hBB : Below w.heap.size w W' := (hB.trans hb2).trans ⟨e1, e2, e3, by rw [e4]; exact Nat.le_refl _, fun k hk => e5 k (fun D hD => by have := hM.lo D hD; omega)⟩
      refine ⟨⟨_, zs, rfl, unhide Hys ▸ ho, unhide Hys ▸ hle, ?_⟩, hBB⟩
      refine ⟨(unhide Hown2).1, ?_⟩
      rcases (unhide Hown2).2 with h | ⟨g, cap', cur, q1, q2, q3, q4⟩
      · exact Or.inl h
      · refine Or.inr ⟨g, cap', cur, q1, q2, (e5 g (fun D hD e => ?_)).trans q3, q4⟩
        have := hM2.at' D hD
        rw [← e, q3] at this
        cases this
end Go.Proofs.YtinhliecfjlocaaGreat
