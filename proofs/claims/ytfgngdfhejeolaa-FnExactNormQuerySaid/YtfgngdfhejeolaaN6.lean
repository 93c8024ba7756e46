import Derived.Test.YtfgngdfhejeolaaN5
import Derived.Test.YtfgngdfhejeolaaQ1
namespace Go.Proofs.Ytfgngdfhejeolaa
open Go.RowKit

/-- A row of its own of lists that lie somewhere. -/
structure LR (base : Nat) (w : World) (v : Value) (ps : List (Cl Int)) : Prop where
  own : w.ownsRow base 23 1 v ps.length (ps.map Cl.v)
  ok : ∀ p ∈ ps, p.ok mI 0 3 w
theorem LR.nil {base : Nat} {w : World} : LR base w (.slice none 0 0) [] := ⟨World.ownsRow_nil _ _ _ _, by simp⟩
theorem LL.lr {base : Nat} {w : World} {v : Value} {ps : List (Cl Int)} (h : LL mI 0 3 23 base w v ps) : LR base w v ps := ⟨h.own, h.ok⟩
theorem LR.keep {base m : Nat} {w w' : World} {v : Value} {ps : List (Cl Int)} (h : LR base w v ps) (hb : Below m w w') (hm : w.heap.size ≤ m) : LR base w' v ps := ⟨own_keep h.own hb hm, fun p hp => (h.ok p hp).below hb hm⟩
theorem ok_not_row {base : Nat} {w : World} {v : Value} {n : Nat} {vs : List Value} (h : w.ownsRow base 23 1 v n vs) {q : Cl Int} (hq : q.ok mI 0 3 w) (hp : 0 < q.xs.length) : some q.b ≠ v.ownBlock := by
  intro e1
  obtain ⟨a, cap, -, -, hc⟩ := hq
  obtain ⟨off, -, ⟨c, h1⟩, -⟩ := hc hp
  rcases h.2 with ⟨rfl, _⟩ | ⟨g, cap', cur, rfl, _, hgb, _⟩
  · simp [Value.ownBlock] at e1
  · obtain rfl : q.b = g := by simpa [Value.ownBlock] using e1
    rw [h1] at hgb
    simp at hgb
/-- What lies, lies on behind an append to a row of lists. -/
theorem ok_app {base : Nat} {w W w' : World} {v : Value} {n : Nat} {vs : List Value} {o : Obj} (h : w.ownsRow base 23 1 v n vs) (hP : Pushd w W o) (hg : W.grownBy w' v.ownBlock) {q : Cl Int} (hq : q.ok mI 0 3 w) : q.ok mI 0 3 w' :=
  hq.same (fun hq0 => by
    have hlt := hq.lt hq0
    rw [hg.block q.b (by rw [hP.size]; omega) (ok_not_row h hq hq0), hP.old hlt])
theorem LR.app {base : Nat} {w W w' : World} {v v' : Value} {ps : List (Cl Int)} {p : Cl Int} {o : Obj} (h : LR base w v ps) (hbase : base ≤ w.heap.size) (hp : p.ok mI 0 3 w)
    (hP : Pushd w W o) (h1 : w'.ownsRow base 23 1 v' (ps.length + 1) (ps.map Cl.v ++ [p.v])) (hg : W.grownBy w' v.ownBlock) : LR base w' v' (ps ++ [p]) ∧ Below base w w' := by
  refine ⟨⟨by rw [List.length_append, List.map_append]; exact h1, fun q hq => ?_⟩, (hP.below.mono hbase).grown hg (by rw [hP.size]; omega) (fun k hk => (h.own.lt k hk).1)⟩
  rcases List.mem_append.1 hq with hq | hq
  · exact ok_app h.own hP hg (h.ok q hq)
  · rw [List.mem_singleton] at hq
    subst hq
    exact ok_app h.own hP hg hp
theorem LR.at {base : Nat} {w : World} {v : Value} {ps : List (Cl Int)} (h : LR base w v ps) : SsAt mI 0 w.heap.size w v (ps.map Cl.xs) := by
  rcases h.own.2 with ⟨rfl, hz⟩ | ⟨g, cap, cur, rfl, hbg, hg, hnc, hcm, hcs, htake⟩
  · have : ps = [] := List.eq_nil_of_length_eq_zero hz
    subst this
    exact ⟨none, 0, rfl, ⟨Nat.le_refl _, Nat.zero_le _⟩, fun h => absurd h (by simp)⟩
  · have hgl : g < w.heap.size := (h.own.lt g rfl).2
    refine ⟨some ⟨g, 0, none⟩, cap, by rw [List.length_map], ⟨by rw [List.length_map]; exact hnc, hcm⟩, fun _ => ⟨g, 0, rfl, hgl, fun i hi => ?_⟩⟩
    rw [List.length_map] at hi
    have hm : ps[i] ∈ ps := List.getElem_mem hi
    refine ⟨(ps[i]).v, ?_, ?_, (h.ok _ hm).cap⟩
    · rw [Nat.zero_add, h.own.cellAt i (by omega), List.getElem?_map, List.getElem?_eq_getElem hi]
      rfl
    · rw [List.getElem?_map, List.getElem?_eq_getElem hi]
      exact (h.ok _ hm).at
theorem LL.of_sub {base' : Nat} {w : World} {v : Value} {ps qs : List (Cl Int)} (h : LR base' w v ps) (hs : ps.Sublist qs) (hl : ∀ p ∈ qs, 0 < p.xs.length → base' ≤ p.b) (ha : ApartC qs) : LL mI 0 3 23 base' w v ps :=
  ⟨h.own, h.ok, fun p hp => hl p (hs.subset hp), List.Pairwise.sublist hs ha⟩

/-- No other list has all its numbers in c. -/
def mn (cs : List (List Int)) (c : List Int) : Bool := cs.all (fun d => decide (d = c) || !(d.all (fun z => decide (z ∈ c))))
theorem mn_iff {cs : List (List Int)} {c : List Int} : mn cs c = true ↔ ∀ d, d ∈ cs → d ≠ c → ¬ ∀ z, z ∈ d → z ∈ c := by
  unfold mn
  simp only [List.all_eq_true, Bool.or_eq_true, decide_eq_true_eq, Bool.not_eq_true']
  constructor
  · intro h d hd hne hall
    rcases h d hd with e | e
    · exact hne e
    · rw [List.all_eq_false] at e
      obtain ⟨z, hz, hn⟩ := e
      exact hn (by simpa using hall z hz)
  · intro h d hd
    by_cases e : d = c
    · exact Or.inl e
    · refine Or.inr ?_
      rw [List.all_eq_false]
      have := h d hd e
      by_cases ex : ∃ z, z ∈ d ∧ z ∉ c
      · obtain ⟨z, hz, hn⟩ := ex
        exact ⟨z, hz, by simpa using hn⟩
      · exact absurd (fun z hz => by
          by_cases hc : z ∈ c
          · exact hc
          · exact absurd ⟨z, hz, hc⟩ ex) this

structure NormV (xss rs : List (List Int)) : Prop where
  ex : ∃ cs, LAsc cs ∧ (∀ z, z ∈ cs ↔ ∃ xs, xs ∈ xss ∧ Ord xs z) ∧ rs = cs.filter (mn cs)
theorem NormV.uniq {xss rs rs' : List (List Int)} (h : NormV xss rs) (k : NormV xss rs') : rs = rs' := by
  obtain ⟨cs, h1, h2, rfl⟩ := h.ex
  obtain ⟨ds, k1, k2, rfl⟩ := k.ex
  rw [lasc_uniq h1 k1 (fun z => (h2 z).trans (k2 z).symm)]

/-- What stands in order, of lists each of which is put into order. -/
structure Each (xss : List (List Int)) (ps : List (Cl Int)) : Prop where
  len : ps.length = xss.length
  ord : ∀ i : Nat, i < ps.length → Ord (xss[i]?.getD []) (ps[i]?.getD dC).xs
  tot : tot (ps.map Cl.xs) ≤ tot xss
theorem tot_app {α : Type} (xs : List (List α)) (x : List α) : tot (xs ++ [x]) = tot xs + x.length := by
  induction xs with
  | nil => simp [Go.Proofs.Ytfgngdfhejeolaa.tot]
  | cons y ys ih => simp only [List.cons_append, Go.Proofs.Ytfgngdfhejeolaa.tot, ih]; omega
theorem Each.nil : Each [] [] := ⟨rfl, fun i h => by simp at h, by simp [Go.Proofs.Ytfgngdfhejeolaa.tot]⟩
theorem Each.next {xss : List (List Int)} {n : Nat} {ps : List (Cl Int)} {p : Cl Int} (h : Each (xss.take n) ps) (hn : n < xss.length) (ho : Ord (xss[n]?.getD []) p.xs) (hl : p.xs.length ≤ (xss[n]?.getD []).length) : Each (xss.take (n + 1)) (ps ++ [p]) := by
  have hlen := h.len
  simp only [List.length_take] at hlen
  refine ⟨by simp; omega, fun i hi => ?_, ?_⟩
  · rw [List.length_append, List.length_singleton] at hi
    by_cases e : i = n
    · subst e
      have e1 : (xss.take (i + 1))[i]?.getD [] = xss[i]?.getD [] := by rw [List.getElem?_take, if_pos (by omega)]
      have e2 : (ps ++ [p])[i]?.getD dC = p := by rw [List.getElem?_append_right (by omega), show i - ps.length = 0 by omega]; rfl
      rw [e1, e2]
      exact ho
    · have := h.ord i (by omega)
      rw [List.getElem?_take, if_pos (by omega)] at this
      rw [List.getElem?_take, if_pos (by omega), List.getElem?_append_left (by omega)]
      exact this
  · have h1 := h.tot
    rw [List.map_append, List.map_singleton, tot_app, tot_step xss n hn]
    omega
theorem Each.mem {xss : List (List Int)} {ps : List (Cl Int)} (h : Each xss ps) (z : List Int) : z ∈ ps.map Cl.xs ↔ ∃ xs, xs ∈ xss ∧ Ord xs z := by
  constructor
  · intro hz
    obtain ⟨i, hi, e⟩ := List.mem_iff_getElem.1 hz
    simp only [List.length_map] at hi
    have := h.ord i hi
    have hl := h.len
    have e1 : (ps[i]?.getD dC).xs = z := by rw [← e]; simp [hi]
    rw [e1] at this
    exact ⟨_, by rw [List.getElem?_eq_getElem (by omega)]; exact List.getElem_mem _, this⟩
  · rintro ⟨xs, hx, ho⟩
    obtain ⟨i, hi, e⟩ := List.mem_iff_getElem.1 hx
    have hl := h.len
    have h1 := h.ord i (by omega)
    have e1 : xss[i]?.getD [] = xs := by rw [← e]; simp [hi]
    rw [e1] at h1
    rw [ho.uniq h1, List.getElem?_eq_getElem (by omega)]
    exact List.mem_map_of_mem (List.getElem_mem _)

end Go.Proofs.Ytfgngdfhejeolaa
