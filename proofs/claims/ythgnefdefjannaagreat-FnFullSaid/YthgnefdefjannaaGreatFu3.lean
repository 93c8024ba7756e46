import Derived.Test.YthgnefdefjannaaGreatP11
import Derived.Test.YthgnefdefjannaaGreatSt4
namespace Go.Proofs.YthgnefdefjannaaGreat
open Go.RowKit

/-- The lines that are drawn next. -/
def dM (xs : List Int) : List (List Int) × List Int := dLs (1 + xs.headD 0 % 5).toNat xs.tail
theorem dM_ok (xs : List Int) (h : Cod xs) : ((dM xs).1.length ≤ 5 ∧ 1 ≤ (dM xs).1.length) ∧ tot (dM xs).1 ≤ 100 ∧ (∀ l ∈ (dM xs).1, Cod l) ∧ Cod (dM xs).2 := by
  have hh := h.head
  obtain ⟨h1, h2, h3, h4⟩ := dLs_ok (1 + xs.headD 0 % 5).toNat xs.tail h.tail
  unfold dM
  exact ⟨by omega, by omega, h3, h4⟩
/-- What l5drawState draws: the segments (beginning and lines), the open lines, what is left of the code. -/
def dG : Nat → Nat → List Int → List (Nat × List (List Int)) × List (List Int) × List Int
  | 0, _, xs => ([], [], xs)
  | n + 1, nl, xs => if (dM xs).2.headD 0 % 4 = 0 then ([], (dM xs).1, (dM xs).2.tail) else ((nl, (dM xs).1) :: (dG n (nl + (dM xs).1.length) (dM xs).2.tail).1, (dG n (nl + (dM xs).1.length) (dM xs).2.tail).2)
theorem dG_ok : ∀ (n nl : Nat) (xs : List Int), Cod xs → (dG n nl xs).1.length ≤ n ∧ (∀ g ∈ (dG n nl xs).1, nl ≤ g.1 ∧ g.1 + g.2.length ≤ nl + 5 * n ∧ 1 ≤ g.2.length ∧ tot g.2 ≤ 100 ∧ ∀ l ∈ g.2, Cod l) ∧ ((dG n nl xs).2.1.length ≤ 5 ∧ tot (dG n nl xs).2.1 ≤ 100 ∧ ∀ l ∈ (dG n nl xs).2.1, Cod l) ∧ Cod (dG n nl xs).2.2
  | 0, nl, xs, h => ⟨Nat.le_refl _, fun g hg => by simp [dG] at hg, ⟨by simp [dG], by simp [dG, Go.Proofs.YthgnefdefjannaaGreat.tot], fun l hl => by simp [dG] at hl⟩, h⟩
  | n + 1, nl, xs, h => by
    obtain ⟨h1, h2, h3, h4⟩ := dM_ok xs h
    obtain ⟨k1, k2, k3, k4⟩ := dG_ok n (nl + (dM xs).1.length) (dM xs).2.tail h4.tail
    rw [dG]
    split
    · exact ⟨by simp, fun g hg => by simp at hg, ⟨h1.1, h2, h3⟩, h4.tail⟩
    · refine ⟨by simp only [List.length_cons]; omega, fun g hg => ?_, k3, k4⟩
      rcases List.mem_cons.1 hg with rfl | hg
      · exact ⟨Nat.le_refl _, by show nl + (dM xs).1.length ≤ _; omega, h1.2, h2, h3⟩
      · obtain ⟨q1, q2, q3⟩ := k2 g hg
        exact ⟨by omega, by omega, q3⟩

/-- A row of segments, while another row of one's own grows. -/
theorem SgRow.beside {base : Nat} {w w' : World} {v lv : Value} {ss : List Sv} (h : SgRow base w v ss) (hg : w.grownBy w' lv.ownBlock) (h1 : ∀ q, lv.ownBlock = some q → v.ownBlock ≠ some q) (h2 : ∀ q, lv.ownBlock = some q → ∀ s ∈ ss, q < s.l ∨ s.h ≤ q) : SgRow base w' v ss := by
  have hz := hg.size
  refine ⟨⟨h.own.1, ?_⟩, fun s hs => (h.seg s hs).same (fun k k1 k2 => hg.block k (by have := (h.blk s hs).2.1; omega) (fun e => ?_)), fun s hs => ⟨(h.blk s hs).1, by have := (h.blk s hs).2.1; omega, (h.blk s hs).2.2⟩⟩
  · rcases h.own.2 with h3 | ⟨g, cap, cur, e1, e2, e3, e4⟩
    · exact Or.inl h3
    · refine Or.inr ⟨g, cap, cur, e1, e2, (hg.block g (Array.getElem?_eq_some_iff.1 e3).1 (fun e => h1 g e.symm ?_)).trans e3, e4⟩
      rw [e1]
      rfl
  · have := h2 k e.symm s hs
    omega
/-- Lists of one's own, while a row of segments grows. -/
theorem LB.besideSg {base base' : Nat} {w w' : World} {v sv : Value} {ps : List (Cl Int)} {ss : List Sv} (h : LB base w v ps) (hs : SgRow base' w sv ss) (hg : w.grownBy w' sv.ownBlock) : LB base w' v ps := by
  have hT : ∀ q, sv.ownBlock = some q → ∃ cs, w.heap[q]? = some (.cells cs 59 (0, 0)) := fun q hq => by
    rcases hs.own.2 with ⟨rfl, -⟩ | ⟨g, cap, cur, rfl, -, hgc, -⟩
    · simp [Value.ownBlock] at hq
    · simp only [Value.ownBlock, Option.some.injEq] at hq
      subst hq
      exact ⟨cur, hgc⟩
  refine ⟨⟨h.own.1, ?_⟩, fun p hp => (h.ok p hp).same (fun h0 => hg.block _ ((h.ok p hp).lt h0) (fun e => ?_)), h.lo, h.apart⟩
  · rcases h.own.2 with h3 | ⟨g, cap, cur, e1, e2, e3, e4⟩
    · exact Or.inl h3
    · refine Or.inr ⟨g, cap, cur, e1, e2, (hg.block g (Array.getElem?_eq_some_iff.1 e3).1 (fun e => ?_)).trans e3, e4⟩
      obtain ⟨cs, hc⟩ := hT g e.symm
      rw [hc] at e3
      simp at e3
  · obtain ⟨cs, hc⟩ := hT _ e.symm
    obtain ⟨a, cap, -, -, hcc⟩ := h.ok p hp
    obtain ⟨off, -, ⟨c, hc2⟩, -⟩ := hcc h0
    rw [hc] at hc2
    simp at hc2

end Go.Proofs.YthgnefdefjannaaGreat
