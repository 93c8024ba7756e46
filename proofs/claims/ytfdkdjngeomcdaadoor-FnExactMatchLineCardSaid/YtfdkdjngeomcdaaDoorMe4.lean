import Derived.Test.YtfdkdjngeomcdaaDoorMe3
namespace Go.Proofs.YtfdkdjngeomcdaaDoor
open Go.RowKit

theorem EndsOf.eps {n : Nat} {F : Nat → Bool} : EndsOf n (rEps n) F F := fun j hj => ⟨fun h => ⟨j, h, rfl, hj⟩, fun ⟨_, h, e, _⟩ => e ▸ h⟩
theorem EndsOf.cat {n : Nat} {A B : Rl} {F G H : Nat → Bool} (hB : RB n B) (h : EndsOf n A F G) (k : EndsOf n B G H) : EndsOf n (rCat A B) F H := fun j hj => by
  rw [k j hj]
  constructor
  · rintro ⟨m, h1, h2⟩
    have := hB _ _ h2
    obtain ⟨i, h3, h4⟩ := (h m (by omega)).1 h1
    exact ⟨i, h3, m, h4, h2⟩
  · rintro ⟨i, h3, m, h4, h2⟩
    have := hB _ _ h2
    exact ⟨m, (h m (by omega)).2 ⟨i, h3, h4⟩, h2⟩
/-- Behind t rounds of more: what ends behind m to m + t times; fresh are those that end behind m + t times for the first time. -/
structure MoreI (n : Nat) (A : Rl) (m t : Nat) (F G H : Nat → Bool) : Prop where
  all : ∀ j, j ≤ n → (G j = true ↔ ∃ k, k ≤ t ∧ ∃ i, F i = true ∧ rPow n A (m + k) i j)
  new : ∀ j, j ≤ n → H j = true → ∃ i, F i = true ∧ rPow n A (m + t) i j
  old : ∀ i j, j ≤ n → F i = true → rPow n A (m + t) i j → H j = true ∨ ∃ k, k < t ∧ ∃ i, F i = true ∧ rPow n A (m + k) i j
theorem MoreI.start {n m : Nat} {A : Rl} {F G : Nat → Bool} (h : EndsOf n (rPow n A m) F G) : MoreI n A m 0 F G G where
  all := fun j hj => by
    rw [h j hj]
    exact ⟨fun ⟨i, h1, h2⟩ => ⟨0, Nat.le_refl _, i, h1, h2⟩, fun ⟨k, hk, i, h1, h2⟩ => ⟨i, h1, by obtain rfl : k = 0 := (by omega); exact h2⟩⟩
  new := fun j hj hg => (h j hj).1 hg
  old := fun i j hj hf hr => Or.inl ((h j hj).2 ⟨i, hf, hr⟩)
theorem MoreI.step {n m t : Nat} {A : Rl} {F G H N : Nat → Bool} (hA : RB n A) (h : MoreI n A m t F G H) (hN : EndsOf n A H N) : MoreI n A m (t + 1) F (fun j => G j || N j) (fun j => N j && !G j) where
  all := fun j hj => by
    simp only [Bool.or_eq_true]
    constructor
    · rintro (h1 | h1)
      · obtain ⟨k, hk, h2⟩ := (h.all j hj).1 h1
        exact ⟨k, by omega, h2⟩
      · obtain ⟨q, h2, h3⟩ := (hN j hj).1 h1
        have := hA _ _ h3
        obtain ⟨i, h4, h5⟩ := h.new q (by omega) h2
        exact ⟨t + 1, Nat.le_refl _, i, h4, q, h5, h3⟩
    · rintro ⟨k, hk, i, h4, h5⟩
      by_cases e : k ≤ t
      · exact Or.inl ((h.all j hj).2 ⟨k, e, i, h4, h5⟩)
      · obtain rfl : k = t + 1 := by omega
        obtain ⟨q, h6, h7⟩ := (show rCat (rPow n A (m + t)) A i j from h5)
        have := hA _ _ h7
        rcases h.old i q (by omega) h4 h6 with h8 | ⟨k, hk, i', h8, h9⟩
        · exact Or.inr ((hN j hj).2 ⟨q, h8, h7⟩)
        · exact Or.inl ((h.all j hj).2 ⟨k + 1, by omega, i', h8, q, h9, h7⟩)
  new := fun j hj hg => by
    simp only [Bool.and_eq_true] at hg
    obtain ⟨q, h2, h3⟩ := (hN j hj).1 hg.1
    have := hA _ _ h3
    obtain ⟨i, h4, h5⟩ := h.new q (by omega) h2
    exact ⟨i, h4, q, h5, h3⟩
  old := fun i j hj hf hr => by
    simp only [Bool.and_eq_true, Bool.not_eq_true']
    obtain ⟨q, h6, h7⟩ := (show rCat (rPow n A (m + t)) A i j from hr)
    have := hA _ _ h7
    by_cases e : G j = true
    · obtain ⟨k, hk, h2⟩ := (h.all j hj).1 e
      exact Or.inr ⟨k, by omega, h2⟩
    · rw [Bool.not_eq_true] at e
      left
      refine ⟨?_, e⟩
      rcases h.old i q (by omega) hf h6 with h8 | ⟨k, hk, i', h8, h9⟩
      · exact (hN j hj).2 ⟨q, h8, h7⟩
      · have : G j = true := (h.all j hj).2 ⟨k + 1, by omega, i', h8, q, h9, h7⟩
        rw [e] at this; cases this
/-- Nothing is fresh: that was all. -/
theorem MoreI.stop {n m t : Nat} {A : Rl} {F G H : Nat → Bool} (hA : RB n A) (h : MoreI n A m t F G H) (hno : ∀ j, j ≤ n → H j = false) : ∀ d i j, F i = true → rPow n A (m + d) i j → ∃ k, k ≤ t ∧ ∃ i, F i = true ∧ rPow n A (m + k) i j := by
  intro d
  induction d with
  | zero => intro i j hf hr; exact ⟨0, Nat.zero_le _, i, hf, hr⟩
  | succ d ih =>
    intro i j hf hr
    obtain ⟨q, h6, h7⟩ := (show rCat (rPow n A (m + d)) A i j from hr)
    have hq := hA _ _ h7
    obtain ⟨k, hk, i', h8, h9⟩ := ih i q hf h6
    by_cases e : k < t
    · exact ⟨k + 1, by omega, i', h8, q, h9, h7⟩
    · obtain rfl : k = t := by omega
      rcases h.old i' q (by omega) h8 h9 with h10 | ⟨k', hk', i'', h11, h12⟩
      · rw [hno q (by omega)] at h10; cases h10
      · exact ⟨k' + 1, by omega, i'', h11, q, h12, h7⟩
/-- What has ended, in the words of the repetition. -/
theorem MoreI.ends {n m t : Nat} {A : Rl} {F G H : Nat → Bool} {mx : Int} (hA : RB n A) (h : MoreI n A m t F G H) (hin : mx = -1 ∨ ((m + t : Nat) : Int) ≤ mx)
    (hend : (∀ j, j ≤ n → H j = false) ∨ (mx ≠ -1 ∧ ((m + t : Nat) : Int) = mx)) : EndsOf n (rRep n A m mx) F G := fun j hj => by
  rw [h.all j hj]
  constructor
  · rintro ⟨k, hk, i, h1, h2⟩
    exact ⟨i, h1, m + k, by omega, by omega, h2⟩
  · rintro ⟨i, h1, k, h2, h3, h4⟩
    obtain ⟨d, rfl⟩ : ∃ d, k = m + d := ⟨k - m, by omega⟩
    rcases hend with hno | ⟨e1, e2⟩
    · exact h.stop hA hno d i j h1 h4
    · exact ⟨d, by omega, i, h1, h4⟩
/-- How many marks are unset. -/
def unset (G : Nat → Bool) : Nat → Nat
  | 0 => 0
  | k + 1 => unset G k + (if G k then 0 else 1)
theorem unset_le {G N : Nat → Bool} : ∀ k, unset (fun j => G j || N j) k ≤ unset G k
  | 0 => Nat.le_refl _
  | k + 1 => by
    have := unset_le (G := G) (N := N) k
    simp only [unset]
    rcases Bool.eq_false_or_eq_true (G k) with hg | hg <;> rcases Bool.eq_false_or_eq_true (N k) with hn | hn <;> simp only [hg, hn] <;> simp <;> omega
theorem unset_lt {G N : Nat → Bool} : ∀ {k j : Nat}, j < k → N j = true → G j = false → unset (fun j => G j || N j) k < unset G k
  | 0, j, h, _, _ => absurd h (Nat.not_lt_zero _)
  | k + 1, j, h, h1, h2 => by
    simp only [unset]
    by_cases e : j = k
    · subst e
      have := unset_le (G := G) (N := N) j
      simp only [h1, h2]; simp; omega
    · have := unset_lt (G := G) (N := N) (k := k) (j := j) (by omega) h1 h2
      rcases Bool.eq_false_or_eq_true (G k) with hg | hg <;> rcases Bool.eq_false_or_eq_true (N k) with hn | hn <;> simp only [hg, hn] <;> simp <;> omega

end Go.Proofs.YtfdkdjngeomcdaaDoor
