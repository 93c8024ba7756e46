import Derived.Test.YtfdkdjngeomcdaaDoorWk5
import Derived.Test.YtfdkdjngeomcdaaDoorMl3
import Derived.Test.YtfdkdjngeomcdaaDoorPk9
namespace Go.Proofs.YtfdkdjngeomcdaaDoor
open Go.RowKit

/-- A set's words and its list hold the same bytes. -/
theorem words_in {xs : List Int} {g : Nat → Nat} (h : WordsOf xs g) (b : Nat) : Bt g b = true ↔ inPs xs (b : Int) := by
  rw [h.2 b, inP_iff]
  unfold inPs
  constructor
  · rintro ⟨i, h1, h2⟩; exact ⟨i, by omega, h2⟩
  · rintro ⟨i, h1, h2⟩; exact ⟨i, by omega, h2⟩
set_option maxRecDepth 100000 in
/-- The pending sets of the program are the pending positions. -/
theorem stP_is {fs hs : Nat → Nat → Nat} {nl : Bool} {f l : Nat → Nat} {C : Nat → Nat} {S M : Nat → Nat → Prop} {a : It} {N : Nat} (hN : N ≤ 512) (hf : Fit f) (hfs : ∀ i, Fit (fs i)) (h0 : nl = a.nl) (h1 : ∀ i, Bt f i = true ↔ i ∈ a.fi) (h2 : ∀ i, Bt l i = true ↔ i ∈ a.la) (h3 : ∀ i j, Bt (fs i) j = true ↔ M i j)
    (n : Nat) (h4 : ∀ k, k < n → ∀ i, Bt (hs (C k)) i = true ↔ (i < N ∧ S i k)) (hfi : ∀ i ∈ a.fi, i < N) (hM : ∀ i j, M i j → j < N) : ∀ k, k ≤ n → (∀ j, Bt (stP fs hs nl f l C k).1 j = true ↔ Pnd S M a.fi k j) ∧ (∀ j, Pnd S M a.fi k j → j < N) ∧ ((stP fs hs nl f l C k).2 = true ↔ PEnd S M a k) := by
  intro k
  induction k with
  | zero => intro _; exact ⟨h1, hfi, by show nl = true ↔ a.nl = true; rw [h0]⟩
  | succ k ih =>
    intro hk
    obtain ⟨i1, i2, -⟩ := ih (by omega)
    have hR : ∀ i, Bt (andW (stP fs hs nl f l C k).1 (hs (C k))) i = true ↔ (Pnd S M a.fi k i ∧ S i k) := fun i => by
      rw [bt_and, Bool.and_eq_true, i1, h4 k (by omega)]
      exact ⟨fun q => ⟨q.1, q.2.2⟩, fun q => ⟨q.1, i2 i q.1, q.2⟩⟩
    refine ⟨fun j => ?_, fun j => ?_, ?_⟩
    · show Bt (orL fs (blN (andW (stP fs hs nl f l C k).1 (hs (C k))) 512)) j = true ↔ ∃ p, Pnd S M a.fi k p ∧ S p k ∧ M p j
      rw [bt_orL]
      constructor
      · rintro ⟨p, h5, h6⟩
        unfold blN at h5
        have h7 := (hR p).1 (List.mem_filter.1 h5).2
        exact ⟨p, h7.1, h7.2, (h3 p j).1 h6⟩
      · rintro ⟨p, h5, h6, h7⟩
        refine ⟨p, ?_, (h3 p j).2 h7⟩
        unfold blN
        exact List.mem_filter.2 ⟨List.mem_range.2 (by have := i2 p h5; omega), (hR p).2 ⟨h5, h6⟩⟩
    · rintro ⟨p, -, -, h5⟩; exact hM _ _ h5
    · show (!(eq8 (andW (andW (stP fs hs nl f l C k).1 (hs (C k))) l))) = true ↔ ∃ p, Pnd S M a.fi k p ∧ S p k ∧ p ∈ a.la
      rw [eq8_none (fit_and (fit_and (fit_stP hf hfs k)))]
      constructor
      · rintro ⟨p, -, h5⟩
        rw [bt_and, Bool.and_eq_true, hR, h2] at h5
        exact ⟨p, h5.1.1, h5.1.2, h5.2⟩
      · rintro ⟨p, h5, h6, h7⟩
        exact ⟨p, by have := i2 p h5; omega, by rw [bt_and, Bool.and_eq_true, hR, h2]; exact ⟨⟨h5, h6⟩, h7⟩⟩

end Go.Proofs.YtfdkdjngeomcdaaDoor
