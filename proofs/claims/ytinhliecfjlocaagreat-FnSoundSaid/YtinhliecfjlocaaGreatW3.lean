import Derived.Test.YtinhliecfjlocaaGreatW2
import Derived.Test.YtinhliecfjlocaaGreatPk2
import Derived.Test.YtinhliecfjlocaaGreatPk4
namespace Go.Proofs.YtinhliecfjlocaaGreat
open Go.RowKit
theorem inP_iff (xs : List Int) (k b : Nat) : InP xs k b = true ↔ ∃ j : Nat, j < k ∧ xs[2 * j]?.getD 0 ≤ (b : Int) ∧ (b : Int) ≤ xs[2 * j + 1]?.getD 0 := by
  induction k with
  | zero => simp [InP]
  | succ k ih =>
    simp only [InP, Bool.or_eq_true, decide_eq_true_eq, ih]
    constructor
    · rintro (⟨j, h1, h2⟩ | h)
      · exact ⟨j, by omega, h2⟩
      · exact ⟨k, by omega, h⟩
    · rintro ⟨j, h1, h2⟩
      by_cases e : j = k
      · subst e; exact Or.inr h2
      · exact Or.inl ⟨j, by omega, h2⟩
theorem canon_mono {xs : List Int} (h : Canon xs) (j : Nat) : ∀ d : Nat, 2 * (j + d + 1) < xs.length → xs[2 * j + 1]?.getD 0 + 2 ≤ xs[2 * (j + d + 1)]?.getD 0 := by
  intro d
  induction d with
  | zero =>
    intro hlt
    have h1 := (h.2.2 (j + 1) (by omega)).2 (by omega)
    rw [show 2 * (j + 1) - 1 = 2 * j + 1 by omega] at h1
    rw [show j + 0 + 1 = j + 1 by omega]
    omega
  | succ d ih =>
    intro hlt
    have h0 := ih (by omega)
    have h1 := (h.2.2 (j + d + 1 + 1) (by omega)).2 (by omega)
    have h2 := (h.2.2 (j + d + 1) (by omega)).1
    rw [show 2 * (j + d + 1 + 1) - 1 = 2 * (j + d + 1) + 1 by omega] at h1
    rw [show j + (d + 1) + 1 = j + d + 1 + 1 by omega]
    omega
def cut (xs : List Int) (m b : Nat) : List Int := (xs.take (2 * m)).set (2 * m - 1) (min (xs[2 * m - 1]?.getD 0) ((b : Int) - 1))
structure Cut (xs : List Int) (m b : Nat) : Prop where
  le : 2 * m ≤ xs.length
  lo : 0 < m → xs[2 * (m - 1)]?.getD 0 < (b : Int)
  nx : 2 * m < xs.length → (b : Int) ≤ xs[2 * m]?.getD 0
theorem shr_bit (a i : Nat) (ha : a < 18446744073709551616) : (bits .and .u64 ((a : Int) / 2 ^ i) 1 == 1) = a.testBit i := by
  have h1 : (a : Int) / 2 ^ i = ((a / 2 ^ i : Nat) : Int) := by rw [Int.natCast_ediv, Int.natCast_pow]; rfl
  have h2 : a / 2 ^ i < 18446744073709551616 := Nat.lt_of_le_of_lt (Nat.div_le_self _ _) ha
  rw [h1, show (1 : Int) = ((1 : Nat) : Int) from rfl, bits_and_u64_nat _ _ h2 (by omega), Nat.and_one_is_mod, Nat.testBit_eq_decide_div_mod_eq]
  by_cases e : a / 2 ^ i % 2 = 1
  · simp [e]
  · have e0 : a / 2 ^ i % 2 = 0 := by omega
    simp [e0]
end Go.Proofs.YtinhliecfjlocaaGreat
