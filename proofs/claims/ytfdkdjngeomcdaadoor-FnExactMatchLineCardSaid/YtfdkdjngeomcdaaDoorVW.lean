import Derived.Test.YtfdkdjngeomcdaaDoorP18
import Derived.Test.YtfdkdjngeomcdaaDoorC6
namespace Go.Proofs.YtfdkdjngeomcdaaDoor
open Go.RowKit

/-- Words for a set that is told by its bytes. -/
def wof (p : Nat → Bool) : Nat → Nat → Nat
  | 0 => fun _ => 0
  | n + 1 => if p n then (fun j => if j = n / 64 then wof p n (n / 64) ||| 2 ^ (n % 64) else wof p n j) else wof p n
theorem wof_fit (p : Nat → Bool) : ∀ n : Nat, Fit (wof p n)
  | 0 => fun j => by show 0 < 18446744073709551616; omega
  | n + 1 => fun j => by
    simp only [wof]
    split
    · by_cases e : j = n / 64
      · simp only [e, if_true]; exact or_lt _ _ (wof_fit p n _) (by omega)
      · simp only [e, if_false]; exact wof_fit p n j
    · exact wof_fit p n j
theorem wof_bt (p : Nat → Bool) (b : Nat) : ∀ n : Nat, Bt (wof p n) b = (decide (b < n) && p b)
  | 0 => by simp [wof, Bt]
  | n + 1 => by
    have ih := wof_bt p b n
    by_cases hp : p n = true
    · have e : wof p (n + 1) = (fun j => if j = n / 64 then wof p n (n / 64) ||| 2 ^ (n % 64) else wof p n j) := by simp [wof, hp]
      rw [e, bt_put, ih]
      by_cases e2 : b = n
      · subst e2; simp [hp]
      · have : b < n + 1 ↔ b < n := by omega
        simp [e2, this]
    · have e : wof p (n + 1) = wof p n := by simp [wof, hp]
      rw [e, ih]
      by_cases e2 : b = n
      · subst e2; simp [hp]
      · have : b < n + 1 ↔ b < n := by omega
        simp [this]
theorem words_ex {xs : List Int} (h : Canon xs) : ∃ g, WordsOf xs g := by
  refine ⟨wof (InP xs (xs.length / 2)) 256, wof_fit _ _, fun b => ?_⟩
  rw [wof_bt]
  by_cases hb : b < 256
  · simp [hb]
  · have : InP xs (xs.length / 2) b = false := by
      rw [Bool.eq_false_iff]
      intro q
      obtain ⟨j, h1, h2, h3⟩ := (inP_iff _ _ _).1 q
      have := (h.2.1 (2 * j + 1) (by omega)).2
      omega
    rw [this]; simp

end Go.Proofs.YtfdkdjngeomcdaaDoor
