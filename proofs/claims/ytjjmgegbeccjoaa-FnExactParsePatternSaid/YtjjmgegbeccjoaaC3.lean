import Derived.Test.YtjjmgegbeccjoaaB0
namespace Go.Proofs.Ytjjmgegbeccjoaa
open Go.RowKit

/-- What an element adds to the number of trees on the stack. -/
def wt (x : El) : Int := if x.kind = 0 ∨ x.kind = 1 then 1 else if x.kind = 2 ∨ x.kind = 3 then -1 else 0
def wsum : List El → Int
  | [] => 0
  | x :: r => wt x + wsum r

theorem wsum_append (a b : List El) : wsum (a ++ b) = wsum a + wsum b := by
  induction a with
  | nil => simp [wsum]
  | cons x r ih => simp [wsum, ih]; omega

theorem wt_le (x : El) : wt x ≤ 1 := by unfold wt; split <;> (try split) <;> omega
theorem wt_ge (x : El) : -1 ≤ wt x := by unfold wt; split <;> (try split) <;> omega
theorem wsum_bd (l : List El) : -(l.length : Int) ≤ wsum l ∧ wsum l ≤ l.length := by
  induction l with
  | nil => simp [wsum]
  | cons x r ih => have := wt_le x; have := wt_ge x; simp [wsum]; omega

theorem drop_getD {xs : List El} {k : Nat} (h : k < xs.length) : xs.drop k = xs[k]?.getD dE :: xs.drop (k + 1) := by
  rw [List.drop_eq_getElem_cons h]; simp [h]

theorem wsum_drop {xs : List El} {k : Nat} (h : k < xs.length) : wsum (xs.drop k) = wt (xs[k]?.getD dE) + wsum (xs.drop (k + 1)) := by
  rw [drop_getD h]; rfl

/-- Read from behind: each place but the first still wants a tree, and in the end none is wanting. -/
def Shape (xs : List El) : Prop := wsum xs = 1 ∧ ∀ k : Nat, 0 < k → k ≤ xs.length → wsum (xs.drop k) ≤ 0

end Go.Proofs.Ytjjmgegbeccjoaa
