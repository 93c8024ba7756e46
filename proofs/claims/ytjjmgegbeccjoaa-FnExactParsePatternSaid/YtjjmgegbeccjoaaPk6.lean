import Derived.Test.YtjjmgegbeccjoaaB0
import Derived.Deep.QuietTactic
import Derived.BigQuiet
import Derived.WalkSmall
namespace Go.Proofs.Ytjjmgegbeccjoaa
open Go.RowKit

/-- A set of bytes as a canonical list of ranges. -/
def PairOk (xs : List Int) (i : Nat) : Prop := xs[i]?.getD 0 ≤ xs[i + 1]?.getD 0 ∧ (0 < i → 2 ≤ xs[i]?.getD 0 - xs[i - 1]?.getD 0)
def Canon (xs : List Int) : Prop :=
  xs.length % 2 = 0 ∧ (∀ i : Nat, i < xs.length → 0 ≤ xs[i]?.getD 0 ∧ xs[i]?.getD 0 ≤ 255) ∧ ∀ m : Nat, 2 * m < xs.length → PairOk xs (2 * m)


/-- An element that a valid tree may hold. -/
def ElOk (x : El) : Prop :=
  (x.kind = 1 ∧ Canon x.set ∧ x.mn = 0 ∧ x.mx = 0) ∨ ((x.kind = 0 ∨ x.kind = 2 ∨ x.kind = 3) ∧ x.set.length = 0 ∧ x.mn = 0 ∧ x.mx = 0) ∨
  (x.kind = 4 ∧ x.set.length = 0 ∧ 0 ≤ x.mn ∧ x.mn ≤ 250 ∧ (x.mx = -1 ∨ (x.mn ≤ x.mx ∧ x.mx ≤ 250)))

end Go.Proofs.Ytjjmgegbeccjoaa
