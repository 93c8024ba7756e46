import Derived.Test.YthgnefdefjannaaGreatP10
import Derived.Test.YthgnefdefjannaaGreatP6
import Derived.Test.YthgnefdefjannaaGreatP12
namespace Go.Proofs.YthgnefdefjannaaGreat
open Go.RowKit

theorem Row4.mv {w w' : World} {b lo D : Nat} {t : TypeId} {c0 c1 c2 c3 : Value} (h : Row4 w b t c0 c1 c2 c3) (hb : Mv lo D w w') (hm : b < lo) (hD : b ≠ D) : Row4 w' b t c0 c1 c2 c3 := World.rowIs.of_block h (hb.block b hm hD)
/-- The base of a code. -/
def dBs (y : Int) : Int := if y % 3 = 0 then 0 else y
/-- Lines, base and the rest. -/
def dSg (xs : List Int) : List (List Int) × Int × List Int := ((dLs (1 + xs.headD 0 % 12).toNat xs.tail).1, dBs ((dLs (1 + xs.headD 0 % 12).toNat xs.tail).2.headD 0), (dLs (1 + xs.headD 0 % 12).toNat xs.tail).2.tail)
theorem dSg_ok (xs : List Int) (h : Cod xs) : (dSg xs).1.length ≤ 12 ∧ tot (dSg xs).1 ≤ 240 ∧ (∀ l ∈ (dSg xs).1, Cod l) ∧ (0 ≤ (dSg xs).2.1 ∧ (dSg xs).2.1 ≤ 255) ∧ Cod (dSg xs).2.2 := by
  have h1 := dLs_ok (1 + xs.headD 0 % 12).toNat xs.tail h.tail
  have h2 := h1.2.2.2.head
  have h3 := h.head
  refine ⟨?_, ?_, h1.2.2.1, ?_, h1.2.2.2.tail⟩
  · show (dLs (1 + xs.headD 0 % 12).toNat xs.tail).1.length ≤ 12
    omega
  · show tot (dLs (1 + xs.headD 0 % 12).toNat xs.tail).1 ≤ 240
    omega
  · show 0 ≤ dBs _ ∧ dBs _ ≤ 255
    unfold dBs
    split <;> omega

end Go.Proofs.YthgnefdefjannaaGreat
