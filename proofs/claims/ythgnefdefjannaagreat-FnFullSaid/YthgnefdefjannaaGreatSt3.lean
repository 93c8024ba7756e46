import Derived.Test.YthgnefdefjannaaGreatSt2
import Derived.Test.YthgnefdefjannaaGreatP12
namespace Go.Proofs.YthgnefdefjannaaGreat
open Go.RowKit

theorem bput2 {m b : Nat} {w w' : World} (h : Below m w w') (hb : m ≤ b) (d0 d1 : Value) : Below m w ((w'.setCell ⟨b, 0, none⟩ d0).setCell ⟨b, 1, none⟩ d1) := bput (bput h hb _) hb _
theorem StF.mk2 {w1 w3 : World} {lo : Nat} {v1 v2 : Value} {bss oss : List (List Int)} (h1 : SsF mB 0 (Rng lo w1.heap.size) w3 v1 bss) (h2 : SsF mB 0 (Rng w1.heap.size w3.heap.size) w3 v2 oss) (z1 : w1.heap.size ≤ w3.heap.size) (z0 : lo ≤ w1.heap.size) : StF lo w3.heap.size w3 (.agg #[v1, v2]) bss oss := by
  refine ⟨v1, v2, _, _, rfl, h1, h2, fun k hk => ?_, fun k hk h => ?_⟩ <;> unfold Rng at * <;> omega

end Go.Proofs.YthgnefdefjannaaGreat
