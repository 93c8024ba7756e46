import Derived.Test.YtpkghafpelilfaaI3
import Derived.Test.YtpkghafpelilfaaU0
import Derived.Deep.RegionWith
namespace Go.Proofs.Ytpkghafpelilfaa
open Go.RowKit

theorem LB.footR {base : Nat} {w : World} {v : Value} {ps : List (Cl Int)} (h : LB base w v ps) : SsF mB 0 (Rng base w.heap.size) w v (ps.map Cl.xs) := by
  refine h.foot (by decide) ?_
  have h1 := own_cap h.own
  obtain ⟨a, c, rfl⟩ := own_is h.own
  have := h1.le
  omega

end Go.Proofs.Ytpkghafpelilfaa
