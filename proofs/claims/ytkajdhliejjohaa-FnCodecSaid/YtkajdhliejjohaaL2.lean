import Derived.Test.YtkajdhliejjohaaP8
import Derived.Deep.RegionHeld3
import Derived.Deep.RegionWith
namespace Go.Proofs.Ytkajdhliejjohaa
open Go.RowKit

/-- The segment is one that building made. -/
def Valid (base : Int) (xss : List (List Int)) (ks : List Int) (pss : List (List Int)) : Prop := Fits base xss ∧ SegR base xss ks pss
/-- What is asked of a segment that is handed in. -/
structure SegIn (base : Int) (xss : List (List Int)) (ks : List Int) (pss : List (List Int)) : Prop where
  bytes : ∀ x ∈ xss, Bytes x
  lo : -9223372036854775808 ≤ base
  hi : base ≤ 9223372036854775807
  t1 : tot xss ≤ 1048576
  l1 : xss.length ≤ 1048576
  l2 : ks.length ≤ 1048576
  t3 : tot pss ≤ 1048576
  l3 : pss.length ≤ 1048576

end Go.Proofs.Ytkajdhliejjohaa
