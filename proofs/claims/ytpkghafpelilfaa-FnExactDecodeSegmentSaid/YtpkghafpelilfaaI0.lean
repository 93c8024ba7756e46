import Derived.Test.YtpkghafpelilfaaP1
import Derived.OwnWalk
import Derived.WalkKit
import Derived.Shelf.RegionOpenPlain
namespace Go.Proofs.Ytpkghafpelilfaa
open Go.RowKit

/-- The part of a slice from j on. -/
def fromW (p : Option Addr) (n c j : Nat) : Value := .slice (if c = j then p else p.map (fun x => x.add j)) (n - j) (c - j)
def cutW (p : Option Addr) (n c : Nat) (i : Int) : Value :=
  if 0 ≤ i then .tuple #[.slice p i.toNat c, fromW p n c (i.toNat + 1), .bool true] else .tuple #[.slice p n c, .slice none 0 0, .bool false]

end Go.Proofs.Ytpkghafpelilfaa
