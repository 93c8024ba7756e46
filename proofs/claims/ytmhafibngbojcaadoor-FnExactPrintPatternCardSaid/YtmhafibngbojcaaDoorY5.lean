import Derived.Test.YtmhafibngbojcaaDoorY4
import Derived.Deep.AppendLies
import Derived.Deep.RegionLaw
namespace Go.Proofs.YtmhafibngbojcaaDoor
open Go.RowKit

def partsV (U : Value) (mn mx : Int) : List Value :=
  if mx = -1 then List.replicate (mn - 1).toNat U ++ [rV U (if 1 < mn then 1 else mn) (-1)]
  else List.replicate mn.toNat U ++ List.replicate (mx - mn).toNat (aV U eV)
def repV (U : Value) (mn mx : Int) : Value := if mx = 0 then eV else jV (partsV U mn mx)

theorem own_of_below {base n m e size : Nat} {w w' : World} {v : Value} {xs : List Value} (h : w.ownsRow base e size v n xs) (hb : Below m w w') (hm : w.heap.size ≤ m) : w'.ownsRow base e size v n xs := own_keep h hb hm

theorem own_base {b b' e size n : Nat} {w : World} {v : Value} {xs : List Value} (h : w.ownsRow b e size v n xs) (hb : b = b') : w.ownsRow b' e size v n xs := hb ▸ h

end Go.Proofs.YtmhafibngbojcaaDoor
