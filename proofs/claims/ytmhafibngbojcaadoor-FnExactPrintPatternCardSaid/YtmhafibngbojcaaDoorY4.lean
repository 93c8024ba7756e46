import Derived.Test.YtmhafibngbojcaaDoorP9
import Derived.Test.YtmhafibngbojcaaDoorP5
import Derived.Test.YtmhafibngbojcaaDoorE3
import Derived.Test.YtmhafibngbojcaaDoorX6
namespace Go.Proofs.YtmhafibngbojcaaDoor
open Go.RowKit

/-- The nodes joined by cat, leftmost first. -/
def jV : List Value → Value
  | [] => undef
  | p :: r => r.foldl cV p
theorem foldV (r : List Value) : ∀ p : Value, (∃ T x, p = .iface T x) → ∃ T x, r.foldl cV p = .iface T x := by
  induction r with
  | nil => intro p h; exact h
  | cons q r ih => intro p _; exact ih (cV p q) ⟨_, _, rfl⟩
theorem foldV_next (r : List Value) (p : Value) (j : Nat) (h : j < r.length) : (r.take (j + 1)).foldl cV p = cV ((r.take j).foldl cV p) r[j] := by
  rw [List.take_succ_eq_append_getElem h, List.foldl_append]; rfl

end Go.Proofs.YtmhafibngbojcaaDoor
