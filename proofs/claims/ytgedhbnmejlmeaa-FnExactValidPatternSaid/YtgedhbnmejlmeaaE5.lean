import Derived.Test.YtgedhbnmejlmeaaE4
namespace Go.Proofs.Ytgedhbnmejlmeaa
open Go.RowKit

set_option maxHeartbeats 400000 in
theorem implValid_any (l r : Bool) (v : Value) (xs : List El) (w : World) (hv : ElsAt 0 w.heap.size w v xs) :
    Calls Try.prog 9 #[.agg #[.bool l, .bool r, v]] w fun e w' => RetB e (ValidT xs) ∧ Below w.heap.size w w' := by
  obtain ⟨a, cp, rfl, -, -⟩ := id hv
  have Hv := hide hv
  clear hv
  go_enter Try.func9, Try.ntmps9
  go_wp2_with fail
  refine (nodeOf_any _ xs _ (by exact (unhide Hv).below (below1 w _) (Nat.le_refl _))).mono ?_
  rintro e w1 ⟨hret, hb1⟩
  have hB1 : Below w.heap.size w w1 := (below1 w _).trans (hb1.mono (by rw [sz_alloc]; omega))
  clear hb1
  rcases hret with ⟨u, rfl, hgood⟩ | ⟨rfl, hbad⟩
  · have Hgood := hide hgood
    clear hgood
    go_wp2
    go_ret
    exact ⟨RetB.yes (unhide Hgood), hB1⟩
  · have Hbad := hide hbad
    clear hbad
    go_wp2
    go_ret
    exact ⟨RetB.no (unhide Hbad), hB1⟩

end Go.Proofs.Ytgedhbnmejlmeaa
