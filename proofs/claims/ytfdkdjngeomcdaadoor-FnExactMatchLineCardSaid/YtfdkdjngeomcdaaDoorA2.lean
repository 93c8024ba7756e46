import Derived.Test.YtfdkdjngeomcdaaDoorP8
namespace Go.Proofs.YtfdkdjngeomcdaaDoor
open Go.RowKit

set_option maxHeartbeats 400000 in
theorem szPattern_any (l r : Bool) (v : Value) (xs : List El) (w : World) (hv : ElsAt 0 w.heap.size w v xs) :
    Calls Tryd.prog 4 #[.agg #[.bool l, .bool r, v], .int .i64 1048576] w fun e w' => (∃ r : Int, e = .returned (.int .i64 r) ∧ (r = -1 ∨ (0 ≤ r ∧ r = 1048576 - xs.length - bulk xs))) ∧ Below w.heap.size w w' := by
  have hv2 := hv
  obtain ⟨a, cap, rfl, hlen, hc⟩ := hv
  go_enter Tryd.func4, Tryd.ntmps4
  go_wp2_with (go_at_call 11; refine (szOpS_any _ xs _ _ (hv2.below (below1 w _) (Nat.le_refl _)) (by omega) (by omega)).mono ?_; rintro e w1 ⟨⟨q, rfl, hq⟩, hb1⟩; rcases hq with rfl | ⟨hq0, hq1⟩)
  all_goals go_ret
  · exact ⟨⟨-1, rfl, Or.inl rfl⟩, ((Below.refl _ _).alloc (Nat.le_refl _) _).trans (hb1.mono (by simp))⟩
  · exact ⟨⟨_, rfl, Or.inr ⟨by omega, rfl⟩⟩, ((Below.refl _ _).alloc (Nat.le_refl _) _).trans (hb1.mono (by simp))⟩

end Go.Proofs.YtfdkdjngeomcdaaDoor
