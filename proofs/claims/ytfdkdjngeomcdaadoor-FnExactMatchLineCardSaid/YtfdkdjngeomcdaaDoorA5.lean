import Derived.Test.YtfdkdjngeomcdaaDoorP1
import Derived.Deep.QuietTactic
import Derived.BigQuiet
import Derived.WalkSmall
import Derived.Deep.RegionWith
namespace Go.Proofs.YtfdkdjngeomcdaaDoor
open Go.RowKit

set_option maxHeartbeats 400000 in
theorem eqIntS_same (u v : Value) (xs : List Int) (w : World) (hu : IntsAt 0 w.heap.size w u xs) (hv : IntsAt 0 w.heap.size w v xs) :
    Calls Tryd.prog 58 #[u, v] w fun e w' => e = .returned (.bool true) ∧ Below w.heap.size w w' := by
  obtain ⟨a, cap, rfl, hl, hr, hc⟩ := hu
  obtain ⟨a2, cap2, rfl, -, -, hc2⟩ := hv
  unfold maxLen at hl
  go_enter Tryd.func58, Tryd.ntmps58
  go_wp2
  go_loopw [5] (fun i wr => ∃ k : Nat, k ≤ xs.length ∧ i = .int .i64 k ∧ Below w.heap.size w wr) (fun i _ => xs.length - (intOf i).toNat)
  case atStart => exact ⟨0, Nat.zero_le _, rfl, Below.refl _ _⟩
  case round =>
    obtain ⟨k, hk, rfl, hb⟩ := hrel
    by_cases hlt : k < xs.length
    · obtain ⟨b, off, rfl, -, hbn, hcell⟩ := hc (by omega)
      obtain ⟨b2, off2, rfl, -, hbn2, hcell2⟩ := hc2 (by omega)
      have hx : wr.cell? ⟨b, off + k, none⟩ = some (.int .i64 (xs[k]?.getD 0)) := by rw [hb.cell (p := ⟨b, off + k, none⟩) hbn]; exact hcell k hlt
      have hx2 : wr.cell? ⟨b2, off2 + k, none⟩ = some (.int .i64 (xs[k]?.getD 0)) := by rw [hb.cell (p := ⟨b2, off2 + k, none⟩) hbn2]; exact hcell2 k hlt
      have hlt' : (k : Int) < (xs.length : Int) := by omega
      generalize xs[k]?.getD 0 = x at *
      go_wp2
      go_quiet (fail)
      go_wp2
      go_roundw
      case rel => exact ⟨k + 1, by omega, by go_num, below_drewN hb nq⟩
      case measure => simp [intOf]; omega
    · obtain rfl : k = xs.length := by omega
      go_wp2
      go_ret
      exact ⟨rfl, hb⟩

set_option maxHeartbeats 400000 in
theorem eqOp_same (u v : Value) (x : El) (w : World) (hu : IntsAt 0 w.heap.size w u x.set) (hv : IntsAt 0 w.heap.size w v x.set) :
    Calls Tryd.prog 34 #[.agg #[.int .i64 x.kind, u, .int .i64 x.mn, .int .i64 x.mx], .agg #[.int .i64 x.kind, v, .int .i64 x.mn, .int .i64 x.mx]] w fun e w' => e = .returned (.bool true) ∧ Below w.heap.size w w' := by
  obtain ⟨a, cap, rfl, -, -, -⟩ := id hu
  obtain ⟨a2, cap2, rfl, -, -, -⟩ := id hv
  go_enter Tryd.func34, Tryd.ntmps34
  go_wp2_with fail
  refine (eqIntS_same _ _ x.set _ (by exact hu.below (below2 w _ _) (Nat.le_refl _)) (by exact hv.below (below2 w _ _) (Nat.le_refl _))).mono ?_
  rintro e w1 ⟨rfl, hb1⟩
  obtain ⟨hc1, hf1⟩ := bcell hb1
  simp only [sz_alloc] at hc1 hf1
  go_wp2
  go_ret
  exact ⟨rfl, (below2 w _ _).trans (hb1.mono (by rw [sz_alloc, sz_alloc]; omega))⟩

set_option maxHeartbeats 1000000 in
theorem eqOpS_same (u v : Value) (xs : List El) (w : World) (hu : ElsAt 0 w.heap.size w u xs) (hv : ElsAt 0 w.heap.size w v xs) :
    Calls Tryd.prog 19 #[u, v] w fun e w' => e = .returned (.bool true) ∧ Below w.heap.size w w' := by
  obtain ⟨a, cap, rfl, hl, hc⟩ := hu
  obtain ⟨a2, cap2, rfl, -, hc2⟩ := hv
  unfold maxLen at hl
  go_enter Tryd.func19, Tryd.ntmps19
  go_wp2
  go_loopw [5] (fun i wr => ∃ k : Nat, k ≤ xs.length ∧ i = .int .i64 k ∧ Below w.heap.size w wr) (fun i _ => xs.length - (intOf i).toNat)
  case atStart => exact ⟨0, Nat.zero_le _, rfl, Below.refl _ _⟩
  case round =>
    obtain ⟨k, hk, rfl, hb⟩ := hrel
    by_cases hlt : k < xs.length
    · obtain ⟨b, off, rfl, -, hbn, hel⟩ := hc (by omega)
      obtain ⟨b2, off2, rfl, -, hbn2, hel2⟩ := hc2 (by omega)
      obtain ⟨i1, i2, i3, v, c0, c1, c2, c3, hints⟩ := (hel k hlt).same (Same.of_below hb (Nat.le_refl _)) (Nat.zero_le _) hbn
      obtain ⟨-, -, -, v2, d0, d1, d2, d3, hints2⟩ := (hel2 k hlt).same (Same.of_below hb (Nat.le_refl _)) (Nat.zero_le _) hbn2
      have hlt' : (k : Int) < (xs.length : Int) := by omega
      generalize xs[k]?.getD dE = x at *
      obtain ⟨a', cap', rfl, -, -, -⟩ := id hints
      obtain ⟨a2', cap2', rfl, -, -, -⟩ := id hints2
      have hi1 := hints.mono (Nat.le_refl _) hb.size
      have hi2 := hints2.mono (Nat.le_refl _) hb.size
      go_wp2
      go_region_with (go_at_call 34; refine (eqOp_same _ _ x _ (by exact hi1) (by exact hi2)).mono ?_; rintro e w1 ⟨rfl, hb1⟩)
      all_goals
        have hb2 : Below wr.heap.size wr w1 := ⟨hb1.os, hb1.tape, hb1.output, hb1.size, hb1.block⟩
        clear hb1
        go_wp2
        go_roundw
        case rel => exact ⟨k + 1, by omega, by go_num, hb.trans (hb2.mono hb.size)⟩
        case measure => simp [intOf]; omega
    · obtain rfl : k = xs.length := by omega
      go_wp2
      go_ret
      exact ⟨rfl, hb⟩

set_option maxHeartbeats 400000 in
theorem eqPattern_same (l r : Bool) (u v : Value) (xs : List El) (w : World) (hu : ElsAt 0 w.heap.size w u xs) (hv : ElsAt 0 w.heap.size w v xs) :
    Calls Tryd.prog 9 #[.agg #[.bool l, .bool r, u], .agg #[.bool l, .bool r, v]] w fun e w' => e = .returned (.bool true) ∧ Below w.heap.size w w' := by
  obtain ⟨a, cap, rfl, -, -⟩ := id hu
  obtain ⟨a2, cap2, rfl, -, -⟩ := id hv
  go_enter Tryd.func9, Tryd.ntmps9
  go_wp2_with fail
  refine (eqOpS_same _ _ xs _ (by exact hu.below (below2 w _ _) (Nat.le_refl _)) (by exact hv.below (below2 w _ _) (Nat.le_refl _))).mono ?_
  rintro e w1 ⟨rfl, hb1⟩
  go_wp2
  go_ret
  exact ⟨rfl, (below2 w _ _).trans (hb1.mono (by rw [sz_alloc, sz_alloc]; omega))⟩

end Go.Proofs.YtfdkdjngeomcdaaDoor
