import Derived.Test.YtidjmaakhldpgaaB0
import Derived.OwnWalk
import Derived.WalkKit
import Derived.Shelf.RegionOpenPlain
namespace Go.Proofs.Ytidjmaakhldpgaa
open Go.RowKit

/-- The part of a slice from j on. -/
def fromW (p : Option Addr) (n c j : Nat) : Value := .slice (if c = j then p else p.map (fun x => x.add j)) (n - j) (c - j)
def cutW (p : Option Addr) (n c : Nat) (i : Int) : Value :=
  if 0 ≤ i then .tuple #[.slice p i.toNat c, fromW p n c (i.toNat + 1), .bool true] else .tuple #[.slice p n c, .slice none 0 0, .bool false]

set_option maxHeartbeats 2000000 in
set_option maxRecDepth 100000 in
theorem cut_of (p1 p2 : Option Addr) (n c1 c2 : Nat) (i : Int) (w : World) (hcap : n ≤ c1) (hlo : -1 ≤ i) (hroom : 0 ≤ i → i + 1 ≤ n) (hn : n ≤ 4611686018427387904)
    (hidx : Calls Try.prog 47 #[.slice p1 n c1, .slice p2 1 c2] w fun e w' => e = .returned (.int .i64 i) ∧ w' = w) :
    Calls Try.prog 25 #[.slice p1 n c1, .slice p2 1 c2] w fun e w' => e = .returned (cutW p1 n c1 i) ∧ ∃ q, w' = w.drewN q := by
  unfold cutW
  by_cases h0 : 0 ≤ i
  · obtain ⟨j, rfl⟩ : ∃ j : Nat, i = j := ⟨i.toNat, by omega⟩
    have hr := hroom h0
    have hj1 : j ≤ c1 := by omega
    have hj2 : j + 1 ≤ n := by omega
    have mixed : Try.prog.follows Departure.mixedOrders = true := by kernel_rfl
    clear hroom
    rw [if_pos h0]
    go_enter Try.func25, Try.ntmps25
    go_wp2_with (go_at_call 47; refine hidx.mono ?_; rintro e w' ⟨rfl, rfl⟩)
    go_region_o
    all_goals go_wp2
    all_goals go_ret3
    all_goals exact ⟨by simp [fromW, Addr.add, *], _, rfl⟩
  · rw [if_neg h0]
    obtain rfl : i = -1 := by omega
    go_enter Try.func25, Try.ntmps25
    go_wp2_with (go_at_call 47; refine hidx.mono ?_; rintro e w' ⟨rfl, rfl⟩)
    go_ret3
    exact ⟨rfl, 0, rfl⟩

end Go.Proofs.Ytidjmaakhldpgaa
