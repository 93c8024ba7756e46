import Derived.Test.YtkajdhliejjohaaP8
namespace Go.Proofs.Ytkajdhliejjohaa
open Go.RowKit

set_option maxHeartbeats 1000000 in
set_option maxRecDepth 100000 in
theorem sameBytes_same (u v : Value) (xs : List Int) (N : Nat) (w : World) (hu : SlAt mB 0 0 N w u xs) (hv : SlAt mB 0 0 N w v xs) :
    Calls Try.prog 7 #[u, v] w fun e w' => e = .returned (.bool true) ∧ ∃ q, w' = w.drewN q := by
  obtain ⟨a, cap, rfl, hl, hc⟩ := hu
  obtain ⟨a2, cap2, rfl, hl2, hc2⟩ := hv
  unfold maxLen at hl hl2
  go_enter Try.func7, Try.ntmps7
  go_wp2_with fail
  go_loopw [5] (fun i wr => (∃ k : Nat, k ≤ xs.length ∧ i = .int .i64 k) ∧ ∃ q, wr = w.drewN q) (fun i _ => xs.length - (intOf i).toNat)
  case atStart => exact ⟨⟨0, Nat.zero_le _, rfl⟩, 0, rfl⟩
  case round =>
    obtain ⟨⟨k, hk, rfl⟩, q, rfl⟩ := hrel
    by_cases h1 : k < xs.length
    · have h1' : (k : Int) < (xs.length : Int) := by omega
      obtain ⟨b, off, rfl, -, -, hcell⟩ := hc (by omega)
      obtain ⟨b2, off2, rfl, -, -, hcell2⟩ := hc2 (by omega)
      have hx : w.cell? ⟨b, off + k, none⟩ = some (.int .u8 (xs[k]?.getD 0)) := hcell k h1
      have hy : w.cell? ⟨b2, off2 + k, none⟩ = some (.int .u8 (xs[k]?.getD 0)) := hcell2 k h1
      clear hcell hcell2 hc hc2
      generalize xs[k]?.getD 0 = x at *
      go_wp2_with fail
      go_quiet (fail)
      go_wp2
      go_roundw
      case rel => exact ⟨⟨k + 1, by omega, by go_num⟩, _, rfl⟩
      case measure => simp [intOf]; omega
    · obtain rfl : k = xs.length := by omega
      clear hc hc2
      go_wp2
      go_ret
      exact ⟨rfl, _, rfl⟩

set_option maxHeartbeats 1000000 in
set_option maxRecDepth 100000 in
theorem sameInts_same (u v : Value) (xs : List Int) (N : Nat) (w : World) (hu : SlAt mI 0 0 N w u xs) (hv : SlAt mI 0 0 N w v xs) :
    Calls Try.prog 30 #[u, v] w fun e w' => e = .returned (.bool true) ∧ ∃ q, w' = w.drewN q := by
  obtain ⟨a, cap, rfl, hl, hc⟩ := hu
  obtain ⟨a2, cap2, rfl, hl2, hc2⟩ := hv
  unfold maxLen at hl hl2
  go_enter Try.func30, Try.ntmps30
  go_wp2_with fail
  go_loopw [5] (fun i wr => (∃ k : Nat, k ≤ xs.length ∧ i = .int .i64 k) ∧ ∃ q, wr = w.drewN q) (fun i _ => xs.length - (intOf i).toNat)
  case atStart => exact ⟨⟨0, Nat.zero_le _, rfl⟩, 0, rfl⟩
  case round =>
    obtain ⟨⟨k, hk, rfl⟩, q, rfl⟩ := hrel
    by_cases h1 : k < xs.length
    · have h1' : (k : Int) < (xs.length : Int) := by omega
      obtain ⟨b, off, rfl, -, -, hcell⟩ := hc (by omega)
      obtain ⟨b2, off2, rfl, -, -, hcell2⟩ := hc2 (by omega)
      have hx : w.cell? ⟨b, off + k, none⟩ = some (.int .i64 (xs[k]?.getD 0)) := hcell k h1
      have hy : w.cell? ⟨b2, off2 + k, none⟩ = some (.int .i64 (xs[k]?.getD 0)) := hcell2 k h1
      clear hcell hcell2 hc hc2
      generalize xs[k]?.getD 0 = x at *
      go_wp2_with fail
      go_quiet (fail)
      go_wp2
      go_roundw
      case rel => exact ⟨⟨k + 1, by omega, by go_num⟩, _, rfl⟩
      case measure => simp [intOf]; omega
    · obtain rfl : k = xs.length := by omega
      clear hc hc2
      go_wp2
      go_ret
      exact ⟨rfl, _, rfl⟩

set_option maxHeartbeats 1000000 in
set_option maxRecDepth 100000 in
theorem sameTexts_same (u v : Value) (xss : List (List Int)) (w : World) (hu : SsAt mB 0 w.heap.size w u xss) (hv : SsAt mB 0 w.heap.size w v xss) (hL : xss.length ≤ 1048576) :
    Calls Try.prog 29 #[u, v] w fun e w' => e = .returned (.bool true) ∧ ∃ q, w' = w.drewN q := by
  have HU := hide hu
  have HV := hide hv
  obtain ⟨a, cap, rfl, -, -⟩ := hu
  obtain ⟨a2, cap2, rfl, -, -⟩ := hv
  go_enter Try.func29, Try.ntmps29
  go_wp2_with fail
  go_loopw [5] (fun i wr => (∃ k : Nat, k ≤ xss.length ∧ i = .int .i64 k) ∧ ∃ q, wr = w.drewN q) (fun i _ => xss.length - (intOf i).toNat)
  case atStart => exact ⟨⟨0, Nat.zero_le _, rfl⟩, 0, rfl⟩
  case round =>
    obtain ⟨⟨k, hk, rfl⟩, q, hwq⟩ := hrel
    have HQ := hide hwq
    have HULr : Hid (SsAt mB 0 wr.heap.size wr (.slice a xss.length cap) xss) := by rw [hwq]; exact unhide HU
    have HVLr : Hid (SsAt mB 0 wr.heap.size wr (.slice a2 xss.length cap2) xss) := by rw [hwq]; exact unhide HV
    clear hwq
    by_cases hlt : k < xss.length
    · have hlt' : (k : Int) < (xss.length : Int) := by omega
      obtain ⟨_, _, e1, -, hc⟩ := unhide HULr
      cases e1
      obtain ⟨_, _, e2, -, hc'⟩ := unhide HVLr
      cases e2
      obtain ⟨b, off, rfl, -, hcell⟩ := hc (by omega)
      obtain ⟨s, hx, hs, -⟩ := hcell k hlt
      obtain ⟨b', off', rfl, -, hcell'⟩ := hc' (by omega)
      obtain ⟨s', hx', hs', -⟩ := hcell' k hlt
      have Hs := hide hs
      have Hs' := hide hs'
      obtain ⟨sa, sc, rfl, -, -⟩ := hs
      obtain ⟨sa', sc', rfl, -, -⟩ := hs'
      clear hcell hcell' hc hc'
      generalize xss[k]?.getD [] = x at *
      go_wp2_with fail
      go_quiet ((go_at_call 7; refine Calls.quiet_of (sameBytes_same _ _ x _ _ (by exact unhide Hs) (by exact unhide Hs'))))
      go_wp2
      go_roundw
      case rel => exact ⟨⟨k + 1, by omega, by go_num⟩, q + nq, by rw [unhide HQ]; exact drew2 _ _ _⟩
      case measure => simp [intOf]; omega
    · obtain rfl : k = xss.length := by omega
      go_wp2
      go_ret
      exact ⟨rfl, q, unhide HQ⟩

end Go.Proofs.Ytkajdhliejjohaa
