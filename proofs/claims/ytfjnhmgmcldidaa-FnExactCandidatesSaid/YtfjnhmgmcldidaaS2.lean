import Derived.Test.YtfjnhmgmcldidaaS1
namespace Go.Proofs.Ytfjnhmgmcldidaa
open Go.RowKit

theorem Try.zinInt : (Try.prog.info? 3).map (fun i => (i.zero, i.size, i.bytes)) = some (some (.int .i64 0), 1, 8) := by kernel_rfl

set_option maxHeartbeats 400000 in
set_option maxRecDepth 100000 in
theorem toIntS_wc (v : Value) (xs : List Int) (w : World) (hv : SlAt mI 0 0 w.heap.size w v xs) (hlen : xs.length ≤ 1048576) :
    Calls Try.prog 23 #[v] w fun e w' => ∃ v', e = .returned v' ∧ SlW mI 0 w.heap.size w'.heap.size w' v' xs ∧ CapOk v' ∧ Below w.heap.size w w' := by
  obtain ⟨a, cap, rfl, hl, hc⟩ := hv
  have hmk := run_make_row' (P := Try.prog) 23 3 (.int .i64 0) 8 Try.underlying23 Try.zinInt rfl .i64 .i64 xs.length (by omega) (by omega)
  go_enter Try.func23, Try.ntmps23
  go_wp2
  go_loopw [4] (fun i wr => ∃ k : Nat, k ≤ xs.length ∧ i = .int .i64 k ∧ wr.rowIs w.heap.size 3 xs.length (fun j => if j < k then .int .i64 (xs[j]?.getD 0) else .int .i64 0) ∧ Below w.heap.size w wr) (fun i _ => xs.length - (intOf i).toNat)
  case atStart => exact ⟨0, Nat.zero_le _, rfl, (World.rowIs_made w (.int .i64 0) xs.length 3).congr (by simp), (Below.refl _ _).alloc (Nat.le_refl _) _⟩
  case round =>
    obtain ⟨k, hk, rfl, hrow, hb⟩ := hrel
    by_cases hlt : k < xs.length
    · obtain ⟨b, off, rfl, -, hbn, hcell⟩ := hc (by omega)
      have hx : wr.cell? ⟨b, off + k, none⟩ = some (.int .i64 (xs[k]?.getD 0)) := by rw [hb.cell (p := ⟨b, off + k, none⟩) hbn]; exact hcell k hlt
      have hlt' : (k : Int) < (xs.length : Int) := by omega
      have hw := hrow.cell hlt
      have hf := hrow.frozen k
      have hrow' := hide hrow
      clear hmk hrow hcell hc
      generalize hX : xs[k]?.getD 0 = x at *
      have HX := hide hX
      clear hX
      go_wp2
      refine ⟨⟨k + 1, by omega, by go_num, ?_, hb.setCell (Nat.le_refl _) _⟩, by simp [intOf]; omega⟩
      refine ((unhide hrow').set k _).congr ?_
      intro j hj
      by_cases e : j = k
      · subst e; simp only [if_true]; rw [if_pos (by omega), unhide HX]
      · have e2 : j < k + 1 ↔ j < k := by omega
        simp only [e, if_false, e2]
    · obtain rfl : k = xs.length := by omega
      have hrow' := hide hrow
      clear hmk hrow hc
      go_wp2
      go_ret
      have hrow := unhide hrow'
      refine ⟨_, rfl, ⟨some ⟨w.heap.size, 0, none⟩, xs.length, rfl, hl, fun _ => ⟨w.heap.size, 0, rfl, Nat.le_refl _, hrow.lt, ?_, fun i hi => by rw [Nat.zero_add, hrow.cell hi, if_pos hi]; rfl⟩⟩, CapOk.mk (Nat.le_refl _) hl, hb⟩
      obtain ⟨c, hcb, -⟩ := hrow
      exact ⟨c, _, hcb⟩
theorem toIntS_w (v : Value) (xs : List Int) (w : World) (hv : SlAt mI 0 0 w.heap.size w v xs) (hlen : xs.length ≤ 1048576) :
    Calls Try.prog 23 #[v] w fun e w' => ∃ v', e = .returned v' ∧ SlW mI 0 w.heap.size w'.heap.size w' v' xs ∧ Below w.heap.size w w' :=
  (toIntS_wc v xs w hv hlen).mono (fun _ _ ⟨v', h1, h2, _, h3⟩ => ⟨v', h1, h2, h3⟩)

set_option maxHeartbeats 400000 in
theorem eqIntS_w (u v : Value) (xs : List Int) (w : World) (hu : SlAt mI 0 0 w.heap.size w u xs) (hv : SlAt mI 0 0 w.heap.size w v xs) :
    Calls Try.prog 10 #[u, v] w fun e w' => e = .returned (.bool true) ∧ ∃ n, w' = w.drewN n := by
  obtain ⟨a, cap, rfl, hl, hc⟩ := hu
  obtain ⟨a2, cap2, rfl, -, hc2⟩ := hv
  unfold maxLen at hl
  go_enter Try.func10, Try.ntmps10
  go_wp2
  go_loopw [5] (fun i wr => ∃ k : Nat, k ≤ xs.length ∧ i = .int .i64 k ∧ ∃ n, wr = w.drewN n) (fun i _ => xs.length - (intOf i).toNat)
  case atStart => exact ⟨0, Nat.zero_le _, rfl, 0, rfl⟩
  case round =>
    obtain ⟨k, hk, rfl, n, rfl⟩ := hrel
    by_cases hlt : k < xs.length
    · obtain ⟨b, off, rfl, -, hbn, hcell⟩ := hc (by omega)
      obtain ⟨b2, off2, rfl, -, hbn2, hcell2⟩ := hc2 (by omega)
      have hx : w.cell? ⟨b, off + k, none⟩ = some (.int .i64 (xs[k]?.getD 0)) := hcell k hlt
      have hx2 : w.cell? ⟨b2, off2 + k, none⟩ = some (.int .i64 (xs[k]?.getD 0)) := hcell2 k hlt
      have hlt' : (k : Int) < (xs.length : Int) := by omega
      clear hcell hcell2 hc hc2
      generalize xs[k]?.getD 0 = x at *
      go_wp2
      go_quiet (fail)
      go_wp2
      go_roundw
      case rel => exact ⟨k + 1, by omega, by go_num, _, rfl⟩
      case measure => simp [intOf]; omega
    · obtain rfl : k = xs.length := by omega
      clear hc hc2
      go_wp2
      go_ret
      exact ⟨rfl, _, rfl⟩

theorem Try.zinByte : (Try.prog.info? 5).map (fun i => (i.zero, i.size, i.bytes)) = some (some (.int .u8 0), 1, 1) := by kernel_rfl

set_option maxHeartbeats 400000 in
set_option maxRecDepth 100000 in
theorem toByteS_wc (v : Value) (xs : List Int) (w : World) (hv : SlAt mB 0 0 w.heap.size w v xs) (hlen : xs.length ≤ 1048576) :
    Calls Try.prog 38 #[v] w fun e w' => ∃ v', e = .returned v' ∧ SlW mB 0 w.heap.size w'.heap.size w' v' xs ∧ CapOk v' ∧ Below w.heap.size w w' := by
  obtain ⟨a, cap, rfl, hl, hc⟩ := hv
  have hmk := run_make_row' (P := Try.prog) 66 5 (.int .u8 0) 1 Try.underlying66 Try.zinByte rfl .i64 .i64 xs.length (by omega) (by omega)
  go_enter Try.func38, Try.ntmps38
  go_wp2
  go_loopw [4] (fun i wr => ∃ k : Nat, k ≤ xs.length ∧ i = .int .i64 k ∧ wr.rowIs w.heap.size 5 xs.length (fun j => if j < k then .int .u8 (xs[j]?.getD 0) else .int .u8 0) ∧ Below w.heap.size w wr) (fun i _ => xs.length - (intOf i).toNat)
  case atStart => exact ⟨0, Nat.zero_le _, rfl, (World.rowIs_made w (.int .u8 0) xs.length 5).congr (by simp), (Below.refl _ _).alloc (Nat.le_refl _) _⟩
  case round =>
    obtain ⟨k, hk, rfl, hrow, hb⟩ := hrel
    by_cases hlt : k < xs.length
    · obtain ⟨b, off, rfl, -, hbn, hcell⟩ := hc (by omega)
      have hx : wr.cell? ⟨b, off + k, none⟩ = some (.int .u8 (xs[k]?.getD 0)) := by rw [hb.cell (p := ⟨b, off + k, none⟩) hbn]; exact hcell k hlt
      have hlt' : (k : Int) < (xs.length : Int) := by omega
      have hw := hrow.cell hlt
      have hf := hrow.frozen k
      have hrow' := hide hrow
      clear hmk hrow hcell hc
      generalize hX : xs[k]?.getD 0 = x at *
      have HX := hide hX
      clear hX
      go_wp2
      refine ⟨⟨k + 1, by omega, by go_num, ?_, hb.setCell (Nat.le_refl _) _⟩, by simp [intOf]; omega⟩
      refine ((unhide hrow').set k _).congr ?_
      intro j hj
      by_cases e : j = k
      · subst e; simp only [if_true]; rw [if_pos (by omega), unhide HX]
      · have e2 : j < k + 1 ↔ j < k := by omega
        simp only [e, if_false, e2]
    · obtain rfl : k = xs.length := by omega
      have hrow' := hide hrow
      clear hmk hrow hc
      go_wp2
      go_ret
      have hrow := unhide hrow'
      refine ⟨_, rfl, ⟨some ⟨w.heap.size, 0, none⟩, xs.length, rfl, hl, fun _ => ⟨w.heap.size, 0, rfl, Nat.le_refl _, hrow.lt, ?_, fun i hi => by rw [Nat.zero_add, hrow.cell hi, if_pos hi]; rfl⟩⟩, CapOk.mk (Nat.le_refl _) hl, hb⟩
      obtain ⟨c, hcb, -⟩ := hrow
      exact ⟨c, _, hcb⟩
theorem toByteS_w (v : Value) (xs : List Int) (w : World) (hv : SlAt mB 0 0 w.heap.size w v xs) (hlen : xs.length ≤ 1048576) :
    Calls Try.prog 38 #[v] w fun e w' => ∃ v', e = .returned v' ∧ SlW mB 0 w.heap.size w'.heap.size w' v' xs ∧ Below w.heap.size w w' :=
  (toByteS_wc v xs w hv hlen).mono (fun _ _ ⟨v', h1, h2, _, h3⟩ => ⟨v', h1, h2, h3⟩)

set_option maxHeartbeats 400000 in
theorem eqByteS_w (u v : Value) (xs : List Int) (w : World) (hu : SlAt mB 0 0 w.heap.size w u xs) (hv : SlAt mB 0 0 w.heap.size w v xs) :
    Calls Try.prog 42 #[u, v] w fun e w' => e = .returned (.bool true) ∧ ∃ n, w' = w.drewN n := by
  obtain ⟨a, cap, rfl, hl, hc⟩ := hu
  obtain ⟨a2, cap2, rfl, -, hc2⟩ := hv
  unfold maxLen at hl
  go_enter Try.func42, Try.ntmps42
  go_wp2
  go_loopw [5] (fun i wr => ∃ k : Nat, k ≤ xs.length ∧ i = .int .i64 k ∧ ∃ n, wr = w.drewN n) (fun i _ => xs.length - (intOf i).toNat)
  case atStart => exact ⟨0, Nat.zero_le _, rfl, 0, rfl⟩
  case round =>
    obtain ⟨k, hk, rfl, n, rfl⟩ := hrel
    by_cases hlt : k < xs.length
    · obtain ⟨b, off, rfl, -, hbn, hcell⟩ := hc (by omega)
      obtain ⟨b2, off2, rfl, -, hbn2, hcell2⟩ := hc2 (by omega)
      have hx : w.cell? ⟨b, off + k, none⟩ = some (.int .u8 (xs[k]?.getD 0)) := hcell k hlt
      have hx2 : w.cell? ⟨b2, off2 + k, none⟩ = some (.int .u8 (xs[k]?.getD 0)) := hcell2 k hlt
      have hlt' : (k : Int) < (xs.length : Int) := by omega
      clear hcell hcell2 hc hc2
      generalize xs[k]?.getD 0 = x at *
      go_wp2
      go_quiet (fail)
      go_wp2
      go_roundw
      case rel => exact ⟨k + 1, by omega, by go_num, _, rfl⟩
      case measure => simp [intOf]; omega
    · obtain rfl : k = xs.length := by omega
      clear hc hc2
      go_wp2
      go_ret
      exact ⟨rfl, _, rfl⟩

theorem Try.zinBool : (Try.prog.info? 4).map (fun i => (i.zero, i.size, i.bytes)) = some (some (.bool false), 1, 1) := by kernel_rfl

end Go.Proofs.Ytfjnhmgmcldidaa
