import Derived.Test.YtgedhbnmejlmeaaB0
import Derived.Deep.OwnRows
namespace Go.Proofs.Ytgedhbnmejlmeaa
open Go.RowKit

theorem Try.info3 : (Try.prog.info? 3).map (fun i => (i.zero, i.size, i.bytes)) = some (some (.int .i64 0), 1, 8) := by kernel_rfl
theorem Try.info65 : (Try.prog.info? 65).map (fun i => (i.zero, i.size, i.bytes)) = some (some (.agg #[.int .i64 0, .slice none 0 0, .int .i64 0, .int .i64 0]), 4, 48) := by kernel_rfl

set_option maxHeartbeats 400000 in
set_option maxRecDepth 100000 in
theorem toIntS_any (v : Value) (xs : List Int) (w : World) (hv : IntsAt 0 w.heap.size w v xs) (hlen : xs.length ≤ 1048576) :
    Calls Try.prog 40 #[v] w fun e w' => ∃ v', e = .returned v' ∧ IntsAt w.heap.size w'.heap.size w' v' xs ∧ Below w.heap.size w w' := by
  obtain ⟨a, cap, rfl, hl, hr, hc⟩ := hv
  have hmk := run_make_row' (P := Try.prog) 39 3 (.int .i64 0) 8 Try.underlying39 Try.info3 rfl .i64 .i64 xs.length (by omega) (by omega)
  go_enter Try.func40, Try.ntmps40
  go_wp2
  go_loopw [4] (fun i wr => ∃ k : Nat, k ≤ xs.length ∧ i = .int .i64 k ∧ wr.rowIs w.heap.size 3 xs.length (fun j => if j < k then .int .i64 (xs[j]?.getD 0) else .int .i64 0) ∧ Below w.heap.size w wr) (fun i _ => xs.length - (intOf i).toNat)
  case atStart => exact ⟨0, Nat.zero_le _, rfl, (World.rowIs_made w (.int .i64 0) xs.length 3).congr (by simp), (Below.refl _ _).alloc (Nat.le_refl _) _⟩
  case round =>
    obtain ⟨k, hk, rfl, hrow, hb⟩ := hrel
    by_cases hlt : k < xs.length
    · obtain ⟨b, off, rfl, -, hbn, hcell⟩ := hc (by omega)
      have hx : wr.cell? ⟨b, off + k, none⟩ = some (.int .i64 (xs[k]?.getD 0)) := by rw [hb.cell (p := ⟨b, off + k, none⟩) hbn]; exact hcell k hlt
      have hlt' : (k : Int) < (xs.length : Int) := by omega
      have hw := hrow.cell hlt
      have hf := hrow.frozen k
      clear hmk
      have hrow' := hide hrow
      clear hrow
      go_wp2
      refine ⟨⟨k + 1, by omega, by go_num, ?_, hb.setCell (Nat.le_refl _) _⟩, by simp [intOf]; omega⟩
      refine ((unhide hrow').set k _).congr ?_
      intro j hj
      by_cases e : j = k
      · subst e; simp [hlt]
      · have e2 : j < k + 1 ↔ j < k := by omega
        simp [e, e2]
    · obtain rfl : k = xs.length := by omega
      have hrow' := hide hrow
      clear hmk hrow
      go_wp2
      go_ret
      have hrow := unhide hrow'
      exact ⟨_, rfl, ⟨some ⟨w.heap.size, 0, none⟩, xs.length, rfl, hl, hr, fun _ => ⟨w.heap.size, 0, rfl, Nat.le_refl _, hrow.lt, fun i hi => by rw [Nat.zero_add, hrow.cell hi]; simp [hi]⟩⟩, hb⟩

set_option maxHeartbeats 400000 in
theorem toOp_any (v : Value) (x : El) (w : World) (hv : IntsAt 0 w.heap.size w v x.set) (hlen : x.set.length ≤ 1048576) :
    Calls Try.prog 34 #[.agg #[.int .i64 x.kind, v, .int .i64 x.mn, .int .i64 x.mx]] w fun e w' => ∃ v', e = .returned (.agg #[.int .i64 x.kind, v', .int .i64 x.mn, .int .i64 x.mx]) ∧ IntsAt w.heap.size w'.heap.size w' v' x.set ∧ Below w.heap.size w w' := by
  obtain ⟨a, cap, rfl, hl, hr, hc⟩ := id hv
  go_enter Try.func34, Try.ntmps34
  go_wp2_with fail
  refine (toIntS_any _ x.set _ (by exact hv.below (below3 w _ _ _) (Nat.le_refl _)) hlen).mono ?_
  rintro e w1 ⟨v', rfl, hv', hb1⟩
  obtain ⟨hc1, hf1⟩ := bcell hb1
  simp only [sz_alloc] at hc1 hf1
  have hz := hb1.size
  simp only [sz_alloc] at hz
  obtain ⟨a', cap', rfl, -, -, -⟩ := id hv'
  go_wp2
  refine bodyPost_ret (v := .agg #[.int .i64 x.kind, .slice a' x.set.length cap', .int .i64 x.mn, .int .i64 x.mx]) (by simp [results, Try.results34, go_sem, hc1]) rfl ⟨_, rfl, ?_, ?_⟩
  · have hs : Same (w.heap.size + 1 + 1 + 1) w1.heap.size w1 w1 := Same.refl _ _ _
    refine ((hv'.mono (lo' := w.heap.size + 1 + 1 + 1) (by rw [sz_alloc, sz_alloc, sz_alloc]; omega) (Nat.le_refl _)).same (((((((hs.setCell (Or.inl (by omega)) _).setCell (Or.inl (by omega)) _).setCell (Or.inl (by omega)) _).setCell (Or.inl (by omega)) _).setCell (Or.inl (by omega)) _).setCell (Or.inl (by omega)) _).setCell (Or.inl (by omega)) _)).mono (by omega) (by simp only [sz_put]; omega)
  · have hb0 : Below w.heap.size w w1 := (below3 w _ _ _).trans (hb1.mono (by rw [sz_alloc, sz_alloc, sz_alloc]; omega))
    exact bput (bput (bput (bput (bput (bput (bput hb0 (by omega) _) (by omega) _) (by omega) _) (by omega) _) (by omega) _) (by omega) _) (by omega) _

end Go.Proofs.Ytgedhbnmejlmeaa
