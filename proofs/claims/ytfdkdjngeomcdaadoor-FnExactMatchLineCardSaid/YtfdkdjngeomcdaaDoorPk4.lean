import Derived.Test.YtfdkdjngeomcdaaDoorP1
import Derived.Deep.OwnRows
namespace Go.Proofs.YtfdkdjngeomcdaaDoor
open Go.RowKit

theorem Tryd.info3 : (Tryd.prog.info? 3).map (fun i => (i.zero, i.size, i.bytes)) = some (some (.int .i64 0), 1, 8) := by kernel_rfl
theorem Tryd.info58 : (Tryd.prog.info? 58).map (fun i => (i.zero, i.size, i.bytes)) = some (some (.agg #[.int .i64 0, .slice none 0 0, .int .i64 0, .int .i64 0]), 4, 48) := by kernel_rfl

set_option maxHeartbeats 400000 in
set_option maxRecDepth 100000 in
theorem toIntS_any (v : Value) (xs : List Int) (w : World) (hv : IntsAt 0 w.heap.size w v xs) (hlen : xs.length ≤ 1048576) :
    Calls Tryd.prog 42 #[v] w fun e w' => ∃ v', e = .returned v' ∧ IntsAt w.heap.size w'.heap.size w' v' xs ∧ Below w.heap.size w w' := by
  obtain ⟨a, cap, rfl, hl, hr, hc⟩ := hv
  have hmk := run_make_row' (P := Tryd.prog) 44 3 (.int .i64 0) 8 Tryd.underlying44 Tryd.info3 rfl .i64 .i64 xs.length (by omega) (by omega)
  go_enter Tryd.func42, Tryd.ntmps42
  go_wp2
  go_loopw [4] (fun i wr => ∃ k : Nat, k ≤ xs.length ∧ i = .int .i64 k ∧ wr.rowIs w.heap.size 3 xs.length (fun j => if j < k then .int .i64 (xs[j]?.getD 0) else .int .i64 0) ∧ Below w.heap.size w wr) (fun i _ => xs.length - (intOf i).toNat)
  case atStart => exact ⟨0, Nat.zero_le _, rfl, (World.rowIs_made w (.int .i64 0) xs.length 3).congr (by simp), (Below.refl _ _).alloc (Nat.le_refl _) _⟩
  case round =>
    obtain ⟨k, hk, rfl, hrow, hb⟩ := hrel
    by_cases hlt : k < xs.length
    · obtain ⟨b, off, rfl, -, hbn, hcell⟩ := hc (by omega)
      have hx : wr.cell? ⟨b, off + k, none⟩ = some (.int .i64 (xs[k]?.getD 0)) := by rw [hb.cell (p := ⟨b, off + k, none⟩) hbn]; exact hcell k hlt
      have hlt' : (k : Int) < (xs.length : Int) := by omega
      have hw := hrow.cell hlt
      have hf := hrow.frozen k
      clear hmk
      have hrow' := hide hrow
      clear hrow
      go_wp2
      refine ⟨⟨k + 1, by omega, by go_num, ?_, hb.setCell (Nat.le_refl _) _⟩, by simp [intOf]; omega⟩
      refine ((unhide hrow').set k _).congr ?_
      intro j hj
      by_cases e : j = k
      · subst e; simp [hlt]
      · have e2 : j < k + 1 ↔ j < k := by omega
        simp [e, e2]
    · obtain rfl : k = xs.length := by omega
      have hrow' := hide hrow
      clear hmk hrow
      go_wp2
      go_ret
      have hrow := unhide hrow'
      exact ⟨_, rfl, ⟨some ⟨w.heap.size, 0, none⟩, xs.length, rfl, hl, hr, fun _ => ⟨w.heap.size, 0, rfl, Nat.le_refl _, hrow.lt, fun i hi => by rw [Nat.zero_add, hrow.cell hi]; simp [hi]⟩⟩, hb⟩

set_option maxHeartbeats 400000 in
theorem toOp_any (v : Value) (x : El) (w : World) (hv : IntsAt 0 w.heap.size w v x.set) (hlen : x.set.length ≤ 1048576) :
    Calls Tryd.prog 23 #[.agg #[.int .i64 x.kind, v, .int .i64 x.mn, .int .i64 x.mx]] w fun e w' => ∃ v', e = .returned (.agg #[.int .i64 x.kind, v', .int .i64 x.mn, .int .i64 x.mx]) ∧ IntsAt w.heap.size w'.heap.size w' v' x.set ∧ Below w.heap.size w w' := by
  obtain ⟨a, cap, rfl, hl, hr, hc⟩ := id hv
  go_enter Tryd.func23, Tryd.ntmps23
  go_wp2_with fail
  refine (toIntS_any _ x.set _ (by exact hv.below (below3 w _ _ _) (Nat.le_refl _)) hlen).mono ?_
  rintro e w1 ⟨v', rfl, hv', hb1⟩
  obtain ⟨hc1, hf1⟩ := bcell hb1
  simp only [sz_alloc] at hc1 hf1
  have hz := hb1.size
  simp only [sz_alloc] at hz
  obtain ⟨a', cap', rfl, -, -, -⟩ := id hv'
  go_wp2
  refine bodyPost_ret (v := .agg #[.int .i64 x.kind, .slice a' x.set.length cap', .int .i64 x.mn, .int .i64 x.mx]) (by simp [results, Tryd.results23, go_sem, hc1]) rfl ⟨_, rfl, ?_, ?_⟩
  · have hs : Same (w.heap.size + 1 + 1 + 1) w1.heap.size w1 w1 := Same.refl _ _ _
    refine ((hv'.mono (lo' := w.heap.size + 1 + 1 + 1) (by rw [sz_alloc, sz_alloc, sz_alloc]; omega) (Nat.le_refl _)).same (((((((hs.setCell (Or.inl (by omega)) _).setCell (Or.inl (by omega)) _).setCell (Or.inl (by omega)) _).setCell (Or.inl (by omega)) _).setCell (Or.inl (by omega)) _).setCell (Or.inl (by omega)) _).setCell (Or.inl (by omega)) _)).mono (by omega) (by simp only [sz_put]; omega)
  · have hb0 : Below w.heap.size w w1 := (below3 w _ _ _).trans (hb1.mono (by rw [sz_alloc, sz_alloc, sz_alloc]; omega))
    exact bput (bput (bput (bput (bput (bput (bput hb0 (by omega) _) (by omega) _) (by omega) _) (by omega) _) (by omega) _) (by omega) _) (by omega) _

end Go.Proofs.YtfdkdjngeomcdaaDoor

namespace Go.Proofs.YtfdkdjngeomcdaaDoor
open Go.RowKit

theorem ElAt.below {lo n m b o : Nat} {w w' : World} {x : El} (h : ElAt lo n w b o x) (hb : Below m w w') (hm : n ≤ m) (hbm : b < m) : ElAt lo n w' b o x := by
  obtain ⟨i1, i2, i3, v, c0, c1, c2, c3, hi⟩ := h
  refine ⟨i1, i2, i3, v, ?_, ?_, ?_, ?_, hi.same (Same.of_below hb hm)⟩ <;> rw [hb.cell (by exact hbm)] <;> assumption

theorem ElAt.put {lo n b o b' o' : Nat} {w : World} {x : El} {u : Value} (h : ElAt lo n w b o x) (hne : b' ≠ b ∨ o' < o ∨ o + 3 < o') (hlo : b' < lo) : ElAt lo n (w.setCell ⟨b', o', none⟩ u) b o x := by
  obtain ⟨i1, i2, i3, v, c0, c1, c2, c3, hi⟩ := h
  have key : ∀ q, q ≤ 3 → (w.setCell ⟨b', o', none⟩ u).cell? ⟨b, o + q, none⟩ = w.cell? ⟨b, o + q, none⟩ := by
    intro q hq
    apply World.cell?_setCell_other
    intro e
    simp only [Addr.mk.injEq] at e
    omega
  refine ⟨i1, i2, i3, v, ?_, ?_, ?_, ?_, hi.same ((Same.refl lo n w).setCell (Or.inl hlo) u)⟩
  · exact (key 0 (by omega)).trans c0
  · exact (key 1 (by omega)).trans c1
  · exact (key 2 (by omega)).trans c2
  · exact (key 3 (by omega)).trans c3

theorem els_step {w1 : World} {N n k : Nat} {x : El} {vs : Value} {xs : List El} {f : Nat → Value} (hrow : w1.rowIs N 58 (n * 4) f) (hk : k < n)
    (hold : ∀ j : Nat, j < k → ElAt (N + 1) w1.heap.size w1 N (j * 4) (xs[j]?.getD dE)) (hv : IntsAt (N + 1) w1.heap.size w1 vs x.set) (i1 : In64 x.kind) (i2 : In64 x.mn) (i3 : In64 x.mx) (hX : xs[k]?.getD dE = x) (w2 : World)
    (hw : w2 = (((w1.setCell ⟨N, k * 4, none⟩ (.int .i64 x.kind)).setCell ⟨N, k * 4 + 1, none⟩ vs).setCell ⟨N, k * 4 + 2, none⟩ (.int .i64 x.mn)).setCell ⟨N, k * 4 + 3, none⟩ (.int .i64 x.mx)) :
    (∃ f, w2.rowIs N 58 (n * 4) f) ∧ ∀ j : Nat, j < k + 1 → ElAt (N + 1) w2.heap.size w2 N (j * 4) (xs[j]?.getD dE) := by
  subst hw
  have hr := (((hrow.set (k * 4) (.int .i64 x.kind)).set (k * 4 + 1) vs).set (k * 4 + 2) (.int .i64 x.mn)).set (k * 4 + 3) (.int .i64 x.mx)
  refine ⟨⟨_, hr⟩, fun j hj => ?_⟩
  simp only [sz_put]
  by_cases e : j = k
  · subst e
    rw [hX]
    refine ⟨i1, i2, i3, vs, ?_, ?_, ?_, ?_, hv.same (((((Same.refl _ _ _).setCell (Or.inl (by omega)) _).setCell (Or.inl (by omega)) _).setCell (Or.inl (by omega)) _).setCell (Or.inl (by omega)) _)⟩
    · rw [hr.cell (by omega)]; simp
    · rw [hr.cell (by omega)]; simp
    · rw [hr.cell (by omega)]; simp
    · rw [hr.cell (by omega)]; simp
  · exact ((((hold j (by omega)).put (Or.inr (by omega)) (by omega)).put (Or.inr (by omega)) (by omega)).put (Or.inr (by omega)) (by omega)).put (Or.inr (by omega)) (by omega)

theorem row_start (w : World) (c : Array Value) (n : Nat) (h : c.size = n) : ∃ f, (w.alloc (.cells c 58)).rowIs w.heap.size 58 n f := by
  subst h
  exact ⟨fun i => c[i]?.getD undef, World.rowIs_alloc w c 58 _ (fun i hi => by rw [Array.getElem?_eq_getElem hi]; rfl)⟩

theorem run_make_els (n : Nat) (h : n ≤ 1048576) (w : World) :
    (Instr.makeSlice 28 (.int .i64 (n : Int)) (.int .i64 (n : Int))).run Tryd.prog w = .ok (.slice (some ⟨w.heap.size, 0, none⟩) n n) (w.alloc (.cells (madeCells #[.int .i64 0, .slice none 0 0, .int .i64 0, .int .i64 0] (n * 4)) 58)) := by
  obtain ⟨i, hi, hzz⟩ := Option.map_eq_some_iff.1 Tryd.info58
  simp only [Prod.mk.injEq] at hzz
  obtain ⟨hz, hs, hb⟩ := hzz
  have hr := run_make (P := Tryd.prog) w 28 58 i _ Tryd.underlying28 hi hz .i64 .i64 n n (by omega) (Int.le_refl _) (by rw [hb]; omega) (by omega)
  simpa only [Int.toNat_natCast, hs, Value.cells] using hr

set_option maxHeartbeats 400000 in
set_option maxRecDepth 100000 in
theorem toOpS_any (v : Value) (xs : List El) (w : World) (hv : ElsAt 0 w.heap.size w v xs) (hlen : xs.length ≤ 1048576) (hset : ∀ i : Nat, (xs[i]?.getD dE).set.length ≤ 1048576) :
    Calls Tryd.prog 14 #[v] w fun e w' => ∃ v', e = .returned v' ∧ ElsAt w.heap.size w'.heap.size w' v' xs ∧ Below w.heap.size w w' := by
  obtain ⟨a, cap, rfl, hl, hc⟩ := hv
  have hmk := run_make_els xs.length hlen
  go_enter Tryd.func14, Tryd.ntmps14
  go_wp2
  go_loopw [4] (fun i wr => ∃ k : Nat, k ≤ xs.length ∧ i = .int .i64 k ∧ (∃ f, wr.rowIs w.heap.size 58 (xs.length * 4) f) ∧ (∀ j : Nat, j < k → ElAt (w.heap.size + 1) wr.heap.size wr w.heap.size (j * 4) (xs[j]?.getD dE)) ∧ Below w.heap.size w wr) (fun i _ => xs.length - (intOf i).toNat)
  case atStart =>
    exact ⟨0, Nat.zero_le _, rfl, row_start w _ _ (size_madeCells _ _), by intro j hj; omega, below1 w _⟩
  case round =>
    obtain ⟨k, hk, rfl, ⟨f, hrow⟩, hels, hb⟩ := hrel
    by_cases hlt : k < xs.length
    · obtain ⟨b, off, rfl, -, hbn, hel⟩ := hc (by omega)
      obtain ⟨i1, i2, i3, v, c0, c1, c2, c3, hints⟩ := (hel k hlt).same (Same.of_below hb (Nat.le_refl _)) (Nat.zero_le _) hbn
      have hsk := hset k
      generalize hX : xs[k]?.getD dE = x at *
      have HX := hide hX
      have hlt' : (k : Int) < (xs.length : Int) := by omega
      have hrow' := hide hrow
      have hels' := hide hels
      clear hmk hX hrow hels
      obtain ⟨a', cap', rfl, -, -, -⟩ := id hints
      go_wp2_with fail
      refine (toOp_any _ x _ (hints.mono (Nat.le_refl _) hb.size) hsk).mono ?_
      rintro e w1 ⟨v', rfl, hv', hb1⟩
      have hrow := (unhide hrow').of_block (hb1.block _ (unhide hrow').lt)
      have hNw := (unhide hrow').lt
      have d0 := hrow.cell (i := k * 4) (by omega)
      have d1 := hrow.cell (i := k * 4 + 1) (by omega)
      have d2 := hrow.cell (i := k * 4 + 2) (by omega)
      have d3 := hrow.cell (i := k * 4 + 3) (by omega)
      have e0 := hrow.frozen (k * 4)
      have e1 := hrow.frozen (k * 4 + 1)
      have e2 := hrow.frozen (k * 4 + 2)
      have e3 := hrow.frozen (k * 4 + 3)
      have hrow1 := hide hrow
      clear hrow
      obtain ⟨a2, cap2, rfl, -, -, -⟩ := id hv'
      go_wp2
      have hst := els_step (xs := xs) (unhide hrow1) hlt (fun j hj => ((unhide hels' j hj).below hb1 (Nat.le_refl _) hNw).mono (Nat.le_refl _) hb1.size) (hv'.mono (by omega) (Nat.le_refl _)) i1 i2 i3 (unhide HX) _ rfl
      exact ⟨⟨k + 1, by omega, by go_num, hst.1, hst.2, bput (bput (bput (bput (hb.trans (hb1.mono hb.size)) (Nat.le_refl _) _) (Nat.le_refl _) _) (Nat.le_refl _) _) (Nat.le_refl _) _⟩, by simp [intOf]; omega⟩
    · obtain rfl : k = xs.length := by omega
      have hrow' := hide hrow
      have hels' := hide hels
      clear hmk hrow hels
      go_wp2
      go_ret
      exact ⟨_, rfl, ⟨some ⟨w.heap.size, 0, none⟩, xs.length, rfl, ⟨Nat.le_refl _, by unfold maxLen; omega⟩, fun _ => ⟨w.heap.size, 0, rfl, Nat.le_refl _, (unhide hrow').lt, fun i hi => by rw [Nat.zero_add]; exact (unhide hels' i hi).mono (by omega) (Nat.le_refl _)⟩⟩, hb⟩

set_option maxHeartbeats 400000 in
theorem toPattern_any (l r : Bool) (v : Value) (xs : List El) (w : World) (hv : ElsAt 0 w.heap.size w v xs) (hlen : xs.length ≤ 1048576) (hset : ∀ i : Nat, (xs[i]?.getD dE).set.length ≤ 1048576) :
    Calls Tryd.prog 6 #[.agg #[.bool l, .bool r, v]] w fun e w' => ∃ v', e = .returned (.agg #[.bool l, .bool r, v']) ∧ ElsAt w.heap.size w'.heap.size w' v' xs ∧ Below w.heap.size w w' := by
  obtain ⟨a, cap, rfl, -, -⟩ := id hv
  go_enter Tryd.func6, Tryd.ntmps6
  go_wp2_with fail
  refine (toOpS_any _ xs _ (by exact hv.below (below3 w _ _ _) (Nat.le_refl _)) hlen hset).mono ?_
  rintro e w1 ⟨v', rfl, hv', hb1⟩
  obtain ⟨hc1, hf1⟩ := bcell hb1
  simp only [sz_alloc] at hc1 hf1
  have hz := hb1.size
  simp only [sz_alloc] at hz
  obtain ⟨a', cap', rfl, -, -⟩ := id hv'
  go_wp2
  refine bodyPost_ret (v := .agg #[.bool l, .bool r, .slice a' xs.length cap']) (by simp [results, Tryd.results6, go_sem, hc1]) rfl ⟨_, rfl, ?_, ?_⟩
  · have hs : Same (w.heap.size + 1 + 1 + 1) w1.heap.size w1 w1 := Same.refl _ _ _
    exact ((hv'.mono (lo' := w.heap.size + 1 + 1 + 1) (by rw [sz_alloc, sz_alloc, sz_alloc]; omega) (Nat.le_refl _)).same ((((hs.setCell (Or.inl (by omega)) _).setCell (Or.inl (by omega)) _).setCell (Or.inl (by omega)) _).setCell (Or.inl (by omega)) _)).mono (by omega) (by simp only [sz_put]; omega)
  · have hb0 : Below w.heap.size w w1 := (below3 w _ _ _).trans (hb1.mono (by rw [sz_alloc, sz_alloc, sz_alloc]; omega))
    exact bput (bput (bput (bput hb0 (by omega) _) (by omega) _) (by omega) _) (by omega) _

end Go.Proofs.YtfdkdjngeomcdaaDoor
