import Derived.Test.YtijejbdpagbmpaaDoorP5
import Derived.Test.YtijejbdpagbmpaaDoorP1
import Derived.Deep.OwnRows
namespace Go.Proofs.YtijejbdpagbmpaaDoor
open Go.RowKit

theorem SameB.put {lo n : Nat} {a w : World} (h : SameB lo n a w) {b o : Nat} (hb : b < lo ∨ n ≤ b) (u : Value) : SameB lo n a (w.setCell ⟨b, o, none⟩ u) :=
  fun k h1 h2 => (Below.heap_setCell _ _ _ _ (by show k ≠ b; omega)).trans (h k h1 h2)

/-- A block of four cells. -/
def Row4 (w : World) (b : Nat) (t : TypeId) (c0 c1 c2 c3 : Value) : Prop := w.rowIs b t 4 (fun j => [c0, c1, c2, c3].getD j undef)
theorem Row4.new (w : World) (t : TypeId) (c0 c1 c2 c3 : Value) : Row4 (w.alloc (.cells #[c0, c1, c2, c3] t)) w.heap.size t c0 c1 c2 c3 :=
  World.rowIs_alloc w #[c0, c1, c2, c3] t _ (fun i hi => by
    match i, hi with
    | 0, _ => rfl
    | 1, _ => rfl
    | 2, _ => rfl
    | 3, _ => rfl)
theorem Row4.alloc {w : World} {b : Nat} {t : TypeId} {c0 c1 c2 c3 : Value} (h : Row4 w b t c0 c1 c2 c3) (o : Obj) : Row4 (w.alloc o) b t c0 c1 c2 c3 := World.rowIs.alloc h o
theorem Row4.below {w w' : World} {b m : Nat} {t : TypeId} {c0 c1 c2 c3 : Value} (h : Row4 w b t c0 c1 c2 c3) (hb : Below m w w') (hm : b < m) : Row4 w' b t c0 c1 c2 c3 := World.rowIs.of_block h (hb.block b hm)
theorem Row4.other {w : World} {b b' o : Nat} {t : TypeId} {c0 c1 c2 c3 u : Value} (h : Row4 w b t c0 c1 c2 c3) (hb : b ≠ b') : Row4 (w.setCell ⟨b', o, none⟩ u) b t c0 c1 c2 c3 := World.rowIs.setOther h hb u
theorem Row4.put0 {w : World} {b : Nat} {t : TypeId} {c0 c1 c2 c3 u : Value} (h : Row4 w b t c0 c1 c2 c3) : Row4 (w.setCell ⟨b, 0, none⟩ u) b t u c1 c2 c3 := (World.rowIs.set h 0 u).congr (fun i hi => by
    match i, hi with
    | 0, _ => rfl
    | 1, _ => rfl
    | 2, _ => rfl
    | 3, _ => rfl)
theorem Row4.put1 {w : World} {b : Nat} {t : TypeId} {c0 c1 c2 c3 u : Value} (h : Row4 w b t c0 c1 c2 c3) : Row4 (w.setCell ⟨b, 1, none⟩ u) b t c0 u c2 c3 := (World.rowIs.set h 1 u).congr (fun i hi => by
    match i, hi with
    | 0, _ => rfl
    | 1, _ => rfl
    | 2, _ => rfl
    | 3, _ => rfl)
theorem Row4.put2 {w : World} {b : Nat} {t : TypeId} {c0 c1 c2 c3 u : Value} (h : Row4 w b t c0 c1 c2 c3) : Row4 (w.setCell ⟨b, 2, none⟩ u) b t c0 c1 u c3 := (World.rowIs.set h 2 u).congr (fun i hi => by
    match i, hi with
    | 0, _ => rfl
    | 1, _ => rfl
    | 2, _ => rfl
    | 3, _ => rfl)
/-- What the walk asks of it. -/
theorem Row4.facts {w : World} {b : Nat} {t : TypeId} {c0 c1 c2 c3 : Value} (h : Row4 w b t c0 c1 c2 c3) :
    w.cell? ⟨b, 0, none⟩ = some c0 ∧ w.cell? ⟨b, 1, none⟩ = some c1 ∧ w.cell? ⟨b, 2, none⟩ = some c2 ∧ w.cell? ⟨b, 3, none⟩ = some c3 ∧ w.frozen? ⟨b, 0, none⟩ = false ∧ w.frozen? ⟨b, 1, none⟩ = false ∧ w.frozen? ⟨b, 2, none⟩ = false ∧ w.frozen? ⟨b, 3, none⟩ = false :=
  ⟨World.rowIs.cell h (i := 0) (by omega), World.rowIs.cell h (i := 1) (by omega), World.rowIs.cell h (i := 2) (by omega), World.rowIs.cell h (i := 3) (by omega), World.rowIs.frozen h 0, World.rowIs.frozen h 1, World.rowIs.frozen h 2, World.rowIs.frozen h 3⟩

end Go.Proofs.YtijejbdpagbmpaaDoor

namespace Go.Proofs.YtijejbdpagbmpaaDoor
open Go.RowKit


end Go.Proofs.YtijejbdpagbmpaaDoor

namespace Go.Proofs.YtijejbdpagbmpaaDoor
open Go.RowKit

theorem Tryd.info3 : (Tryd.prog.info? 3).map (fun i => (i.zero, i.size, i.bytes)) = some (some (.int .i64 0), 1, 8) := by kernel_rfl
theorem Tryd.info44 : (Tryd.prog.info? 44).map (fun i => (i.zero, i.size, i.bytes)) = some (some (.agg #[.int .i64 0, .slice none 0 0, .int .i64 0, .int .i64 0]), 4, 48) := by kernel_rfl

set_option maxHeartbeats 400000 in
set_option maxRecDepth 100000 in
theorem toIntS_any (v : Value) (xs : List Int) (w : World) (hv : IntsAt 0 w.heap.size w v xs) (hlen : xs.length ≤ 1048576) :
    Calls Tryd.prog 57 #[v] w fun e w' => ∃ v', e = .returned v' ∧ IntsAt w.heap.size w'.heap.size w' v' xs ∧ Below w.heap.size w w' := by
  obtain ⟨a, cap, rfl, hl, hr, hc⟩ := hv
  have hmk := run_make_row' (P := Tryd.prog) 27 3 (.int .i64 0) 8 Tryd.underlying27 Tryd.info3 rfl .i64 .i64 xs.length (by omega) (by omega)
  go_enter Tryd.func57, Tryd.ntmps57
  go_wp2
  go_loopw [4] (fun i wr => ∃ k : Nat, k ≤ xs.length ∧ i = .int .i64 k ∧ wr.rowIs w.heap.size 3 xs.length (fun j => if j < k then .int .i64 (xs[j]?.getD 0) else .int .i64 0) ∧ Below w.heap.size w wr) (fun i _ => xs.length - (intOf i).toNat)
  case atStart => exact ⟨0, Nat.zero_le _, rfl, (World.rowIs_made w (.int .i64 0) xs.length 3).congr (by simp), (Below.refl _ _).alloc (Nat.le_refl _) _⟩
  case round =>
    obtain ⟨k, hk, rfl, hrow, hb⟩ := hrel
    by_cases hlt : k < xs.length
    · obtain ⟨b, off, rfl, -, hbn, hcell⟩ := hc (by omega)
      have hx : wr.cell? ⟨b, off + k, none⟩ = some (.int .i64 (xs[k]?.getD 0)) := by rw [hb.cell (p := ⟨b, off + k, none⟩) hbn]; exact hcell k hlt
      have hlt' : (k : Int) < (xs.length : Int) := by omega
      have hw := hrow.cell hlt
      have hf := hrow.frozen k
      clear hmk
      have hrow' := hide hrow
      clear hrow
      go_wp2
      refine ⟨⟨k + 1, by omega, by go_num, ?_, hb.setCell (Nat.le_refl _) _⟩, by simp [intOf]; omega⟩
      refine ((unhide hrow').set k _).congr ?_
      intro j hj
      by_cases e : j = k
      · subst e; simp [hlt]
      · have e2 : j < k + 1 ↔ j < k := by omega
        simp [e, e2]
    · obtain rfl : k = xs.length := by omega
      have hrow' := hide hrow
      clear hmk hrow
      go_wp2
      go_ret
      have hrow := unhide hrow'
      exact ⟨_, rfl, ⟨some ⟨w.heap.size, 0, none⟩, xs.length, rfl, hl, hr, fun _ => ⟨w.heap.size, 0, rfl, Nat.le_refl _, hrow.lt, fun i hi => by rw [Nat.zero_add, hrow.cell hi]; simp [hi]⟩⟩, hb⟩

set_option maxHeartbeats 400000 in
theorem toOp_any (v : Value) (x : El) (w : World) (hv : IntsAt 0 w.heap.size w v x.set) (hlen : x.set.length ≤ 1048576) :
    Calls Tryd.prog 41 #[.agg #[.int .i64 x.kind, v, .int .i64 x.mn, .int .i64 x.mx]] w fun e w' => ∃ v', e = .returned (.agg #[.int .i64 x.kind, v', .int .i64 x.mn, .int .i64 x.mx]) ∧ IntsAt w.heap.size w'.heap.size w' v' x.set ∧ Below w.heap.size w w' := by
  obtain ⟨a, cap, rfl, hl, hr, hc⟩ := id hv
  go_enter Tryd.func41, Tryd.ntmps41
  go_wp2_with fail
  refine (toIntS_any _ x.set _ (by exact hv.below (below3 w _ _ _) (Nat.le_refl _)) hlen).mono ?_
  rintro e w1 ⟨v', rfl, hv', hb1⟩
  obtain ⟨hc1, hf1⟩ := bcell hb1
  simp only [sz_alloc] at hc1 hf1
  have hz := hb1.size
  simp only [sz_alloc] at hz
  obtain ⟨a', cap', rfl, -, -, -⟩ := id hv'
  go_wp2
  refine bodyPost_ret (v := .agg #[.int .i64 x.kind, .slice a' x.set.length cap', .int .i64 x.mn, .int .i64 x.mx]) (by simp [results, Tryd.results41, go_sem, hc1]) rfl ⟨_, rfl, ?_, ?_⟩
  · have hs : Same (w.heap.size + 1 + 1 + 1) w1.heap.size w1 w1 := Same.refl _ _ _
    refine ((hv'.mono (lo' := w.heap.size + 1 + 1 + 1) (by rw [sz_alloc, sz_alloc, sz_alloc]; omega) (Nat.le_refl _)).same (((((((hs.setCell (Or.inl (by omega)) _).setCell (Or.inl (by omega)) _).setCell (Or.inl (by omega)) _).setCell (Or.inl (by omega)) _).setCell (Or.inl (by omega)) _).setCell (Or.inl (by omega)) _).setCell (Or.inl (by omega)) _)).mono (by omega) (by simp only [sz_put]; omega)
  · have hb0 : Below w.heap.size w w1 := (below3 w _ _ _).trans (hb1.mono (by rw [sz_alloc, sz_alloc, sz_alloc]; omega))
    exact bput (bput (bput (bput (bput (bput (bput hb0 (by omega) _) (by omega) _) (by omega) _) (by omega) _) (by omega) _) (by omega) _) (by omega) _

end Go.Proofs.YtijejbdpagbmpaaDoor

namespace Go.Proofs.YtijejbdpagbmpaaDoor
open Go.RowKit

theorem ElAt.below {lo n m b o : Nat} {w w' : World} {x : El} (h : ElAt lo n w b o x) (hb : Below m w w') (hm : n ≤ m) (hbm : b < m) : ElAt lo n w' b o x := by
  obtain ⟨i1, i2, i3, v, c0, c1, c2, c3, hi⟩ := h
  refine ⟨i1, i2, i3, v, ?_, ?_, ?_, ?_, hi.same (Same.of_below hb hm)⟩ <;> rw [hb.cell (by exact hbm)] <;> assumption

theorem ElAt.put {lo n b o b' o' : Nat} {w : World} {x : El} {u : Value} (h : ElAt lo n w b o x) (hne : b' ≠ b ∨ o' < o ∨ o + 3 < o') (hlo : b' < lo) : ElAt lo n (w.setCell ⟨b', o', none⟩ u) b o x := by
  obtain ⟨i1, i2, i3, v, c0, c1, c2, c3, hi⟩ := h
  have key : ∀ q, q ≤ 3 → (w.setCell ⟨b', o', none⟩ u).cell? ⟨b, o + q, none⟩ = w.cell? ⟨b, o + q, none⟩ := by
    intro q hq
    apply World.cell?_setCell_other
    intro e
    simp only [Addr.mk.injEq] at e
    omega
  refine ⟨i1, i2, i3, v, ?_, ?_, ?_, ?_, hi.same ((Same.refl lo n w).setCell (Or.inl hlo) u)⟩
  · exact (key 0 (by omega)).trans c0
  · exact (key 1 (by omega)).trans c1
  · exact (key 2 (by omega)).trans c2
  · exact (key 3 (by omega)).trans c3

theorem els_step {w1 : World} {N n k : Nat} {x : El} {vs : Value} {xs : List El} {f : Nat → Value} (hrow : w1.rowIs N 44 (n * 4) f) (hk : k < n)
    (hold : ∀ j : Nat, j < k → ElAt (N + 1) w1.heap.size w1 N (j * 4) (xs[j]?.getD dE)) (hv : IntsAt (N + 1) w1.heap.size w1 vs x.set) (i1 : In64 x.kind) (i2 : In64 x.mn) (i3 : In64 x.mx) (hX : xs[k]?.getD dE = x) (w2 : World)
    (hw : w2 = (((w1.setCell ⟨N, k * 4, none⟩ (.int .i64 x.kind)).setCell ⟨N, k * 4 + 1, none⟩ vs).setCell ⟨N, k * 4 + 2, none⟩ (.int .i64 x.mn)).setCell ⟨N, k * 4 + 3, none⟩ (.int .i64 x.mx)) :
    (∃ f, w2.rowIs N 44 (n * 4) f) ∧ ∀ j : Nat, j < k + 1 → ElAt (N + 1) w2.heap.size w2 N (j * 4) (xs[j]?.getD dE) := by
  subst hw
  have hr := (((hrow.set (k * 4) (.int .i64 x.kind)).set (k * 4 + 1) vs).set (k * 4 + 2) (.int .i64 x.mn)).set (k * 4 + 3) (.int .i64 x.mx)
  refine ⟨⟨_, hr⟩, fun j hj => ?_⟩
  simp only [sz_put]
  by_cases e : j = k
  · subst e
    rw [hX]
    refine ⟨i1, i2, i3, vs, ?_, ?_, ?_, ?_, hv.same (((((Same.refl _ _ _).setCell (Or.inl (by omega)) _).setCell (Or.inl (by omega)) _).setCell (Or.inl (by omega)) _).setCell (Or.inl (by omega)) _)⟩
    · rw [hr.cell (by omega)]; simp
    · rw [hr.cell (by omega)]; simp
    · rw [hr.cell (by omega)]; simp
    · rw [hr.cell (by omega)]; simp
  · exact ((((hold j (by omega)).put (Or.inr (by omega)) (by omega)).put (Or.inr (by omega)) (by omega)).put (Or.inr (by omega)) (by omega)).put (Or.inr (by omega)) (by omega)

theorem row_start (w : World) (c : Array Value) (n : Nat) (h : c.size = n) : ∃ f, (w.alloc (.cells c 44)).rowIs w.heap.size 44 n f := by
  subst h
  exact ⟨fun i => c[i]?.getD undef, World.rowIs_alloc w c 44 _ (fun i hi => by rw [Array.getElem?_eq_getElem hi]; rfl)⟩

theorem run_make_els (n : Nat) (h : n ≤ 1048576) (w : World) :
    (Instr.makeSlice 31 (.int .i64 (n : Int)) (.int .i64 (n : Int))).run Tryd.prog w = .ok (.slice (some ⟨w.heap.size, 0, none⟩) n n) (w.alloc (.cells (madeCells #[.int .i64 0, .slice none 0 0, .int .i64 0, .int .i64 0] (n * 4)) 44)) := by
  obtain ⟨i, hi, hzz⟩ := Option.map_eq_some_iff.1 Tryd.info44
  simp only [Prod.mk.injEq] at hzz
  obtain ⟨hz, hs, hb⟩ := hzz
  have hr := run_make (P := Tryd.prog) w 31 44 i _ Tryd.underlying31 hi hz .i64 .i64 n n (by omega) (Int.le_refl _) (by rw [hb]; omega) (by omega)
  simpa only [Int.toNat_natCast, hs, Value.cells] using hr

set_option maxHeartbeats 400000 in
set_option maxRecDepth 100000 in
theorem toOpS_any (v : Value) (xs : List El) (w : World) (hv : ElsAt 0 w.heap.size w v xs) (hlen : xs.length ≤ 1048576) (hset : ∀ i : Nat, (xs[i]?.getD dE).set.length ≤ 1048576) :
    Calls Tryd.prog 19 #[v] w fun e w' => ∃ v', e = .returned v' ∧ ElsAt w.heap.size w'.heap.size w' v' xs ∧ Below w.heap.size w w' := by
  obtain ⟨a, cap, rfl, hl, hc⟩ := hv
  have hmk := run_make_els xs.length hlen
  go_enter Tryd.func19, Tryd.ntmps19
  go_wp2
  go_loopw [4] (fun i wr => ∃ k : Nat, k ≤ xs.length ∧ i = .int .i64 k ∧ (∃ f, wr.rowIs w.heap.size 44 (xs.length * 4) f) ∧ (∀ j : Nat, j < k → ElAt (w.heap.size + 1) wr.heap.size wr w.heap.size (j * 4) (xs[j]?.getD dE)) ∧ Below w.heap.size w wr) (fun i _ => xs.length - (intOf i).toNat)
  case atStart =>
    exact ⟨0, Nat.zero_le _, rfl, row_start w _ _ (size_madeCells _ _), by intro j hj; omega, below1 w _⟩
  case round =>
    obtain ⟨k, hk, rfl, ⟨f, hrow⟩, hels, hb⟩ := hrel
    by_cases hlt : k < xs.length
    · obtain ⟨b, off, rfl, -, hbn, hel⟩ := hc (by omega)
      obtain ⟨i1, i2, i3, v, c0, c1, c2, c3, hints⟩ := (hel k hlt).same (Same.of_below hb (Nat.le_refl _)) (Nat.zero_le _) hbn
      have hsk := hset k
      generalize hX : xs[k]?.getD dE = x at *
      have HX := hide hX
      have hlt' : (k : Int) < (xs.length : Int) := by omega
      have hrow' := hide hrow
      have hels' := hide hels
      clear hmk hX hrow hels
      obtain ⟨a', cap', rfl, -, -, -⟩ := id hints
      go_wp2_with fail
      refine (toOp_any _ x _ (hints.mono (Nat.le_refl _) hb.size) hsk).mono ?_
      rintro e w1 ⟨v', rfl, hv', hb1⟩
      have hrow := (unhide hrow').of_block (hb1.block _ (unhide hrow').lt)
      have hNw := (unhide hrow').lt
      have d0 := hrow.cell (i := k * 4) (by omega)
      have d1 := hrow.cell (i := k * 4 + 1) (by omega)
      have d2 := hrow.cell (i := k * 4 + 2) (by omega)
      have d3 := hrow.cell (i := k * 4 + 3) (by omega)
      have e0 := hrow.frozen (k * 4)
      have e1 := hrow.frozen (k * 4 + 1)
      have e2 := hrow.frozen (k * 4 + 2)
      have e3 := hrow.frozen (k * 4 + 3)
      have hrow1 := hide hrow
      clear hrow
      obtain ⟨a2, cap2, rfl, -, -, -⟩ := id hv'
      go_wp2
      have hst := els_step (xs := xs) (unhide hrow1) hlt (fun j hj => ((unhide hels' j hj).below hb1 (Nat.le_refl _) hNw).mono (Nat.le_refl _) hb1.size) (hv'.mono (by omega) (Nat.le_refl _)) i1 i2 i3 (unhide HX) _ rfl
      exact ⟨⟨k + 1, by omega, by go_num, hst.1, hst.2, bput (bput (bput (bput (hb.trans (hb1.mono hb.size)) (Nat.le_refl _) _) (Nat.le_refl _) _) (Nat.le_refl _) _) (Nat.le_refl _) _⟩, by simp [intOf]; omega⟩
    · obtain rfl : k = xs.length := by omega
      have hrow' := hide hrow
      have hels' := hide hels
      clear hmk hrow hels
      go_wp2
      go_ret
      exact ⟨_, rfl, ⟨some ⟨w.heap.size, 0, none⟩, xs.length, rfl, ⟨Nat.le_refl _, by unfold maxLen; omega⟩, fun _ => ⟨w.heap.size, 0, rfl, Nat.le_refl _, (unhide hrow').lt, fun i hi => by rw [Nat.zero_add]; exact (unhide hels' i hi).mono (by omega) (Nat.le_refl _)⟩⟩, hb⟩

set_option maxHeartbeats 400000 in
theorem toPattern_any (l r : Bool) (v : Value) (xs : List El) (w : World) (hv : ElsAt 0 w.heap.size w v xs) (hlen : xs.length ≤ 1048576) (hset : ∀ i : Nat, (xs[i]?.getD dE).set.length ≤ 1048576) :
    Calls Tryd.prog 6 #[.agg #[.bool l, .bool r, v]] w fun e w' => ∃ v', e = .returned (.agg #[.bool l, .bool r, v']) ∧ ElsAt w.heap.size w'.heap.size w' v' xs ∧ Below w.heap.size w w' := by
  obtain ⟨a, cap, rfl, -, -⟩ := id hv
  go_enter Tryd.func6, Tryd.ntmps6
  go_wp2_with fail
  refine (toOpS_any _ xs _ (by exact hv.below (below3 w _ _ _) (Nat.le_refl _)) hlen hset).mono ?_
  rintro e w1 ⟨v', rfl, hv', hb1⟩
  obtain ⟨hc1, hf1⟩ := bcell hb1
  simp only [sz_alloc] at hc1 hf1
  have hz := hb1.size
  simp only [sz_alloc] at hz
  obtain ⟨a', cap', rfl, -, -⟩ := id hv'
  go_wp2
  refine bodyPost_ret (v := .agg #[.bool l, .bool r, .slice a' xs.length cap']) (by simp [results, Tryd.results6, go_sem, hc1]) rfl ⟨_, rfl, ?_, ?_⟩
  · have hs : Same (w.heap.size + 1 + 1 + 1) w1.heap.size w1 w1 := Same.refl _ _ _
    exact ((hv'.mono (lo' := w.heap.size + 1 + 1 + 1) (by rw [sz_alloc, sz_alloc, sz_alloc]; omega) (Nat.le_refl _)).same ((((hs.setCell (Or.inl (by omega)) _).setCell (Or.inl (by omega)) _).setCell (Or.inl (by omega)) _).setCell (Or.inl (by omega)) _)).mono (by omega) (by simp only [sz_put]; omega)
  · have hb0 : Below w.heap.size w w1 := (below3 w _ _ _).trans (hb1.mono (by rw [sz_alloc, sz_alloc, sz_alloc]; omega))
    exact bput (bput (bput (bput hb0 (by omega) _) (by omega) _) (by omega) _) (by omega) _

end Go.Proofs.YtijejbdpagbmpaaDoor

namespace Go.Proofs.YtijejbdpagbmpaaDoor
open Go.RowKit

/-- Nothing of the block is frozen. -/
def Unf (w : World) (b : Nat) : Prop := ∃ c t, w.heap[b]? = some (.cells c t (0, 0))
theorem Unf.same {w w' : World} {b : Nat} (h : Unf w b) (e : w'.heap[b]? = w.heap[b]?) : Unf w' b := by
  obtain ⟨c, t, hb⟩ := h
  exact ⟨c, t, e.trans hb⟩

/-- The four cells of an element, its set the value sv. -/
def El4 (w : World) (b o : Nat) (x : El) (sv : Value) : Prop :=
  w.cell? ⟨b, o, none⟩ = some (.int .i64 x.kind) ∧ w.cell? ⟨b, o + 1, none⟩ = some sv ∧ w.cell? ⟨b, o + 2, none⟩ = some (.int .i64 x.mn) ∧ w.cell? ⟨b, o + 3, none⟩ = some (.int .i64 x.mx)
theorem El4.same {w w' : World} {b o : Nat} {x : El} {sv : Value} (h : El4 w b o x sv) (e : w'.heap[b]? = w.heap[b]?) : El4 w' b o x sv := by
  obtain ⟨h0, h1, h2, h3⟩ := h
  refine ⟨?_, ?_, ?_, ?_⟩ <;> rw [World.cell?_of_block (w := w) (by exact e)] <;> assumption
theorem El4.put {w : World} {b o o' : Nat} {x : El} {sv u : Value} (h : El4 w b o x sv) (hne : o' < o ∨ o + 3 < o') : El4 (w.setCell ⟨b, o', none⟩ u) b o x sv := by
  obtain ⟨h0, h1, h2, h3⟩ := h
  refine ⟨?_, ?_, ?_, ?_⟩ <;> rw [put_other (Or.inr (by omega))] <;> assumption

/-- v is a slice of elements, xs, that owns all its memory: the row of the elements and a row for each set, all apart. -/
def ElsW (lo n : Nat) (w : World) (v : Value) (xs : List El) : Prop :=
  ∃ a cap, v = .slice a xs.length cap ∧ (xs.length ≤ cap ∧ cap ≤ maxLen) ∧ (0 < xs.length → ∃ (b off : Nat) (sv : Nat → Value) (sb : Nat → Nat), a = some ⟨b, off, none⟩ ∧ lo ≤ b ∧ b < n ∧ Unf w b ∧
    (∀ i : Nat, i < xs.length → El4 w b (off + i * 4) (xs[i]?.getD dE) (sv i)) ∧ (∀ i : Nat, i < xs.length → lo ≤ sb i ∧ sb i < n ∧ sb i ≠ b) ∧
    (∀ i j : Nat, i < xs.length → j < xs.length → i ≠ j → sb i ≠ sb j) ∧ ∀ i : Nat, i < xs.length → SlW mI 0 (sb i) (sb i + 1) w (sv i) (xs[i]?.getD dE).set)

theorem ElsW.same {lo n : Nat} {w w' : World} {v : Value} {xs : List El} (h : ElsW lo n w v xs) (hs : SameB lo n w w') : ElsW lo n w' v xs := by
  obtain ⟨a, cap, rfl, hl, hc⟩ := h
  refine ⟨a, cap, rfl, hl, fun hp => ?_⟩
  obtain ⟨b, off, sv, sb, e, h1, h2, h3, h4, h5, h6, h7⟩ := hc hp
  exact ⟨b, off, sv, sb, e, h1, h2, h3.same (hs b h1 h2), fun i hi => (h4 i hi).same (hs b h1 h2), h5, h6, fun i hi => (h7 i hi).same (fun k k1 k2 => hs k (by have := h5 i hi; omega) (by have := h5 i hi; omega))⟩
theorem ElsW.mono {lo n lo' n' : Nat} {w : World} {v : Value} {xs : List El} (h : ElsW lo n w v xs) (k1 : lo' ≤ lo) (k2 : n ≤ n') : ElsW lo' n' w v xs := by
  obtain ⟨a, cap, rfl, hl, hc⟩ := h
  refine ⟨a, cap, rfl, hl, fun hp => ?_⟩
  obtain ⟨b, off, sv, sb, e, h1, h2, h3, h4, h5, h6, h7⟩ := hc hp
  exact ⟨b, off, sv, sb, e, by omega, by omega, h3, h4, fun i hi => by have := h5 i hi; omega, h6, h7⟩

theorem SlW.keep' {α : Type} {mk : α → Value} {d : α} {lo n m : Nat} {w w' : World} {v : Value} {xs : List α} (h : SlW mk d lo n w v xs) (hb : Below m w w') (hn : n ≤ m) : SlW mk d lo n w' v xs := h.same (SameB.of_below hb hn)

theorem SlW.pin {α : Type} {mk : α → Value} {d : α} {lo n : Nat} {w : World} {v : Value} {xs : List α} (h : SlW mk d lo n w v xs) (hlt : lo < n) : ∃ b, lo ≤ b ∧ b < n ∧ SlW mk d b (b + 1) w v xs := by
  obtain ⟨a, cap, rfl, hl, hc⟩ := h
  by_cases hp : 0 < xs.length
  · obtain ⟨b, off, rfl, h1, h2, h3, h4⟩ := hc hp
    exact ⟨b, h1, h2, _, cap, rfl, hl, fun _ => ⟨b, off, rfl, Nat.le_refl _, by omega, h3, h4⟩⟩
  · exact ⟨lo, Nat.le_refl _, hlt, a, cap, rfl, hl, fun k => absurd k hp⟩

/-- It reads as elements, wherever it lies. -/
theorem ElsW.at {lo n : Nat} {w : World} {v : Value} {xs : List El} (h : ElsW lo n w v xs) (hr : ∀ i : Nat, i < xs.length → In64 (xs[i]?.getD dE).kind ∧ In64 (xs[i]?.getD dE).mn ∧ In64 (xs[i]?.getD dE).mx ∧ ∀ j : Nat, In64 ((xs[i]?.getD dE).set[j]?.getD 0)) : ElsAt lo n w v xs := by
  obtain ⟨a, cap, rfl, hl, hc⟩ := h
  refine ⟨a, cap, rfl, hl, fun hp => ?_⟩
  obtain ⟨b, off, sv, sb, e, h1, h2, h3, h4, h5, h6, h7⟩ := hc hp
  refine ⟨b, off, e, h1, h2, fun i hi => ?_⟩
  obtain ⟨r1, r2, r3, r4⟩ := hr i hi
  obtain ⟨q0, q1, q2, q3⟩ := h4 i hi
  refine ⟨r1, r2, r3, sv i, q0, q1, q2, q3, ?_⟩
  obtain ⟨a', cap', e', hl', hc'⟩ := h7 i hi
  refine ⟨a', cap', e', hl', r4, fun hp' => ?_⟩
  obtain ⟨b', off', e2, k1, k2, -, k4⟩ := hc' hp'
  exact ⟨b', off', e2, by have := h5 i hi; omega, by have := h5 i hi; omega, k4⟩

set_option maxHeartbeats 400000 in
theorem toOp_w (v : Value) (x : El) (w : World) (hv : SlAt mI 0 0 w.heap.size w v x.set) (hlen : x.set.length ≤ 1048576) :
    Calls Tryd.prog 41 #[.agg #[.int .i64 x.kind, v, .int .i64 x.mn, .int .i64 x.mx]] w fun e w' => ∃ v', e = .returned (.agg #[.int .i64 x.kind, v', .int .i64 x.mn, .int .i64 x.mx]) ∧ SlW mI 0 w.heap.size w'.heap.size w' v' x.set ∧ Below w.heap.size w w' ∧ w.heap.size < w'.heap.size := by
  obtain ⟨a, cap, rfl, hl, hc⟩ := id hv
  go_enter Tryd.func41, Tryd.ntmps41
  go_wp2_with fail
  refine (toIntS_w _ x.set _ (by exact hv.below (below3 w _ _ _) (Nat.le_refl _)) hlen).mono ?_
  rintro e w1 ⟨v', rfl, hv', hb1⟩
  obtain ⟨hc1, hf1⟩ := bcell hb1
  simp only [sz_alloc] at hc1 hf1
  have hz := hb1.size
  simp only [sz_alloc] at hz
  obtain ⟨a', cap', rfl, -, -⟩ := id hv'
  go_wp2
  refine bodyPost_ret (v := .agg #[.int .i64 x.kind, .slice a' x.set.length cap', .int .i64 x.mn, .int .i64 x.mx]) (by simp [results, Tryd.results41, go_sem, hc1]) rfl ⟨_, rfl, ?_, ?_, by simp only [sz_put]; omega⟩
  · refine ((hv'.mono (lo' := w.heap.size + 1 + 1 + 1) (by rw [sz_alloc, sz_alloc, sz_alloc]; omega) (Nat.le_refl _)).same (SameB.put (SameB.put (SameB.put (SameB.put (SameB.put (SameB.put (SameB.put (SameB.refl _ _ _) (Or.inl (by omega)) _) (Or.inl (by omega)) _) (Or.inl (by omega)) _) (Or.inl (by omega)) _) (Or.inl (by omega)) _) (Or.inl (by omega)) _) (Or.inl (by omega)) _)).mono (by omega) (by simp only [sz_put]; omega)
  · have hb0 : Below w.heap.size w w1 := (below3 w _ _ _).trans (hb1.mono (by rw [sz_alloc, sz_alloc, sz_alloc]; omega))
    exact bput (bput (bput (bput (bput (bput (bput hb0 (by omega) _) (by omega) _) (by omega) _) (by omega) _) (by omega) _) (by omega) _) (by omega) _

end Go.Proofs.YtijejbdpagbmpaaDoor
