import Derived.Test.YtjjmgegbeccjoaaB0
import Derived.Deep.OwnRows
namespace Go.Proofs.Ytjjmgegbeccjoaa
open Go.RowKit

/-- What is left behind a list of n values: -1 where it does not reach. -/
def szR (left n : Int) : Int := if left < n then -1 else left - n

theorem szR_neg {left n : Int} (h : left < n) : szR left n = -1 := by unfold szR; rw [if_pos h]
theorem szR_pos {left n : Int} (h : n ≤ left) : szR left n = left - n := by unfold szR; rw [if_neg (by omega)]

/-- How many values a list of elements holds: the elements and the numbers of their sets. -/
def bulk : List El → Nat
  | [] => 0
  | x :: r => x.set.length + bulk r

theorem bulk_take_succ (xs : List El) (k : Nat) (h : k < xs.length) : bulk (xs.take (k + 1)) = bulk (xs.take k) + (xs[k]?.getD dE).set.length := by
  induction xs generalizing k with
  | nil => simp at h
  | cons x r ih =>
    cases k with
    | zero => simp [bulk]
    | succ k => simp only [List.take_succ_cons, bulk, List.getElem?_cons_succ]; rw [ih k (by simpa using h)]; omega


theorem Try.info3 : (Try.prog.info? 3).map (fun i => (i.zero, i.size, i.bytes)) = some (some (.int .i64 0), 1, 8) := by kernel_rfl
theorem Try.info71 : (Try.prog.info? 71).map (fun i => (i.zero, i.size, i.bytes)) = some (some (.agg #[.int .i64 0, .slice none 0 0, .int .i64 0, .int .i64 0]), 4, 48) := by kernel_rfl


theorem ElAt.below {lo n m b o : Nat} {w w' : World} {x : El} (h : ElAt lo n w b o x) (hb : Below m w w') (hm : n ≤ m) (hbm : b < m) : ElAt lo n w' b o x := by
  obtain ⟨i1, i2, i3, v, c0, c1, c2, c3, hi⟩ := h
  refine ⟨i1, i2, i3, v, ?_, ?_, ?_, ?_, hi.same (Same.of_below hb hm)⟩ <;> rw [hb.cell (by exact hbm)] <;> assumption

theorem ElAt.put {lo n b o b' o' : Nat} {w : World} {x : El} {u : Value} (h : ElAt lo n w b o x) (hne : b' ≠ b ∨ o' < o ∨ o + 3 < o') (hlo : b' < lo) : ElAt lo n (w.setCell ⟨b', o', none⟩ u) b o x := by
  obtain ⟨i1, i2, i3, v, c0, c1, c2, c3, hi⟩ := h
  have key : ∀ q, q ≤ 3 → (w.setCell ⟨b', o', none⟩ u).cell? ⟨b, o + q, none⟩ = w.cell? ⟨b, o + q, none⟩ := by
    intro q hq
    apply World.cell?_setCell_other
    intro e
    simp only [Addr.mk.injEq] at e
    omega
  refine ⟨i1, i2, i3, v, ?_, ?_, ?_, ?_, hi.same ((Same.refl lo n w).setCell (Or.inl hlo) u)⟩
  · exact (key 0 (by omega)).trans c0
  · exact (key 1 (by omega)).trans c1
  · exact (key 2 (by omega)).trans c2
  · exact (key 3 (by omega)).trans c3

theorem els_step {w1 : World} {N n k : Nat} {x : El} {vs : Value} {xs : List El} {f : Nat → Value} (hrow : w1.rowIs N 71 (n * 4) f) (hk : k < n)
    (hold : ∀ j : Nat, j < k → ElAt (N + 1) w1.heap.size w1 N (j * 4) (xs[j]?.getD dE)) (hv : IntsAt (N + 1) w1.heap.size w1 vs x.set) (i1 : In64 x.kind) (i2 : In64 x.mn) (i3 : In64 x.mx) (hX : xs[k]?.getD dE = x) (w2 : World)
    (hw : w2 = (((w1.setCell ⟨N, k * 4, none⟩ (.int .i64 x.kind)).setCell ⟨N, k * 4 + 1, none⟩ vs).setCell ⟨N, k * 4 + 2, none⟩ (.int .i64 x.mn)).setCell ⟨N, k * 4 + 3, none⟩ (.int .i64 x.mx)) :
    (∃ f, w2.rowIs N 71 (n * 4) f) ∧ ∀ j : Nat, j < k + 1 → ElAt (N + 1) w2.heap.size w2 N (j * 4) (xs[j]?.getD dE) := by
  subst hw
  have hr := (((hrow.set (k * 4) (.int .i64 x.kind)).set (k * 4 + 1) vs).set (k * 4 + 2) (.int .i64 x.mn)).set (k * 4 + 3) (.int .i64 x.mx)
  refine ⟨⟨_, hr⟩, fun j hj => ?_⟩
  simp only [sz_put]
  by_cases e : j = k
  · subst e
    rw [hX]
    refine ⟨i1, i2, i3, vs, ?_, ?_, ?_, ?_, hv.same (((((Same.refl _ _ _).setCell (Or.inl (by omega)) _).setCell (Or.inl (by omega)) _).setCell (Or.inl (by omega)) _).setCell (Or.inl (by omega)) _)⟩
    · rw [hr.cell (by omega)]; simp
    · rw [hr.cell (by omega)]; simp
    · rw [hr.cell (by omega)]; simp
    · rw [hr.cell (by omega)]; simp
  · exact ((((hold j (by omega)).put (Or.inr (by omega)) (by omega)).put (Or.inr (by omega)) (by omega)).put (Or.inr (by omega)) (by omega)).put (Or.inr (by omega)) (by omega)

theorem row_start (w : World) (c : Array Value) (n : Nat) (h : c.size = n) : ∃ f, (w.alloc (.cells c 71)).rowIs w.heap.size 71 n f := by
  subst h
  exact ⟨fun i => c[i]?.getD undef, World.rowIs_alloc w c 71 _ (fun i hi => by rw [Array.getElem?_eq_getElem hi]; rfl)⟩

theorem run_make_els (n : Nat) (h : n ≤ 1048576) (w : World) :
    (Instr.makeSlice 23 (.int .i64 (n : Int)) (.int .i64 (n : Int))).run Try.prog w = .ok (.slice (some ⟨w.heap.size, 0, none⟩) n n) (w.alloc (.cells (madeCells #[.int .i64 0, .slice none 0 0, .int .i64 0, .int .i64 0] (n * 4)) 71)) := by
  obtain ⟨i, hi, hzz⟩ := Option.map_eq_some_iff.1 Try.info71
  simp only [Prod.mk.injEq] at hzz
  obtain ⟨hz, hs, hb⟩ := hzz
  have hr := run_make (P := Try.prog) w 23 71 i _ Try.underlying23 hi hz .i64 .i64 n n (by omega) (Int.le_refl _) (by rw [hb]; omega) (by omega)
  simpa only [Int.toNat_natCast, hs, Value.cells] using hr

end Go.Proofs.Ytjjmgegbeccjoaa
