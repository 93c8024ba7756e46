import Derived.Test.YtinhliecfjlocaaGreatW1
namespace Go.Proofs.YtinhliecfjlocaaGreat
open Go.RowKit
def InP (xs : List Int) : Nat → Nat → Bool
  | 0, _ => false
  | m + 1, b => InP xs m b || decide (xs[2 * m]?.getD 0 ≤ (b : Int) ∧ (b : Int) ≤ xs[2 * m + 1]?.getD 0)
def WordsOf (xs : List Int) (g : Nat → Nat) : Prop := Fit g ∧ ∀ b : Nat, Bt g b = InP xs (xs.length / 2) b
theorem words_put {w1 : World} {N : Nat} {t : TypeId} {g : Nat → Nat} (h : w1.rowIs N t 4 (fun j => .int .u64 (g j : Nat))) (q : Nat → Nat) :
    ((((w1.setCell ⟨N, 0, none⟩ (.int .u64 (q 0 : Nat))).setCell ⟨N, 1, none⟩ (.int .u64 (q 1 : Nat))).setCell ⟨N, 2, none⟩ (.int .u64 (q 2 : Nat))).setCell ⟨N, 3, none⟩ (.int .u64 (q 3 : Nat))).rowIs N t 4 (fun j => .int .u64 (q j : Nat)) := by
  refine ((((h.set 0 _).set 1 _).set 2 _).set 3 _).congr ?_
  intro j hj
  match j, hj with
  | 0, _ => rfl
  | 1, _ => rfl
  | 2, _ => rfl
  | 3, _ => rfl
set_option maxHeartbeats 2000000 in
theorem setOf_w (v : Value) (xs : List Int) (w : World) (hv : IntsAt 0 w.heap.size w v xs) (hcn : Canon xs) :
    Calls Tryz.prog 101 #[v] w fun e w' => ∃ g : Nat → Nat, e = .returned (ws4 g) ∧ WordsOf xs g ∧ Below w.heap.size w w' := by
  obtain ⟨a, cap, rfl, hl, hr, hc⟩ := hv
  unfold maxLen at hl
  have Hcn := hide hcn
  clear hcn hr
  go_enter Tryz.func101, Tryz.ntmps101
  go_wp2
  go_loopw [4] (fun i wr => ∃ p : Nat, p ≤ xs.length ∧ p % 2 = 0 ∧ i = .int .i64 p ∧ (∃ g : Nat → Value, wr.rowIs w.heap.size 126 4 g) ∧ (∃ g : Nat → Nat, wr.rowIs (w.heap.size + 1) 126 4 (fun j => .int .u64 (g j : Nat)) ∧ Fit g ∧ ∀ b : Nat, Bt g b = InP xs (p / 2) b) ∧ Below w.heap.size w wr) (fun i _ => xs.length - (intOf i).toNat)
  case atStart =>
    refine ⟨0, Nat.zero_le _, rfl, rfl, ⟨_, (zero_row w 126).alloc _⟩, ⟨fun _ => 0, ?_, fun j => by show 0 < 18446744073709551616; omega, fun b => ?_⟩, below2 w _ _⟩
    · have h := zero_row (w.alloc (.cells #[.int .u64 0, .int .u64 0, .int .u64 0, .int .u64 0] 126)) 126
      rw [sz_alloc] at h; exact h
    · simp [Bt, InP]
  case round =>
    obtain ⟨p, hm, hp2, rfl, ⟨g2, hrow2⟩, ⟨g, hrow, hfit, hbt⟩, hb⟩ := hrel
    have hev := (unhide Hcn).1
    by_cases hlt2 : p < xs.length
    · obtain ⟨b, off, rfl, -, hbn, hcell⟩ := hc (by omega)
      have hx : wr.cell? ⟨b, off + p, none⟩ = some (.int .i64 (xs[p]?.getD 0)) := by rw [hb.cell (p := ⟨b, off + p, none⟩) hbn]; exact hcell _ hlt2
      have hy : wr.cell? ⟨b, off + (p + 1), none⟩ = some (.int .i64 (xs[p + 1]?.getD 0)) := by rw [hb.cell (p := ⟨b, off + (p + 1), none⟩) hbn]; exact hcell _ (by omega)
      have hlt2' : (p : Int) < (xs.length : Int) := by omega
      have hlt3' : (p : Int) + 1 < (xs.length : Int) := by omega
      have bx := ((unhide Hcn).2.1 (p) hlt2).1
      have byy := ((unhide Hcn).2.1 (p + 1) (by omega)).2
      have bxy : xs[p]?.getD 0 ≤ xs[p + 1]?.getD 0 := by
        have := ((unhide Hcn).2.2 (p / 2) (by omega)).1
        rwa [show 2 * (p / 2) = p by omega] at this
      have Hstep : Hid (∀ c : Nat, InP xs ((p + 2) / 2) c = (InP xs (p / 2) c || decide (xs[p]?.getD 0 ≤ (c : Int) ∧ (c : Int) ≤ xs[p + 1]?.getD 0))) := fun c => by
        rw [show (p + 2) / 2 = p / 2 + 1 by omega]
        simp only [InP]
        rw [show 2 * (p / 2) = p by omega]
      have Hbt := hide hbt
      have Hfit := hide hfit
      generalize xs[p]?.getD 0 = x at *
      generalize xs[p + 1]?.getD 0 = y at *
      have c0 := hrow.cell (i := 0) (by omega)
      have c1 := hrow.cell (i := 1) (by omega)
      have c2 := hrow.cell (i := 2) (by omega)
      have c3 := hrow.cell (i := 3) (by omega)
      have hN := hrow.lt
      have f0 := hrow.frozen 0
      have f1 := hrow.frozen 1
      have f2 := hrow.frozen 2
      have f3 := hrow.frozen 3
      have hrow' := hide hrow
      have hrow2' := hide hrow2
      clear hrow hrow2 hcell hbt hfit hc
      go_wp2
      have hw2 : IntKind.i64.wrap ((p : Int) + 1) = (p : Int) + 1 := by rw [IntKind.wrap_i64]; omega
      have hw1 : wrap64 ((p : Int) + 1) = (p : Int) + 1 := by unfold wrap64; omega
      go_region_with (go_at_call 133; refine (with_w g x y _ (unhide Hfit) bx byy bxy).mono ?_; rintro e w1 ⟨g', rfl, hg1, hg2, hb1⟩; unfold ws4; have hb2 : Below wr.heap.size wr w1 := ⟨hb1.os, hb1.tape, hb1.output, hb1.size, hb1.block⟩; have Hg1 := hide hg1; have Hg2 := hide hg2; clear hb1 hg1 hg2; have hc1 := (bcell hb2).1; have hf1 := (bcell hb2).2)
      all_goals
        clear hc1 hf1 c0 c1 c2 c3 f0 f1 f2 f3 hx hy
        go_wp2
        have hr1 := (unhide hrow').of_block (hb2.block _ hN)
        have hr2 := (unhide hrow2').of_block (hb2.block _ (unhide hrow2').lt)
        refine ⟨⟨p + 2, by omega, by omega, by go_num, ⟨g2, ?_⟩, ⟨g', words_put hr1 g', unhide Hg1, fun c => ?_⟩, ?_⟩, by simp [intOf]; omega⟩
        · exact (((hr2.setOther (by show w.heap.size ≠ w.heap.size + 1; omega) _).setOther (by show w.heap.size ≠ w.heap.size + 1; omega) _).setOther (by show w.heap.size ≠ w.heap.size + 1; omega) _).setOther (by show w.heap.size ≠ w.heap.size + 1; omega) _
        · rw [unhide Hg2 c, unhide Hstep c, unhide Hbt c]
        · exact bput (bput (bput (bput (hb.trans (hb2.mono hb.size)) (by omega) _) (by omega) _) (by omega) _) (by omega) _
    · have c0 := hrow.cell (i := 0) (by omega)
      have c1 := hrow.cell (i := 1) (by omega)
      have c2 := hrow.cell (i := 2) (by omega)
      have c3 := hrow.cell (i := 3) (by omega)
      have d0 := hrow2.cell (i := 0) (by omega)
      have d1 := hrow2.cell (i := 1) (by omega)
      have d2 := hrow2.cell (i := 2) (by omega)
      have d3 := hrow2.cell (i := 3) (by omega)
      have f0 := hrow2.frozen 0
      have f1 := hrow2.frozen 1
      have f2 := hrow2.frozen 2
      have f3 := hrow2.frozen 3
      obtain rfl : p = xs.length := by omega
      have Hbt := hide hbt
      have Hfit := hide hfit
      clear hrow hrow2 hbt hfit hc
      go_wp2
      refine bodyPost_ret (v := .agg #[.int .u64 (g 0 : Nat), .int .u64 (g 1 : Nat), .int .u64 (g 2 : Nat), .int .u64 (g 3 : Nat)]) (by simp [results, Tryz.results101, go_sem, d0, d1, d2, d3]) rfl ⟨g, rfl, ⟨unhide Hfit, unhide Hbt⟩, ?_⟩
      exact bput (bput (bput (bput hb (by omega) _) (by omega) _) (by omega) _) (by omega) _
end Go.Proofs.YtinhliecfjlocaaGreat
