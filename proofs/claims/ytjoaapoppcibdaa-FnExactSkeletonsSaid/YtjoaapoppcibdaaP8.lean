import Derived.Test.YtjoaapoppcibdaaP7
import Derived.RegionTactic
import Derived.BigRegion
import Derived.Deep.RegionWith
import Derived.Deep.OwnRows
import Derived.Laws.Bits64b
import Derived.Test.YtjoaapoppcibdaaP2
import Derived.Test.YtjoaapoppcibdaaP4
namespace Go.Proofs.Ytjoaapoppcibdaa
open Go.RowKit

/-- Four words. -/
def words (a b c d : Int) : Array Value := #[.int .u64 a, .int .u64 b, .int .u64 c, .int .u64 d]

set_option maxHeartbeats 1000000 in
theorem with_any (a b c d lo hi : Int) (w : World) (h0 : 0 ≤ lo) (h1 : hi ≤ 255) :
    Calls Try.prog 70 #[.agg #[.int .u64 a, .int .u64 b, .int .u64 c, .int .u64 d], .int .i64 lo, .int .i64 hi] w fun e w' =>
      (∃ a' b' c' d', e = .returned (.agg #[.int .u64 a', .int .u64 b', .int .u64 c', .int .u64 d'])) ∧ Below w.heap.size w w' := by
  go_enter Try.func70, Try.ntmps70
  go_wp2
  go_loopw [7] (fun i wr => ∃ x : Int, 0 ≤ x ∧ i = .int .i64 x ∧ (∃ g : Nat → Int, wr.rowIs w.heap.size 81 4 (fun j => .int .u64 (g j))) ∧ (∃ g : Nat → Value, wr.rowIs (w.heap.size + 1) 81 4 g) ∧ Below w.heap.size w wr) (fun i _ => (hi + 1 - intOf i).toNat)
  case atStart =>
    refine ⟨lo, h0, rfl, ⟨fun j => if j = 0 then a else if j = 1 then b else if j = 2 then c else d, ?_⟩, ⟨fun _ => .int .u64 0, ?_⟩, below2 w _ _⟩
    · refine World.rowIs.alloc (World.rowIs.congr (World.rowIs_alloc w #[.int .u64 a, .int .u64 b, .int .u64 c, .int .u64 d] 81 (fun j => .int .u64 (if j = 0 then a else if j = 1 then b else if j = 2 then c else d)) ?_) (fun _ _ => rfl)) _
      intro i hi
      match i, hi with
      | 0, _ => rfl
      | 1, _ => rfl
      | 2, _ => rfl
      | 3, _ => rfl
    · have h := World.rowIs_alloc (w.alloc (.cells #[.int .u64 a, .int .u64 b, .int .u64 c, .int .u64 d] 81)) #[.int .u64 0, .int .u64 0, .int .u64 0, .int .u64 0] 81 (fun _ => .int .u64 0) ?_
      · rw [sz_alloc] at h; exact h
      · intro i hi
        match i, hi with
        | 0, _ => rfl
        | 1, _ => rfl
        | 2, _ => rfl
        | 3, _ => rfl
  case round =>
    obtain ⟨x, hx0, rfl, ⟨g, hrow⟩, ⟨g2, hrow2⟩, hb⟩ := hrel
    obtain ⟨k, rfl⟩ := Int.eq_ofNat_of_zero_le hx0
    by_cases hlt : (k : Int) ≤ hi
    · have hk : k ≤ 255 := by omega
      have hq : k / 64 < 4 := by omega
      have c0 := hrow.cell hq
      have f0 := hrow.frozen (k / 64)
      have hq' : ((k / 64 : Nat) : Int) < 4 := by omega
      have hq2 : (k : Int) / 64 < 4 := by omega
      have hq3 : 0 ≤ (k : Int) / 64 := by omega
      have hrow' := hide hrow
      have hrow2' := hide hrow2
      clear hrow hrow2
      go_wp2
      go_region
      go_wp2
      generalize (bits BinOp.or IntKind.u64 (g (k / 64)) (IntKind.u64.wrap (2 ^ (k % 64)))) = z
      refine ⟨⟨(k : Int) + 1, by omega, rfl, ⟨fun j => if j = k / 64 then z else g j, ?_⟩, ⟨g2, ?_⟩, ?_⟩, by simp [intOf]; omega⟩
      · exact (((unhide hrow').set (k / 64) _).congr (fun j _ => by by_cases e : j = k / 64 <;> simp [e])).drew
      · exact ((unhide hrow2').setOther (by show w.heap.size + 1 ≠ w.heap.size; omega) _).drew
      · exact (bput hb (Nat.le_refl _) _).drew
    · have c0 := hrow.cell (i := 0) (by omega)
      have c1 := hrow.cell (i := 1) (by omega)
      have c2 := hrow.cell (i := 2) (by omega)
      have c3 := hrow.cell (i := 3) (by omega)
      have d0 := hrow2.cell (i := 0) (by omega)
      have d1 := hrow2.cell (i := 1) (by omega)
      have d2 := hrow2.cell (i := 2) (by omega)
      have d3 := hrow2.cell (i := 3) (by omega)
      have f0 := hrow2.frozen 0
      have f1 := hrow2.frozen 1
      have f2 := hrow2.frozen 2
      have f3 := hrow2.frozen 3
      clear hrow hrow2
      go_wp2
      refine bodyPost_ret (v := .agg #[.int .u64 (g 0), .int .u64 (g 1), .int .u64 (g 2), .int .u64 (g 3)]) (by simp [results, Try.results70, go_sem, d0, d1, d2, d3]) rfl ⟨⟨_, _, _, _, rfl⟩, ?_⟩
      exact bput (bput (bput (bput hb (by omega) _) (by omega) _) (by omega) _) (by omega) _

theorem words_step {w1 : World} {N : Nat} {g : Nat → Int} (h : w1.rowIs N 81 4 (fun j => .int .u64 (g j))) (a b c d : Int) :
    ∃ g' : Nat → Int, ((((w1.setCell ⟨N, 0, none⟩ (.int .u64 a)).setCell ⟨N, 1, none⟩ (.int .u64 b)).setCell ⟨N, 2, none⟩ (.int .u64 c)).setCell ⟨N, 3, none⟩ (.int .u64 d)).rowIs N 81 4 (fun j => .int .u64 (g' j)) := by
  refine ⟨fun j => if j = 3 then d else if j = 2 then c else if j = 1 then b else if j = 0 then a else g j, ((((h.set 0 _).set 1 _).set 2 _).set 3 _).congr ?_⟩
  intro j hj
  by_cases e3 : j = 3
  · simp [e3]
  · by_cases e2 : j = 2
    · simp [e2]
    · by_cases e1 : j = 1
      · simp [e1]
      · by_cases e0 : j = 0
        · simp [e0]
        · simp [e0, e1, e2, e3]

set_option maxHeartbeats 2000000 in
theorem setOf_any (v : Value) (xs : List Int) (w : World) (hv : IntsAt 0 w.heap.size w v xs) (hcn : Canon xs) :
    Calls Try.prog 61 #[v] w fun e w' =>
      (∃ a' b' c' d', e = .returned (.agg #[.int .u64 a', .int .u64 b', .int .u64 c', .int .u64 d'])) ∧ Below w.heap.size w w' := by
  obtain ⟨a, cap, rfl, hl, hr, hc⟩ := hv
  unfold maxLen at hl
  have Hcn := hide hcn
  clear hcn
  go_enter Try.func61, Try.ntmps61
  go_wp2
  go_loopw [4] (fun i wr => ∃ p : Nat, p ≤ xs.length ∧ p % 2 = 0 ∧ i = .int .i64 p ∧ (∃ g : Nat → Value, wr.rowIs w.heap.size 81 4 g) ∧ (∃ g : Nat → Int, wr.rowIs (w.heap.size + 1) 81 4 (fun j => .int .u64 (g j))) ∧ Below w.heap.size w wr) (fun i _ => xs.length - (intOf i).toNat)
  case atStart =>
    refine ⟨0, Nat.zero_le _, rfl, rfl, ⟨fun _ => .int .u64 0, ?_⟩, ⟨fun _ => 0, ?_⟩, below2 w _ _⟩
    · refine World.rowIs.alloc (World.rowIs.congr (World.rowIs_alloc w #[.int .u64 0, .int .u64 0, .int .u64 0, .int .u64 0] 81 (fun _ => .int .u64 0) ?_) (fun _ _ => rfl)) _
      intro i hi
      match i, hi with
      | 0, _ => rfl
      | 1, _ => rfl
      | 2, _ => rfl
      | 3, _ => rfl
    · have h := World.rowIs_alloc (w.alloc (.cells #[.int .u64 0, .int .u64 0, .int .u64 0, .int .u64 0] 81)) #[.int .u64 0, .int .u64 0, .int .u64 0, .int .u64 0] 81 (fun _ => .int .u64 0) ?_
      · rw [sz_alloc] at h; exact h
      · intro i hi
        match i, hi with
        | 0, _ => rfl
        | 1, _ => rfl
        | 2, _ => rfl
        | 3, _ => rfl
  case round =>
    obtain ⟨p, hm, hp2, rfl, ⟨g2, hrow2⟩, ⟨g, hrow⟩, hb⟩ := hrel
    have hev := (unhide Hcn).1
    by_cases hlt2 : p < xs.length
    · obtain ⟨b, off, rfl, -, hbn, hcell⟩ := hc (by omega)
      have hx : wr.cell? ⟨b, off + p, none⟩ = some (.int .i64 (xs[p]?.getD 0)) := by rw [hb.cell (p := ⟨b, off + p, none⟩) hbn]; exact hcell _ hlt2
      have hy : wr.cell? ⟨b, off + (p + 1), none⟩ = some (.int .i64 (xs[p + 1]?.getD 0)) := by rw [hb.cell (p := ⟨b, off + (p + 1), none⟩) hbn]; exact hcell _ (by omega)
      have hlt2' : (p : Int) < (xs.length : Int) := by omega
      have hlt3' : (p : Int) + 1 < (xs.length : Int) := by omega
      have bx := ((unhide Hcn).2.1 (p) hlt2).1
      have byy := ((unhide Hcn).2.1 (p + 1) (by omega)).2
      generalize xs[p]?.getD 0 = x at *
      generalize xs[p + 1]?.getD 0 = y at *
      have c0 := hrow.cell (i := 0) (by omega)
      have c1 := hrow.cell (i := 1) (by omega)
      have c2 := hrow.cell (i := 2) (by omega)
      have c3 := hrow.cell (i := 3) (by omega)
      have hN := hrow.lt
      have f0 := hrow.frozen 0
      have f1 := hrow.frozen 1
      have f2 := hrow.frozen 2
      have f3 := hrow.frozen 3
      have hrow' := hide hrow
      have hrow2' := hide hrow2
      clear hrow hrow2 hcell
      go_wp2
      have hw2 : IntKind.i64.wrap ((p : Int) + 1) = (p : Int) + 1 := by rw [IntKind.wrap_i64]; omega
      have hw1 : wrap64 ((p : Int) + 1) = (p : Int) + 1 := by unfold wrap64; omega
      go_region_with (go_at_call 70; refine (with_any _ _ _ _ x y _ bx byy).mono ?_; rintro e w1 ⟨⟨a', b', c', d', rfl⟩, hb1⟩; have hb2 : Below wr.heap.size wr w1 := ⟨hb1.os, hb1.tape, hb1.output, hb1.size, hb1.block⟩; clear hb1; have hc1 := (bcell hb2).1; have hf1 := (bcell hb2).2)
      all_goals
        clear hc1 hf1 c0 c1 c2 c3 f0 f1 f2 f3 hx hy
        go_wp2
        have hr1 := (unhide hrow').of_block (hb2.block _ hN)
        have hr2 := (unhide hrow2').of_block (hb2.block _ (unhide hrow2').lt)
        refine ⟨⟨p + 2, by omega, by omega, by go_num, ⟨g2, ?_⟩, words_step hr1 _ _ _ _, ?_⟩, by simp [intOf]; omega⟩
        · exact (((hr2.setOther (by show w.heap.size ≠ w.heap.size + 1; omega) _).setOther (by show w.heap.size ≠ w.heap.size + 1; omega) _).setOther (by show w.heap.size ≠ w.heap.size + 1; omega) _).setOther (by show w.heap.size ≠ w.heap.size + 1; omega) _
        · exact bput (bput (bput (bput (hb.trans (hb2.mono hb.size)) (by omega) _) (by omega) _) (by omega) _) (by omega) _
    · have c0 := hrow.cell (i := 0) (by omega)
      have c1 := hrow.cell (i := 1) (by omega)
      have c2 := hrow.cell (i := 2) (by omega)
      have c3 := hrow.cell (i := 3) (by omega)
      have d0 := hrow2.cell (i := 0) (by omega)
      have d1 := hrow2.cell (i := 1) (by omega)
      have d2 := hrow2.cell (i := 2) (by omega)
      have d3 := hrow2.cell (i := 3) (by omega)
      have f0 := hrow2.frozen 0
      have f1 := hrow2.frozen 1
      have f2 := hrow2.frozen 2
      have f3 := hrow2.frozen 3
      clear hrow hrow2
      go_wp2
      refine bodyPost_ret (v := .agg #[.int .u64 (g 0), .int .u64 (g 1), .int .u64 (g 2), .int .u64 (g 3)]) (by simp [results, Try.results61, go_sem, d0, d1, d2, d3]) rfl ⟨⟨_, _, _, _, rfl⟩, ?_⟩
      exact bput (bput (bput (bput hb (by omega) _) (by omega) _) (by omega) _) (by omega) _

end Go.Proofs.Ytjoaapoppcibdaa

namespace Go.Proofs.Ytjoaapoppcibdaa
open Go.RowKit

/-- Four words, as numbers. -/
def ws4 (g : Nat → Nat) : Value := .agg #[.int .u64 (g 0 : Nat), .int .u64 (g 1 : Nat), .int .u64 (g 2 : Nat), .int .u64 (g 3 : Nat)]
/-- Is the byte b in the set? -/
def Bt (g : Nat → Nat) (b : Nat) : Bool := (g (b / 64)).testBit (b % 64)
def Fit (g : Nat → Nat) : Prop := ∀ j : Nat, g j < 18446744073709551616

theorem or_bit (a i : Nat) (ha : a < 18446744073709551616) (hi : i < 64) : bits .or .u64 (a : Int) (IntKind.u64.wrap (2 ^ i)) = ((a ||| 2 ^ i : Nat) : Int) := by
  have h1 : (2 : Nat) ^ i < 2 ^ 64 := Nat.pow_lt_pow_right (by omega) hi
  have h2 : IntKind.u64.wrap ((2 : Int) ^ i) = ((2 ^ i : Nat) : Int) := by
    rw [IntKind.wrap_u64, Int.natCast_pow]
    have : ((2 ^ i : Nat) : Int) < 18446744073709551616 := by omega
    rw [Int.natCast_pow] at this
    have h0 : (0 : Int) ≤ (2 : Int) ^ i := Int.pow_nonneg (by omega)
    exact Int.emod_eq_of_lt h0 this
  rw [h2]
  exact bits_or_u64_nat a (2 ^ i) ha (by omega)
theorem or_lt (a i : Nat) (ha : a < 18446744073709551616) (hi : i < 64) : a ||| 2 ^ i < 18446744073709551616 := by
  have h1 : (2 : Nat) ^ i < 2 ^ 64 := Nat.pow_lt_pow_right (by omega) hi
  have : a ||| 2 ^ i < 2 ^ 64 := Nat.or_lt_two_pow (by omega) h1
  omega

theorem bt_put (g : Nat → Nat) (k b : Nat) : Bt (fun j => if j = k / 64 then g (k / 64) ||| 2 ^ (k % 64) else g j) b = (Bt g b || decide (b = k)) := by
  unfold Bt
  by_cases e : b / 64 = k / 64
  · simp only [e, if_true, Nat.testBit_or, Nat.testBit_two_pow]
    congr 1
    by_cases e2 : k % 64 = b % 64
    · have : b = k := by omega
      simp [e2, this]
    · have : b ≠ k := fun h => e2 (by rw [h])
      simp [e2, this]
  · have : b ≠ k := fun h => e (by rw [h])
    simp [e, this]

theorem four_row (w : World) (t : TypeId) (g : Nat → Nat) : (w.alloc (.cells #[.int .u64 (g 0 : Nat), .int .u64 (g 1 : Nat), .int .u64 (g 2 : Nat), .int .u64 (g 3 : Nat)] t)).rowIs w.heap.size t 4 (fun j => .int .u64 (g j : Nat)) := by
  refine World.rowIs_alloc w #[.int .u64 (g 0 : Nat), .int .u64 (g 1 : Nat), .int .u64 (g 2 : Nat), .int .u64 (g 3 : Nat)] t (fun j => .int .u64 (g j : Nat)) ?_
  intro i hi
  match i, hi with
  | 0, _ => rfl
  | 1, _ => rfl
  | 2, _ => rfl
  | 3, _ => rfl
theorem zero_row (w : World) (t : TypeId) : (w.alloc (.cells #[.int .u64 0, .int .u64 0, .int .u64 0, .int .u64 0] t)).rowIs w.heap.size t 4 (fun j => .int .u64 ((fun _ => 0 : Nat → Nat) j : Nat)) := four_row w t (fun _ => 0)

set_option maxHeartbeats 1000000 in
theorem with_w (g : Nat → Nat) (lo hi : Int) (w : World) (hg : Fit g) (h0 : 0 ≤ lo) (h1 : hi ≤ 255) (h2 : lo ≤ hi) :
    Calls Try.prog 70 #[ws4 g, .int .i64 lo, .int .i64 hi] w fun e w' =>
      ∃ g' : Nat → Nat, e = .returned (ws4 g') ∧ Fit g' ∧ (∀ b : Nat, Bt g' b = (Bt g b || decide (lo ≤ (b : Int) ∧ (b : Int) ≤ hi))) ∧ Below w.heap.size w w' := by
  unfold ws4
  have Hg := hide hg
  clear hg
  go_enter Try.func70, Try.ntmps70
  go_wp2
  go_loopw [7] (fun i wr => ∃ x : Int, lo ≤ x ∧ x ≤ hi + 1 ∧ i = .int .i64 x ∧ (∃ q : Nat → Nat, wr.rowIs w.heap.size 81 4 (fun j => .int .u64 (q j : Nat)) ∧ Fit q ∧ ∀ b : Nat, Bt q b = (Bt g b || decide (lo ≤ (b : Int) ∧ (b : Int) < x))) ∧ (∃ g : Nat → Value, wr.rowIs (w.heap.size + 1) 81 4 g) ∧ Below w.heap.size w wr) (fun i _ => (hi + 1 - intOf i).toNat)
  case atStart =>
    refine ⟨lo, Int.le_refl _, by omega, rfl, ⟨g, (four_row w _ g).alloc _, unhide Hg, fun b => ?_⟩, ⟨fun j => .int .u64 ((fun _ => 0 : Nat → Nat) j : Nat), ?_⟩, below2 w _ _⟩
    · have : ¬ (lo ≤ (b : Int) ∧ (b : Int) < lo) := by omega
      simp [this]
    · have h := zero_row (w.alloc (.cells #[.int .u64 (g 0 : Nat), .int .u64 (g 1 : Nat), .int .u64 (g 2 : Nat), .int .u64 (g 3 : Nat)] 81)) 81
      rw [sz_alloc] at h; exact h
  case round =>
    obtain ⟨x, hx0, hx1, rfl, ⟨q, hrow, hfit, hbt⟩, ⟨g2, hrow2⟩, hb⟩ := hrel
    obtain ⟨k, rfl⟩ := Int.eq_ofNat_of_zero_le (show 0 ≤ x by omega)
    have Hbt := hide hbt
    have Hfit := hide hfit
    have hfk := hfit (k / 64)
    clear hbt hfit
    by_cases hlt : (k : Int) ≤ hi
    · have hk : k ≤ 255 := by omega
      have hq : k / 64 < 4 := by omega
      have c0 := hrow.cell hq
      have f0 := hrow.frozen (k / 64)
      have hq' : ((k / 64 : Nat) : Int) < 4 := by omega
      have hq2 : (k : Int) / 64 < 4 := by omega
      have hq3 : 0 ≤ (k : Int) / 64 := by omega
      have hrow' := hide hrow
      have hrow2' := hide hrow2
      have hor := or_bit (q (k / 64)) (k % 64) hfk (by omega)
      have hlt64 := or_lt (q (k / 64)) (k % 64) hfk (by omega)
      have Hor := hide hor
      clear hrow hrow2 hor
      go_wp2
      go_region
      go_wp2
      rw [unhide Hor]
      refine ⟨⟨(k : Int) + 1, by omega, by omega, rfl, ⟨fun j => if j = k / 64 then q (k / 64) ||| 2 ^ (k % 64) else q j, ?_, ?_, ?_⟩, ⟨g2, ?_⟩, ?_⟩, by simp [intOf]; omega⟩
      · exact (((unhide hrow').set (k / 64) _).congr (fun j _ => by by_cases e : j = k / 64 <;> simp [e])).drew
      · intro j
        by_cases e : j = k / 64
        · simp only [e, if_true]; exact hlt64
        · simp only [e, if_false]; exact unhide Hfit j
      · intro b
        rw [bt_put, unhide Hbt b, Bool.or_assoc]
        congr 1
        rw [← Bool.decide_or]
        exact decide_eq_decide.2 (by omega)
      · exact ((unhide hrow2').setOther (by show w.heap.size + 1 ≠ w.heap.size; omega) _).drew
      · exact (bput hb (Nat.le_refl _) _).drew
    · have c0 := hrow.cell (i := 0) (by omega)
      have c1 := hrow.cell (i := 1) (by omega)
      have c2 := hrow.cell (i := 2) (by omega)
      have c3 := hrow.cell (i := 3) (by omega)
      have d0 := hrow2.cell (i := 0) (by omega)
      have d1 := hrow2.cell (i := 1) (by omega)
      have d2 := hrow2.cell (i := 2) (by omega)
      have d3 := hrow2.cell (i := 3) (by omega)
      have f0 := hrow2.frozen 0
      have f1 := hrow2.frozen 1
      have f2 := hrow2.frozen 2
      have f3 := hrow2.frozen 3
      clear hrow hrow2
      go_wp2
      refine bodyPost_ret (v := .agg #[.int .u64 (q 0 : Nat), .int .u64 (q 1 : Nat), .int .u64 (q 2 : Nat), .int .u64 (q 3 : Nat)]) (by simp [results, Try.results70, go_sem, d0, d1, d2, d3]) rfl ⟨q, rfl, unhide Hfit, fun b => ?_, ?_⟩
      · rw [unhide Hbt b]
        congr 1
        rw [Bool.eq_iff_iff]
        simp only [Bool.and_eq_true, decide_eq_true_eq]
        omega
      · exact bput (bput (bput (bput hb (by omega) _) (by omega) _) (by omega) _) (by omega) _

end Go.Proofs.Ytjoaapoppcibdaa

namespace Go.Proofs.Ytjoaapoppcibdaa
open Go.RowKit

/-! The values of the nodes. -/
def eV : Value := .iface 77 (.agg #[])
def sV (g : Nat → Nat) : Value := .iface 83 (ws4 g)
def cV (u v : Value) : Value := .iface 87 (.agg #[u, v])
def aV (u v : Value) : Value := .iface 89 (.agg #[u, v])
def rV (u : Value) (mn mx : Int) : Value := .iface 91 (.agg #[u, .int .i64 mn, .int .i64 mx])

end Go.Proofs.Ytjoaapoppcibdaa

namespace Go.Proofs.Ytjoaapoppcibdaa
open Go.RowKit

theorem tb_ee (x : Value) (w : World) : Sem.run Try.prog (Instr.typeAssert (.iface 77 x) 44 77 true) w = .ok (.tuple #[x, .bool true]) w := by kernel_rfl
theorem tb_se (x : Value) (w : World) : Sem.run Try.prog (Instr.typeAssert (.iface 83 x) 44 77 true) w = .ok (.tuple #[.agg #[], .bool false]) w := by kernel_rfl
theorem tb_ss (x : Value) (w : World) : Sem.run Try.prog (Instr.typeAssert (.iface 83 x) 44 83 true) w = .ok (.tuple #[x, .bool true]) w := by kernel_rfl
theorem tb_ce (x : Value) (w : World) : Sem.run Try.prog (Instr.typeAssert (.iface 87 x) 44 77 true) w = .ok (.tuple #[.agg #[], .bool false]) w := by kernel_rfl
theorem tb_cs (x : Value) (w : World) : Sem.run Try.prog (Instr.typeAssert (.iface 87 x) 44 83 true) w = .ok (.tuple #[.agg #[.int .u64 0, .int .u64 0, .int .u64 0, .int .u64 0], .bool false]) w := by kernel_rfl
theorem tb_cc (x : Value) (w : World) : Sem.run Try.prog (Instr.typeAssert (.iface 87 x) 44 87 true) w = .ok (.tuple #[x, .bool true]) w := by kernel_rfl
theorem tb_ae (x : Value) (w : World) : Sem.run Try.prog (Instr.typeAssert (.iface 89 x) 44 77 true) w = .ok (.tuple #[.agg #[], .bool false]) w := by kernel_rfl
theorem tb_as (x : Value) (w : World) : Sem.run Try.prog (Instr.typeAssert (.iface 89 x) 44 83 true) w = .ok (.tuple #[.agg #[.int .u64 0, .int .u64 0, .int .u64 0, .int .u64 0], .bool false]) w := by kernel_rfl
theorem tb_ac (x : Value) (w : World) : Sem.run Try.prog (Instr.typeAssert (.iface 89 x) 44 87 true) w = .ok (.tuple #[.agg #[.nilIface, .nilIface], .bool false]) w := by kernel_rfl
theorem tb_aa (x : Value) (w : World) : Sem.run Try.prog (Instr.typeAssert (.iface 89 x) 44 89 true) w = .ok (.tuple #[x, .bool true]) w := by kernel_rfl
theorem tb_re (x : Value) (w : World) : Sem.run Try.prog (Instr.typeAssert (.iface 91 x) 44 77 true) w = .ok (.tuple #[.agg #[], .bool false]) w := by kernel_rfl
theorem tb_rs (x : Value) (w : World) : Sem.run Try.prog (Instr.typeAssert (.iface 91 x) 44 83 true) w = .ok (.tuple #[.agg #[.int .u64 0, .int .u64 0, .int .u64 0, .int .u64 0], .bool false]) w := by kernel_rfl
theorem tb_rc (x : Value) (w : World) : Sem.run Try.prog (Instr.typeAssert (.iface 91 x) 44 87 true) w = .ok (.tuple #[.agg #[.nilIface, .nilIface], .bool false]) w := by kernel_rfl
theorem tb_ra (x : Value) (w : World) : Sem.run Try.prog (Instr.typeAssert (.iface 91 x) 44 89 true) w = .ok (.tuple #[.agg #[.nilIface, .nilIface], .bool false]) w := by kernel_rfl
theorem tb_rr (x : Value) (w : World) : Sem.run Try.prog (Instr.typeAssert (.iface 91 x) 44 91 true) w = .ok (.tuple #[x, .bool true]) w := by kernel_rfl

/-- What skeletonsOf answers: new lists. -/
def SkP (w : World) (S : List (List Int)) (e : Ending) (w' : World) : Prop := ∃ lv ps c, e = .returned (.agg #[lv, .bool c]) ∧ LL mI 0 3 52 w.heap.size w' lv ps ∧ ps.map Cl.xs = S ∧ Below w.heap.size w w'
def SkV (u : Value) (S : List (List Int)) : Prop := (∃ T x, u = .iface T x) ∧ ∀ w, Calls Try.prog 20 #[u] w fun e w' => SkP w S e w'

theorem LL.belowput {base B o : Nat} {w : World} {v u : Value} {ps : List (Cl Int)} (h : LL mI 0 3 52 base w v ps) (hB : B < base) : LL mI 0 3 52 base (w.setCell ⟨B, o, none⟩ u) v ps := by
  refine ⟨⟨h.own.1, ?_⟩, fun p hp => (h.ok p hp).same (fun hp0 => Below.heap_setCell _ _ _ _ (by have := h.lo p hp hp0; show p.b ≠ B; omega)), h.lo, h.apart⟩
  rcases h.own.2 with q | ⟨g, cap, cur, e1, e2, e3, e4⟩
  · exact Or.inl q
  · exact Or.inr ⟨g, cap, cur, e1, e2, (Below.heap_setCell _ _ _ _ (by show g ≠ B; omega)).trans e3, e4⟩
theorem LL.base {b b' : Nat} {w : World} {v : Value} {ps : List (Cl Int)} (h : LL mI 0 3 52 b w v ps) (hl : b' ≤ b) : LL mI 0 3 52 b' w v ps := ⟨own_low h.own hl, h.ok, fun p hp h0 => Nat.le_trans hl (h.lo p hp h0), h.apart⟩

/-- The answer's box is filled. -/
theorem sk_fin {w w' : World} {R B : Nat} {lv : Value} {L S : List (List Int)} {ps : List (Cl Int)} {c : Bool} (hs : SkB B w' lv L ps c) (hw : Below w.heap.size w w') (hR : w.heap.size ≤ R) (hRB : R < B) (hS : CutR L S) : SkP w S (.returned (.agg #[lv, .bool c])) ((w'.setCell ⟨R, 0, none⟩ lv).setCell ⟨R, 1, none⟩ (.bool c)) :=
  ⟨lv, ps, c, rfl, ((hs.row.belowput (by omega)).belowput (by omega)).base (by omega), hs.add.cut.uniq hS, ⟨hw.os, hw.tape, hw.output, by rw [sz_put, sz_put]; exact hw.size, fun k hk => by rw [Below.heap_setCell _ _ _ _ (by show k ≠ R; omega), Below.heap_setCell _ _ _ _ (by show k ≠ R; omega)]; exact hw.block k hk⟩⟩

/-- Two empty boxes. -/
abbrev zS : Obj := .cells #[.slice none 0 0, .bool false] 48
theorem sk_start (w : World) : SkB (w.heap.size + 1) ((w.alloc zS).alloc zS) (.slice none 0 0) [] [] false ∧ Bx2 ((w.alloc zS).alloc zS) w.heap.size 48 (.slice none 0 0) (.bool false) ∧ Below w.heap.size w ((w.alloc zS).alloc zS) := by
  have h1 := Bx2.new (w.alloc zS) 48 (.slice none 0 0) (.bool false)
  rw [sz_alloc] at h1
  exact ⟨⟨h1, LL.nil, AddS.nil⟩, (Bx2.new w _ _ _).alloc _, below2 w _ _⟩

set_option maxHeartbeats 1000000 in
theorem SkV.e : SkV eV [[]] := by
  refine ⟨⟨_, _, rfl⟩, fun w => ?_⟩
  unfold eV
  have t1 := tb_ee
  obtain ⟨h1, h2, h3⟩ := sk_start w
  have H1 := hide h1
  have H2 := hide h2
  have H3 := hide h3
  clear h1 h2 h3
  go_enter Try.func20, Try.ntmps20
  go_wp2_with fail
  have H4 := hide ((unhide H1).keep (below1 _ (.cells #[] 77)) (Nat.le_refl _))
  have H5 := hide ((unhide H2).alloc (.cells #[] 77))
  have H6 := hide ((unhide H3).alloc (by rw [sz_alloc, sz_alloc]; omega) (.cells #[] 77))
  generalize (((w.alloc zS).alloc zS).alloc (.cells #[] 77)) = w2 at *
  refine (add_any (w.heap.size + 1) _ [] [] false ⟨.slice none 0 0, [], 0⟩ w2 (unhide H4) ⟨none, 0, rfl, ⟨Nat.le_refl _, Nat.zero_le _⟩, fun h => by cases h⟩ (fun h => by cases h) (fun q hq => by cases hq)).mono ?_
  rintro e w3 ⟨rfl, lv, ps, c, hs, -, hf, -⟩
  obtain ⟨y0, y1, y2, y3⟩ := hs.box.facts4
  obtain ⟨z0, z1, z2, z3⟩ := ((unhide H5).blk (hf.block w.heap.size (World.rowIs.lt (unhide H5)) (by omega) (by intro h; cases h))).facts4
  have hR := sk_fin (S := [[]]) (R := w.heap.size) hs ((unhide H6).trans ⟨hf.os, hf.tape, hf.output, hf.size, fun k hk => hf.block k (by have := (unhide H6).size; omega) (by omega) (by intro h; cases h)⟩) (Nat.le_refl _) (by omega) ⟨[[]], List.pairwise_singleton _ _, by simp, Or.inr ⟨fun h => by rcases h with h | ⟨x, h, h2⟩ <;> simp at h; subst h; simp at h2, rfl⟩⟩
  have HRR := hide hR
  obtain ⟨la, lc, rfl⟩ := own_is hs.row.own
  clear hR hs hf
  go_wp2
  refine bodyPost_ret (v := .agg #[.slice la ps.length lc, .bool c]) (by simp [results, Try.results20, go_sem, z0, z1]) rfl (unhide HRR)

end Go.Proofs.Ytjoaapoppcibdaa

namespace Go.Proofs.Ytjoaapoppcibdaa
open Go.RowKit

theorem SameB.put {lo n : Nat} {a w : World} (h : SameB lo n a w) {b o : Nat} (hb : b < lo ∨ n ≤ b) (u : Value) : SameB lo n a (w.setCell ⟨b, o, none⟩ u) :=
  fun k h1 h2 => (Below.heap_setCell _ _ _ _ (by show k ≠ b; omega)).trans (h k h1 h2)

/-- A block of four cells. -/
def Row4 (w : World) (b : Nat) (t : TypeId) (c0 c1 c2 c3 : Value) : Prop := w.rowIs b t 4 (fun j => [c0, c1, c2, c3].getD j undef)
theorem Row4.new (w : World) (t : TypeId) (c0 c1 c2 c3 : Value) : Row4 (w.alloc (.cells #[c0, c1, c2, c3] t)) w.heap.size t c0 c1 c2 c3 :=
  World.rowIs_alloc w #[c0, c1, c2, c3] t _ (fun i hi => by
    match i, hi with
    | 0, _ => rfl
    | 1, _ => rfl
    | 2, _ => rfl
    | 3, _ => rfl)
theorem Row4.alloc {w : World} {b : Nat} {t : TypeId} {c0 c1 c2 c3 : Value} (h : Row4 w b t c0 c1 c2 c3) (o : Obj) : Row4 (w.alloc o) b t c0 c1 c2 c3 := World.rowIs.alloc h o
theorem Row4.below {w w' : World} {b m : Nat} {t : TypeId} {c0 c1 c2 c3 : Value} (h : Row4 w b t c0 c1 c2 c3) (hb : Below m w w') (hm : b < m) : Row4 w' b t c0 c1 c2 c3 := World.rowIs.of_block h (hb.block b hm)
theorem Row4.other {w : World} {b b' o : Nat} {t : TypeId} {c0 c1 c2 c3 u : Value} (h : Row4 w b t c0 c1 c2 c3) (hb : b ≠ b') : Row4 (w.setCell ⟨b', o, none⟩ u) b t c0 c1 c2 c3 := World.rowIs.setOther h hb u
theorem Row4.put0 {w : World} {b : Nat} {t : TypeId} {c0 c1 c2 c3 u : Value} (h : Row4 w b t c0 c1 c2 c3) : Row4 (w.setCell ⟨b, 0, none⟩ u) b t u c1 c2 c3 := (World.rowIs.set h 0 u).congr (fun i hi => by
    match i, hi with
    | 0, _ => rfl
    | 1, _ => rfl
    | 2, _ => rfl
    | 3, _ => rfl)
theorem Row4.put1 {w : World} {b : Nat} {t : TypeId} {c0 c1 c2 c3 u : Value} (h : Row4 w b t c0 c1 c2 c3) : Row4 (w.setCell ⟨b, 1, none⟩ u) b t c0 u c2 c3 := (World.rowIs.set h 1 u).congr (fun i hi => by
    match i, hi with
    | 0, _ => rfl
    | 1, _ => rfl
    | 2, _ => rfl
    | 3, _ => rfl)
theorem Row4.put2 {w : World} {b : Nat} {t : TypeId} {c0 c1 c2 c3 u : Value} (h : Row4 w b t c0 c1 c2 c3) : Row4 (w.setCell ⟨b, 2, none⟩ u) b t c0 c1 u c3 := (World.rowIs.set h 2 u).congr (fun i hi => by
    match i, hi with
    | 0, _ => rfl
    | 1, _ => rfl
    | 2, _ => rfl
    | 3, _ => rfl)
/-- What the walk asks of it. -/
theorem Row4.facts {w : World} {b : Nat} {t : TypeId} {c0 c1 c2 c3 : Value} (h : Row4 w b t c0 c1 c2 c3) :
    w.cell? ⟨b, 0, none⟩ = some c0 ∧ w.cell? ⟨b, 1, none⟩ = some c1 ∧ w.cell? ⟨b, 2, none⟩ = some c2 ∧ w.cell? ⟨b, 3, none⟩ = some c3 ∧ w.frozen? ⟨b, 0, none⟩ = false ∧ w.frozen? ⟨b, 1, none⟩ = false ∧ w.frozen? ⟨b, 2, none⟩ = false ∧ w.frozen? ⟨b, 3, none⟩ = false :=
  ⟨World.rowIs.cell h (i := 0) (by omega), World.rowIs.cell h (i := 1) (by omega), World.rowIs.cell h (i := 2) (by omega), World.rowIs.cell h (i := 3) (by omega), World.rowIs.frozen h 0, World.rowIs.frozen h 1, World.rowIs.frozen h 2, World.rowIs.frozen h 3⟩

end Go.Proofs.Ytjoaapoppcibdaa
