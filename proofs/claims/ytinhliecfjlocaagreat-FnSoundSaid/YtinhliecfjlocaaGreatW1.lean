import Derived.Test.YtinhliecfjlocaaGreatD3
import Derived.Laws.Bits64b
namespace Go.Proofs.YtinhliecfjlocaaGreat
open Go.RowKit
def ws4 (g : Nat → Nat) : Value := .agg #[.int .u64 (g 0 : Nat), .int .u64 (g 1 : Nat), .int .u64 (g 2 : Nat), .int .u64 (g 3 : Nat)]
def Bt (g : Nat → Nat) (b : Nat) : Bool := (g (b / 64)).testBit (b % 64)
def Fit (g : Nat → Nat) : Prop := ∀ j : Nat, g j < 18446744073709551616
theorem or_bit (a i : Nat) (ha : a < 18446744073709551616) (hi : i < 64) : bits .or .u64 (a : Int) (IntKind.u64.wrap (2 ^ i)) = ((a ||| 2 ^ i : Nat) : Int) := by
  have h1 : (2 : Nat) ^ i < 2 ^ 64 := Nat.pow_lt_pow_right (by omega) hi
  have h2 : IntKind.u64.wrap ((2 : Int) ^ i) = ((2 ^ i : Nat) : Int) := by
    rw [IntKind.wrap_u64, Int.natCast_pow]
    have : ((2 ^ i : Nat) : Int) < 18446744073709551616 := by omega
    rw [Int.natCast_pow] at this
    have h0 : (0 : Int) ≤ (2 : Int) ^ i := Int.pow_nonneg (by omega)
    exact Int.emod_eq_of_lt h0 this
  rw [h2]
  exact bits_or_u64_nat a (2 ^ i) ha (by omega)
theorem or_lt (a i : Nat) (ha : a < 18446744073709551616) (hi : i < 64) : a ||| 2 ^ i < 18446744073709551616 := by
  have h1 : (2 : Nat) ^ i < 2 ^ 64 := Nat.pow_lt_pow_right (by omega) hi
  have : a ||| 2 ^ i < 2 ^ 64 := Nat.or_lt_two_pow (by omega) h1
  omega
theorem bt_put (g : Nat → Nat) (k b : Nat) : Bt (fun j => if j = k / 64 then g (k / 64) ||| 2 ^ (k % 64) else g j) b = (Bt g b || decide (b = k)) := by
  unfold Bt
  by_cases e : b / 64 = k / 64
  · simp only [e, if_true, Nat.testBit_or, Nat.testBit_two_pow]
    congr 1
    by_cases e2 : k % 64 = b % 64
    · have : b = k := by omega
      simp [e2, this]
    · have : b ≠ k := fun h => e2 (by rw [h])
      simp [e2, this]
  · have : b ≠ k := fun h => e (by rw [h])
    simp [e, this]
theorem four_row (w : World) (t : TypeId) (g : Nat → Nat) : (w.alloc (.cells #[.int .u64 (g 0 : Nat), .int .u64 (g 1 : Nat), .int .u64 (g 2 : Nat), .int .u64 (g 3 : Nat)] t)).rowIs w.heap.size t 4 (fun j => .int .u64 (g j : Nat)) := by
  refine World.rowIs_alloc w #[.int .u64 (g 0 : Nat), .int .u64 (g 1 : Nat), .int .u64 (g 2 : Nat), .int .u64 (g 3 : Nat)] t (fun j => .int .u64 (g j : Nat)) ?_
  intro i hi
  match i, hi with
  | 0, _ => rfl
  | 1, _ => rfl
  | 2, _ => rfl
  | 3, _ => rfl
theorem zero_row (w : World) (t : TypeId) : (w.alloc (.cells #[.int .u64 0, .int .u64 0, .int .u64 0, .int .u64 0] t)).rowIs w.heap.size t 4 (fun j => .int .u64 ((fun _ => 0 : Nat → Nat) j : Nat)) := four_row w t (fun _ => 0)
set_option maxHeartbeats 1000000 in
theorem with_w (g : Nat → Nat) (lo hi : Int) (w : World) (hg : Fit g) (h0 : 0 ≤ lo) (h1 : hi ≤ 255) (h2 : lo ≤ hi) :
    Calls Tryz.prog 133 #[ws4 g, .int .i64 lo, .int .i64 hi] w fun e w' =>
      ∃ g' : Nat → Nat, e = .returned (ws4 g') ∧ Fit g' ∧ (∀ b : Nat, Bt g' b = (Bt g b || decide (lo ≤ (b : Int) ∧ (b : Int) ≤ hi))) ∧ Below w.heap.size w w' := by
  unfold ws4
  have Hg := hide hg
  clear hg
  go_enter Tryz.func133, Tryz.ntmps133
  go_wp2
  go_loopw [7] (fun i wr => ∃ x : Int, lo ≤ x ∧ x ≤ hi + 1 ∧ i = .int .i64 x ∧ (∃ q : Nat → Nat, wr.rowIs w.heap.size 126 4 (fun j => .int .u64 (q j : Nat)) ∧ Fit q ∧ ∀ b : Nat, Bt q b = (Bt g b || decide (lo ≤ (b : Int) ∧ (b : Int) < x))) ∧ (∃ g : Nat → Value, wr.rowIs (w.heap.size + 1) 126 4 g) ∧ Below w.heap.size w wr) (fun i _ => (hi + 1 - intOf i).toNat)
  case atStart =>
    refine ⟨lo, Int.le_refl _, by omega, rfl, ⟨g, (four_row w _ g).alloc _, unhide Hg, fun b => ?_⟩, ⟨fun j => .int .u64 ((fun _ => 0 : Nat → Nat) j : Nat), ?_⟩, below2 w _ _⟩
    · have : ¬ (lo ≤ (b : Int) ∧ (b : Int) < lo) := by omega
      simp [this]
    · have h := zero_row (w.alloc (.cells #[.int .u64 (g 0 : Nat), .int .u64 (g 1 : Nat), .int .u64 (g 2 : Nat), .int .u64 (g 3 : Nat)] 126)) 126
      rw [sz_alloc] at h; exact h
  case round =>
    obtain ⟨x, hx0, hx1, rfl, ⟨q, hrow, hfit, hbt⟩, ⟨g2, hrow2⟩, hb⟩ := hrel
    obtain ⟨k, rfl⟩ := Int.eq_ofNat_of_zero_le (show 0 ≤ x by omega)
    have Hbt := hide hbt
    have Hfit := hide hfit
    have hfk := hfit (k / 64)
    clear hbt hfit
    by_cases hlt : (k : Int) ≤ hi
    · have hk : k ≤ 255 := by omega
      have hq : k / 64 < 4 := by omega
      have c0 := hrow.cell hq
      have f0 := hrow.frozen (k / 64)
      have hq' : ((k / 64 : Nat) : Int) < 4 := by omega
      have hq2 : (k : Int) / 64 < 4 := by omega
      have hq3 : 0 ≤ (k : Int) / 64 := by omega
      have hrow' := hide hrow
      have hrow2' := hide hrow2
      have hor := or_bit (q (k / 64)) (k % 64) hfk (by omega)
      have hlt64 := or_lt (q (k / 64)) (k % 64) hfk (by omega)
      have Hor := hide hor
      clear hrow hrow2 hor
      go_wp2
      go_region
      go_wp2
      rw [unhide Hor]
      refine ⟨⟨(k : Int) + 1, by omega, by omega, rfl, ⟨fun j => if j = k / 64 then q (k / 64) ||| 2 ^ (k % 64) else q j, ?_, ?_, ?_⟩, ⟨g2, ?_⟩, ?_⟩, by simp [intOf]; omega⟩
      · exact (((unhide hrow').set (k / 64) _).congr (fun j _ => by by_cases e : j = k / 64 <;> simp [e])).drew
      · intro j
        by_cases e : j = k / 64
        · simp only [e, if_true]; exact hlt64
        · simp only [e, if_false]; exact unhide Hfit j
      · intro b
        rw [bt_put, unhide Hbt b, Bool.or_assoc]
        congr 1
        rw [← Bool.decide_or]
        exact decide_eq_decide.2 (by omega)
      · exact ((unhide hrow2').setOther (by show w.heap.size + 1 ≠ w.heap.size; omega) _).drew
      · exact (bput hb (Nat.le_refl _) _).drew
    · have c0 := hrow.cell (i := 0) (by omega)
      have c1 := hrow.cell (i := 1) (by omega)
      have c2 := hrow.cell (i := 2) (by omega)
      have c3 := hrow.cell (i := 3) (by omega)
      have d0 := hrow2.cell (i := 0) (by omega)
      have d1 := hrow2.cell (i := 1) (by omega)
      have d2 := hrow2.cell (i := 2) (by omega)
      have d3 := hrow2.cell (i := 3) (by omega)
      have f0 := hrow2.frozen 0
      have f1 := hrow2.frozen 1
      have f2 := hrow2.frozen 2
      have f3 := hrow2.frozen 3
      clear hrow hrow2
      go_wp2
      refine bodyPost_ret (v := .agg #[.int .u64 (q 0 : Nat), .int .u64 (q 1 : Nat), .int .u64 (q 2 : Nat), .int .u64 (q 3 : Nat)]) (by simp [results, Tryz.results133, go_sem, d0, d1, d2, d3]) rfl ⟨q, rfl, unhide Hfit, fun b => ?_, ?_⟩
      · rw [unhide Hbt b]
        congr 1
        rw [Bool.eq_iff_iff]
        simp only [Bool.and_eq_true, decide_eq_true_eq]
        omega
      · exact bput (bput (bput (bput hb (by omega) _) (by omega) _) (by omega) _) (by omega) _
end Go.Proofs.YtinhliecfjlocaaGreat
