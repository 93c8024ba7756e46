import Derived.Test.YtgedhbnmejlmeaaB0
namespace Go.Proofs.Ytgedhbnmejlmeaa
open Go.RowKit

/-- What is left behind a list of n values: -1 where it does not reach. -/
def szR (left n : Int) : Int := if left < n then -1 else left - n

theorem szR_neg {left n : Int} (h : left < n) : szR left n = -1 := by unfold szR; rw [if_pos h]
theorem szR_pos {left n : Int} (h : n ≤ left) : szR left n = left - n := by unfold szR; rw [if_neg (by omega)]

/-- How many values a list of elements holds: the elements and the numbers of their sets. -/
def bulk : List El → Nat
  | [] => 0
  | x :: r => x.set.length + bulk r

set_option maxHeartbeats 400000 in
theorem szIntS_any (a : Option Addr) (len cap : Nat) (left : Int) (w : World) (hlen : len ≤ maxLen) (h0 : 0 ≤ left) (h1 : left ≤ 1048576) :
    Calls Try.prog 37 #[.slice a len cap, .int .i64 left] w fun e w' => e = .returned (.int .i64 (szR left len)) ∧ w' = w := by
  unfold maxLen at hlen
  by_cases hlt : left < (len : Int)
  · go_enter Try.func37, Try.ntmps37
    go_wp2
    go_ret
    exact ⟨ret_int (szR_neg hlt).symm, rfl⟩
  · have hlt' : (len : Int) ≤ left := by omega
    go_enter Try.func37, Try.ntmps37
    go_wp2
    go_ret
    exact ⟨ret_int (szR_pos hlt').symm, rfl⟩

set_option maxHeartbeats 400000 in
theorem szOp_any (a : Option Addr) (len cap : Nat) (k mn mx left : Int) (w : World) (hlen : len ≤ maxLen) (h0 : 0 ≤ left) (h1 : left ≤ 1048576) :
    Calls Try.prog 32 #[.agg #[.int .i64 k, .slice a len cap, .int .i64 mn, .int .i64 mx], .int .i64 left] w fun e w' => e = .returned (.int .i64 (szR left len)) ∧ Below w.heap.size w w' := by
  by_cases hlt : left < (len : Int)
  · have e := szR_neg hlt
    go_enter Try.func32, Try.ntmps32
    go_wp2_with (go_at_call 37; refine (szIntS_any _ _ _ _ _ hlen h0 h1).mono ?_; rintro e w' ⟨rfl, rfl⟩)
    go_ret
    exact ⟨ret_int e.symm, (Below.refl _ _).alloc (Nat.le_refl _) _⟩
  · have hlt' : (len : Int) ≤ left := by omega
    have e := szR_pos hlt'
    go_enter Try.func32, Try.ntmps32
    go_wp2_with (go_at_call 37; refine (szIntS_any _ _ _ _ _ hlen h0 h1).mono ?_; rintro e w' ⟨rfl, rfl⟩)
    go_ret
    exact ⟨ret_int e.symm, (Below.refl _ _).alloc (Nat.le_refl _) _⟩


theorem bulk_take_succ (xs : List El) (k : Nat) (h : k < xs.length) : bulk (xs.take (k + 1)) = bulk (xs.take k) + (xs[k]?.getD dE).set.length := by
  induction xs generalizing k with
  | nil => simp at h
  | cons x r ih =>
    cases k with
    | zero => simp [bulk]
    | succ k => simp only [List.take_succ_cons, bulk, List.getElem?_cons_succ]; rw [ih k (by simpa using h)]; omega

set_option maxHeartbeats 1000000 in
theorem szOpS_any (v : Value) (xs : List El) (left : Int) (w : World) (hv : ElsAt 0 w.heap.size w v xs) (h0 : 0 ≤ left) (h1 : left ≤ 1048576) :
    Calls Try.prog 11 #[v, .int .i64 left] w fun e w' => (∃ r : Int, e = .returned (.int .i64 r) ∧ (r = -1 ∨ (0 ≤ r ∧ r = left - xs.length - bulk xs))) ∧ Below w.heap.size w w' := by
  obtain ⟨a, cap, rfl, hlen, hc⟩ := hv
  unfold maxLen at hlen
  by_cases hlt : left < (xs.length : Int)
  · go_enter Try.func11, Try.ntmps11
    go_wp2
    go_ret
    exact ⟨⟨-1, rfl, Or.inl rfl⟩, Below.refl _ _⟩
  · have hlt' : (xs.length : Int) ≤ left := by omega
    go_enter Try.func11, Try.ntmps11
    go_wp2
    go_loopw [1, 5] (fun l i w' => ∃ k : Nat, k ≤ xs.length ∧ i = .int .i64 k ∧ l = .int .i64 (left - xs.length - bulk (xs.take k)) ∧ 0 ≤ left - xs.length - bulk (xs.take k) ∧ Below w.heap.size w w') (fun _ i _ => xs.length - (intOf i).toNat)
    case atStart => exact ⟨0, Nat.zero_le _, rfl, by simp [bulk], by simp [bulk]; omega, Below.refl _ _⟩
    case round =>
      obtain ⟨k, hk, rfl, rfl, hge, hb⟩ := hrel
      by_cases hlt2 : k < xs.length
      · obtain ⟨b, off, rfl, -, hbn, hel⟩ := hc (by omega)
        obtain ⟨i1, i2, i3, v, c0, c1, c2, c3, a', cap', rfl, hl', hr', hc'⟩ := (hel k hlt2).same (Same.of_below hb (Nat.le_refl _)) (Nat.zero_le _) hbn
        have hlt3 : (k : Int) < (xs.length : Int) := by omega
        have hsz := hb.size
        have HB := bulk_take_succ xs k hlt2
        generalize xs[k]?.getD dE = x at *
        generalize hL : left - (xs.length : Int) - (bulk (List.take k xs) : Int) = L at *
        have HL := hide hL
        have HB' := hide HB
        clear HB hL
        have hL1 : L ≤ 1048576 := by have := unhide HL; omega
        by_cases hx : L < (x.set.length : Int)
        · have hz := szR_neg hx
          go_wp2_with (go_at_call 32; refine (szOp_any _ _ _ _ _ _ _ _ hl' hge hL1).mono ?_; rintro e w1 ⟨rfl, hb1⟩)
          go_ret
          exact ⟨⟨-1, rfl, Or.inl rfl⟩, hb.trans (hb1.mono hsz)⟩
        · have hx' : (x.set.length : Int) ≤ L := by omega
          have hz := szR_pos hx'
          go_wp2_with (go_at_call 32; refine (szOp_any _ _ _ _ _ _ _ _ hl' hge hL1).mono ?_; rintro e w1 ⟨rfl, hb1⟩)
          go_roundw
          case rel => exact ⟨k + 1, by omega, by go_num, by have h1 := unhide HL; have h2 := unhide HB'; rw [h2]; congr 1; omega, by have h1 := unhide HL; have h2 := unhide HB'; rw [h2]; omega, hb.trans (hb1.mono hsz)⟩
          case measure => simp [intOf]; omega
      · have hlt3 : ¬ (k : Int) < (xs.length : Int) := by omega
        have hkk : k = xs.length := by omega
        subst hkk
        go_wp2
        go_ret
        exact ⟨⟨_, rfl, Or.inr ⟨by simpa using hge, by simp⟩⟩, hb⟩

end Go.Proofs.Ytgedhbnmejlmeaa
