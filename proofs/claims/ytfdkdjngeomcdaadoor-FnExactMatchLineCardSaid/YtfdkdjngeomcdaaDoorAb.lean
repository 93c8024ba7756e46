import Derived.Test.YtfdkdjngeomcdaaDoorP9
import Derived.Laws.Bits64b
namespace Go.Proofs.YtfdkdjngeomcdaaDoor
open Go.RowKit

def cmp4 (g : Nat → Nat) (j : Nat) : Nat := if j < 4 then 18446744073709551615 - g j else 0
theorem cmp4_fit (g : Nat → Nat) : Fit (cmp4 g) := fun j => by unfold cmp4; split <;> omega
theorem cmp4_bt {g : Nat → Nat} (hg : Fit g) (b : Nat) : Bt (cmp4 g) b = (decide (b < 256) && !Bt g b) := by
  unfold Bt cmp4
  by_cases hb : b < 256
  · rw [if_pos (by omega)]
    have := Nat.testBit_two_pow_sub_succ (show g (b / 64) < 2 ^ 64 from hg (b / 64)) (b % 64)
    rw [show (2 : Nat) ^ 64 - (g (b / 64) + 1) = 18446744073709551615 - g (b / 64) by omega] at this
    rw [this]
    simp [hb, show b % 64 < 64 by omega]
  · rw [if_neg (by omega)]
    simp [hb]

theorem xor_all {a : Nat} (h : a < 18446744073709551616) : 18446744073709551615 ^^^ a = 18446744073709551615 - a := by
  apply Nat.eq_of_testBit_eq
  intro i
  have h1 := Nat.testBit_two_pow_sub_one 64 i
  have h2 := Nat.testBit_two_pow_sub_succ (show a < 2 ^ 64 from h) i
  rw [show (2 : Nat) ^ 64 - 1 = 18446744073709551615 by decide] at h1
  rw [show (2 : Nat) ^ 64 - (a + 1) = 18446744073709551615 - a by omega] at h2
  rw [Nat.testBit_xor, h1, h2]
  by_cases hi : i < 64
  · simp [hi]
  · have : a.testBit i = false := Nat.testBit_lt_two_pow (Nat.lt_of_lt_of_le h (by
      have : (2 : Nat) ^ 64 ≤ 2 ^ i := Nat.pow_le_pow_right (by decide) (by omega)
      exact this))
    simp [hi, this]
theorem xor_u64 {a : Nat} (h : a < 18446744073709551616) : bits BinOp.xor IntKind.u64 (if IntKind.u64.signed = true then -1 else IntKind.u64.max) (a : Int) = ((18446744073709551615 - a : Nat) : Int) := by
  rw [← xor_all h]
  exact bits_xor_u64_nat 18446744073709551615 a (by decide) h

set_option maxHeartbeats 2000000 in
set_option maxRecDepth 100000 in
theorem complement_w (g : Nat → Nat) (w : World) (hg : Fit g) : Calls Tryd.prog 47 #[ws4 g] w fun e w' => e = .returned (ws4 (cmp4 g)) ∧ Below w.heap.size w w' := by
  unfold ws4
  have Hg := hide hg
  clear hg
  go_enter Tryd.func47, Tryd.ntmps47
  go_wp2
  go_loopw [4] (fun iv wr => ∃ i : Nat, i ≤ 4 ∧ iv = .int .i64 i ∧ wr.rowIs w.heap.size 64 4 (fun j => .int .u64 ((if j < i then cmp4 g j else g j : Nat) : Int)) ∧ (∃ g : Nat → Value, wr.rowIs (w.heap.size + 1) 64 4 g) ∧ Below w.heap.size w wr) (fun iv _ => 4 - (intOf iv).toNat)
  case atStart =>
    refine ⟨0, by omega, rfl, ((four_row w _ g).alloc _).congr (fun j hj => by simp), ⟨fun j => .int .u64 ((fun _ => 0 : Nat → Nat) j : Nat), ?_⟩, below2 w _ _⟩
    have h := zero_row (w.alloc (.cells #[.int .u64 (g 0 : Nat), .int .u64 (g 1 : Nat), .int .u64 (g 2 : Nat), .int .u64 (g 3 : Nat)] 64)) 64
    rw [sz_alloc] at h; exact h
  case round =>
    obtain ⟨i, hi, rfl, hrow, ⟨g2, hrow2⟩, hb⟩ := hrel
    by_cases hlt : i < 4
    · have hlt' : (i : Int) < 4 := by omega
      have c0 := hrow.cell hlt
      rw [if_neg (Nat.lt_irrefl _)] at c0
      have f0 := hrow.frozen i
      have hgi := unhide Hg i
      have Hrow := hide hrow
      have Hrow2 := hide hrow2
      clear hrow hrow2
      have hx := xor_u64 hgi
      have HX := hide hx
      clear hx
      go_wp2
      rw [unhide HX]
      refine ⟨⟨i + 1, by omega, by go_num, ?_, ⟨g2, ?_⟩, ?_⟩, by simp [intOf]; omega⟩
      · refine ((unhide Hrow).set i _).congr (fun j hj => ?_)
        by_cases e : j = i
        · subst e; simp [cmp4, hlt]
        · have e2 : (j < i + 1) ↔ j < i := by omega
          simp [e, e2]
      · exact (unhide Hrow2).setOther (by show w.heap.size + 1 ≠ w.heap.size; omega) _
      · exact bput hb (Nat.le_refl _) _
    · obtain rfl : i = 4 := by omega
      have c0 := hrow.cell (i := 0) (by omega)
      have c1 := hrow.cell (i := 1) (by omega)
      have c2 := hrow.cell (i := 2) (by omega)
      have c3 := hrow.cell (i := 3) (by omega)
      rw [if_pos (by omega)] at c0 c1 c2 c3
      have d0 := hrow2.cell (i := 0) (by omega)
      have d1 := hrow2.cell (i := 1) (by omega)
      have d2 := hrow2.cell (i := 2) (by omega)
      have d3 := hrow2.cell (i := 3) (by omega)
      have f0 := hrow2.frozen 0
      have f1 := hrow2.frozen 1
      have f2 := hrow2.frozen 2
      have f3 := hrow2.frozen 3
      clear hrow hrow2
      go_wp2
      refine bodyPost_ret (v := .agg #[.int .u64 (cmp4 g 0 : Nat), .int .u64 (cmp4 g 1 : Nat), .int .u64 (cmp4 g 2 : Nat), .int .u64 (cmp4 g 3 : Nat)]) (by simp [results, Tryd.results47, go_sem, d0, d1, d2, d3]) rfl ⟨rfl, ?_⟩
      exact bput (bput (bput (bput hb (by omega) _) (by omega) _) (by omega) _) (by omega) _

theorem zero_fit : Fit (fun _ => 0) := fun _ => by show 0 < 18446744073709551616; omega
theorem zero_bt (b : Nat) : Bt (fun _ => 0) b = false := by simp [Bt]
theorem canon_all : Canon [0, 255] := ⟨rfl, fun i hi => by
    match i, hi with
    | 0, _ => simp
    | 1, _ => simp, fun m hm => by
    obtain rfl : m = 0 := by simp at hm; omega
    simp [PairOk]⟩
theorem canon_dot : Canon [0, 9, 11, 255] := ⟨rfl, fun i hi => by
    match i, hi with
    | 0, _ => simp
    | 1, _ => simp
    | 2, _ => simp
    | 3, _ => simp, fun m hm => by
    have : m = 0 ∨ m = 1 := by simp at hm; omega
    rcases this with rfl | rfl <;> simp [PairOk]⟩

theorem words_all : WordsOf [0, 255] (cmp4 (fun _ => 0)) := ⟨cmp4_fit _, fun b => by
  rw [cmp4_bt zero_fit, zero_bt]
  show (decide (b < 256) && !false) = (false || decide ((0 : Int) ≤ (b : Int) ∧ (b : Int) ≤ 255))
  simp
  omega⟩
theorem words_dot {g : Nat → Nat} (hf : Fit g) (h : ∀ b : Nat, Bt g b = (false || decide ((10 : Int) ≤ (b : Int) ∧ (b : Int) ≤ 10))) : WordsOf [0, 9, 11, 255] (cmp4 g) := ⟨cmp4_fit _, fun b => by
  rw [cmp4_bt hf, h]
  show (decide (b < 256) && !(false || decide ((10 : Int) ≤ (b : Int) ∧ (b : Int) ≤ 10))) = ((false || decide ((0 : Int) ≤ (b : Int) ∧ (b : Int) ≤ 9)) || decide ((11 : Int) ≤ (b : Int) ∧ (b : Int) ≤ 255))
  rw [Bool.eq_iff_iff]
  simp
  omega⟩

theorem box4 {w w1 : World} {t : TypeId} (hb : Below (w.heap.size + 1) (w.alloc (.cells #[.int .u64 0, .int .u64 0, .int .u64 0, .int .u64 0] t)) w1) : w1.rowIs w.heap.size t 4 (fun j => .int .u64 ((fun _ => 0 : Nat → Nat) j : Nat)) :=
  World.rowIs.of_block (zero_row w t) (hb.block _ (Nat.lt_succ_self _))

set_option maxHeartbeats 2000000 in
set_option maxRecDepth 100000 in
theorem allBytes_w (w : World) : Calls Tryd.prog 26 #[] w fun e w' => (∃ g, e = .returned (ws4 g) ∧ WordsOf [0, 255] g) ∧ Below w.heap.size w w' := by
  have hB0 := below1 w (.cells #[.int .u64 0, .int .u64 0, .int .u64 0, .int .u64 0] 64)
  go_enter Tryd.func26, Tryd.ntmps26
  go_wp2_with fail
  refine (complement_w (fun _ => 0) _ zero_fit).mono ?_
  rintro e w1 ⟨rfl, hb1⟩
  have hrow := box4 (hb1.mono (by rw [sz_alloc]; omega))
  have hB1 : Below w.heap.size w w1 := hB0.trans (hb1.mono (by rw [sz_alloc]; omega))
  have d0 := hrow.cell (i := 0) (by omega)
  have d1 := hrow.cell (i := 1) (by omega)
  have d2 := hrow.cell (i := 2) (by omega)
  have d3 := hrow.cell (i := 3) (by omega)
  have f0 := hrow.frozen 0
  have f1 := hrow.frozen 1
  have f2 := hrow.frozen 2
  have f3 := hrow.frozen 3
  have HW := hide words_all
  clear hrow hb1
  generalize cmp4 (fun _ => 0) = q at *
  unfold ws4
  go_wp2
  refine bodyPost_ret (v := .agg #[.int .u64 (q 0 : Nat), .int .u64 (q 1 : Nat), .int .u64 (q 2 : Nat), .int .u64 (q 3 : Nat)]) (by simp [results, Tryd.results26, go_sem, d0, d1, d2, d3]) rfl ⟨⟨q, rfl, unhide HW⟩, ?_⟩
  exact bput (bput (bput (bput hB1 (by omega) _) (by omega) _) (by omega) _) (by omega) _

end Go.Proofs.YtfdkdjngeomcdaaDoor
