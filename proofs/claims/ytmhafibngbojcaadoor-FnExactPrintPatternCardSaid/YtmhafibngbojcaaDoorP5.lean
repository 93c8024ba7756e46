import Derived.Test.YtmhafibngbojcaaDoorP4
import Derived.Laws.Bits64b
import Derived.Test.YtmhafibngbojcaaDoorP1
import Derived.OwnWalk
import Derived.Maps.AppendAt
import Derived.Laws.AppendOwnNone
import Derived.Deep.AppendLies
import Derived.Deep.RegionLaw
import Derived.BigRegion
import Derived.Test.YtmhafibngbojcaaDoorP2
namespace Go.Proofs.YtmhafibngbojcaaDoor
open Go.RowKit

/-- Four words, as numbers. -/
def ws4 (g : Nat → Nat) : Value := .agg #[.int .u64 (g 0 : Nat), .int .u64 (g 1 : Nat), .int .u64 (g 2 : Nat), .int .u64 (g 3 : Nat)]
/-- Is the byte b in the set? -/
def Bt (g : Nat → Nat) (b : Nat) : Bool := (g (b / 64)).testBit (b % 64)
def Fit (g : Nat → Nat) : Prop := ∀ j : Nat, g j < 18446744073709551616

theorem or_bit (a i : Nat) (ha : a < 18446744073709551616) (hi : i < 64) : bits .or .u64 (a : Int) (IntKind.u64.wrap (2 ^ i)) = ((a ||| 2 ^ i : Nat) : Int) := by
  have h1 : (2 : Nat) ^ i < 2 ^ 64 := Nat.pow_lt_pow_right (by omega) hi
  have h2 : IntKind.u64.wrap ((2 : Int) ^ i) = ((2 ^ i : Nat) : Int) := by
    rw [IntKind.wrap_u64, Int.natCast_pow]
    have : ((2 ^ i : Nat) : Int) < 18446744073709551616 := by omega
    rw [Int.natCast_pow] at this
    have h0 : (0 : Int) ≤ (2 : Int) ^ i := Int.pow_nonneg (by omega)
    exact Int.emod_eq_of_lt h0 this
  rw [h2]
  exact bits_or_u64_nat a (2 ^ i) ha (by omega)
theorem or_lt (a i : Nat) (ha : a < 18446744073709551616) (hi : i < 64) : a ||| 2 ^ i < 18446744073709551616 := by
  have h1 : (2 : Nat) ^ i < 2 ^ 64 := Nat.pow_lt_pow_right (by omega) hi
  have : a ||| 2 ^ i < 2 ^ 64 := Nat.or_lt_two_pow (by omega) h1
  omega

theorem bt_put (g : Nat → Nat) (k b : Nat) : Bt (fun j => if j = k / 64 then g (k / 64) ||| 2 ^ (k % 64) else g j) b = (Bt g b || decide (b = k)) := by
  unfold Bt
  by_cases e : b / 64 = k / 64
  · simp only [e, if_true, Nat.testBit_or, Nat.testBit_two_pow]
    congr 1
    by_cases e2 : k % 64 = b % 64
    · have : b = k := by omega
      simp [e2, this]
    · have : b ≠ k := fun h => e2 (by rw [h])
      simp [e2, this]
  · have : b ≠ k := fun h => e (by rw [h])
    simp [e, this]

theorem four_row (w : World) (t : TypeId) (g : Nat → Nat) : (w.alloc (.cells #[.int .u64 (g 0 : Nat), .int .u64 (g 1 : Nat), .int .u64 (g 2 : Nat), .int .u64 (g 3 : Nat)] t)).rowIs w.heap.size t 4 (fun j => .int .u64 (g j : Nat)) := by
  refine World.rowIs_alloc w #[.int .u64 (g 0 : Nat), .int .u64 (g 1 : Nat), .int .u64 (g 2 : Nat), .int .u64 (g 3 : Nat)] t (fun j => .int .u64 (g j : Nat)) ?_
  intro i hi
  match i, hi with
  | 0, _ => rfl
  | 1, _ => rfl
  | 2, _ => rfl
  | 3, _ => rfl
theorem zero_row (w : World) (t : TypeId) : (w.alloc (.cells #[.int .u64 0, .int .u64 0, .int .u64 0, .int .u64 0] t)).rowIs w.heap.size t 4 (fun j => .int .u64 ((fun _ => 0 : Nat → Nat) j : Nat)) := four_row w t (fun _ => 0)

set_option maxHeartbeats 1000000 in
theorem with_w (g : Nat → Nat) (lo hi : Int) (w : World) (hg : Fit g) (h0 : 0 ≤ lo) (h1 : hi ≤ 255) (h2 : lo ≤ hi) :
    Calls Tryd.prog 60 #[ws4 g, .int .i64 lo, .int .i64 hi] w fun e w' =>
      ∃ g' : Nat → Nat, e = .returned (ws4 g') ∧ Fit g' ∧ (∀ b : Nat, Bt g' b = (Bt g b || decide (lo ≤ (b : Int) ∧ (b : Int) ≤ hi))) ∧ Below w.heap.size w w' := by
  unfold ws4
  have Hg := hide hg
  clear hg
  go_enter Tryd.func60, Tryd.ntmps60
  go_wp2
  go_loopw [7] (fun i wr => ∃ x : Int, lo ≤ x ∧ x ≤ hi + 1 ∧ i = .int .i64 x ∧ (∃ q : Nat → Nat, wr.rowIs w.heap.size 67 4 (fun j => .int .u64 (q j : Nat)) ∧ Fit q ∧ ∀ b : Nat, Bt q b = (Bt g b || decide (lo ≤ (b : Int) ∧ (b : Int) < x))) ∧ (∃ g : Nat → Value, wr.rowIs (w.heap.size + 1) 67 4 g) ∧ Below w.heap.size w wr) (fun i _ => (hi + 1 - intOf i).toNat)
  case atStart =>
    refine ⟨lo, Int.le_refl _, by omega, rfl, ⟨g, (four_row w _ g).alloc _, unhide Hg, fun b => ?_⟩, ⟨fun j => .int .u64 ((fun _ => 0 : Nat → Nat) j : Nat), ?_⟩, below2 w _ _⟩
    · have : ¬ (lo ≤ (b : Int) ∧ (b : Int) < lo) := by omega
      simp [this]
    · have h := zero_row (w.alloc (.cells #[.int .u64 (g 0 : Nat), .int .u64 (g 1 : Nat), .int .u64 (g 2 : Nat), .int .u64 (g 3 : Nat)] 67)) 67
      rw [sz_alloc] at h; exact h
  case round =>
    obtain ⟨x, hx0, hx1, rfl, ⟨q, hrow, hfit, hbt⟩, ⟨g2, hrow2⟩, hb⟩ := hrel
    obtain ⟨k, rfl⟩ := Int.eq_ofNat_of_zero_le (show 0 ≤ x by omega)
    have Hbt := hide hbt
    have Hfit := hide hfit
    have hfk := hfit (k / 64)
    clear hbt hfit
    by_cases hlt : (k : Int) ≤ hi
    · have hk : k ≤ 255 := by omega
      have hq : k / 64 < 4 := by omega
      have c0 := hrow.cell hq
      have f0 := hrow.frozen (k / 64)
      have hq' : ((k / 64 : Nat) : Int) < 4 := by omega
      have hq2 : (k : Int) / 64 < 4 := by omega
      have hq3 : 0 ≤ (k : Int) / 64 := by omega
      have hrow' := hide hrow
      have hrow2' := hide hrow2
      have hor := or_bit (q (k / 64)) (k % 64) hfk (by omega)
      have hlt64 := or_lt (q (k / 64)) (k % 64) hfk (by omega)
      have Hor := hide hor
      clear hrow hrow2 hor
      go_wp2
      go_region
      go_wp2
      rw [unhide Hor]
      refine ⟨⟨(k : Int) + 1, by omega, by omega, rfl, ⟨fun j => if j = k / 64 then q (k / 64) ||| 2 ^ (k % 64) else q j, ?_, ?_, ?_⟩, ⟨g2, ?_⟩, ?_⟩, by simp [intOf]; omega⟩
      · exact (((unhide hrow').set (k / 64) _).congr (fun j _ => by by_cases e : j = k / 64 <;> simp [e])).drew
      · intro j
        by_cases e : j = k / 64
        · simp only [e, if_true]; exact hlt64
        · simp only [e, if_false]; exact unhide Hfit j
      · intro b
        rw [bt_put, unhide Hbt b, Bool.or_assoc]
        congr 1
        rw [← Bool.decide_or]
        exact decide_eq_decide.2 (by omega)
      · exact ((unhide hrow2').setOther (by show w.heap.size + 1 ≠ w.heap.size; omega) _).drew
      · exact (bput hb (Nat.le_refl _) _).drew
    · have c0 := hrow.cell (i := 0) (by omega)
      have c1 := hrow.cell (i := 1) (by omega)
      have c2 := hrow.cell (i := 2) (by omega)
      have c3 := hrow.cell (i := 3) (by omega)
      have d0 := hrow2.cell (i := 0) (by omega)
      have d1 := hrow2.cell (i := 1) (by omega)
      have d2 := hrow2.cell (i := 2) (by omega)
      have d3 := hrow2.cell (i := 3) (by omega)
      have f0 := hrow2.frozen 0
      have f1 := hrow2.frozen 1
      have f2 := hrow2.frozen 2
      have f3 := hrow2.frozen 3
      clear hrow hrow2
      go_wp2
      refine bodyPost_ret (v := .agg #[.int .u64 (q 0 : Nat), .int .u64 (q 1 : Nat), .int .u64 (q 2 : Nat), .int .u64 (q 3 : Nat)]) (by simp [results, Tryd.results60, go_sem, d0, d1, d2, d3]) rfl ⟨q, rfl, unhide Hfit, fun b => ?_, ?_⟩
      · rw [unhide Hbt b]
        congr 1
        rw [Bool.eq_iff_iff]
        simp only [Bool.and_eq_true, decide_eq_true_eq]
        omega
      · exact bput (bput (bput (bput hb (by omega) _) (by omega) _) (by omega) _) (by omega) _

end Go.Proofs.YtmhafibngbojcaaDoor

namespace Go.Proofs.YtmhafibngbojcaaDoor
open Go.RowKit

/-- Is the byte in one of the first m ranges? -/
def InP (xs : List Int) : Nat → Nat → Bool
  | 0, _ => false
  | m + 1, b => InP xs m b || decide (xs[2 * m]?.getD 0 ≤ (b : Int) ∧ (b : Int) ≤ xs[2 * m + 1]?.getD 0)

/-- The words of the set of these ranges. -/
def WordsOf (xs : List Int) (g : Nat → Nat) : Prop := Fit g ∧ ∀ b : Nat, Bt g b = InP xs (xs.length / 2) b

theorem words_put {w1 : World} {N : Nat} {t : TypeId} {g : Nat → Nat} (h : w1.rowIs N t 4 (fun j => .int .u64 (g j : Nat))) (q : Nat → Nat) :
    ((((w1.setCell ⟨N, 0, none⟩ (.int .u64 (q 0 : Nat))).setCell ⟨N, 1, none⟩ (.int .u64 (q 1 : Nat))).setCell ⟨N, 2, none⟩ (.int .u64 (q 2 : Nat))).setCell ⟨N, 3, none⟩ (.int .u64 (q 3 : Nat))).rowIs N t 4 (fun j => .int .u64 (q j : Nat)) := by
  refine ((((h.set 0 _).set 1 _).set 2 _).set 3 _).congr ?_
  intro j hj
  match j, hj with
  | 0, _ => rfl
  | 1, _ => rfl
  | 2, _ => rfl
  | 3, _ => rfl

set_option maxHeartbeats 2000000 in
theorem setOf_w (v : Value) (xs : List Int) (w : World) (hv : IntsAt 0 w.heap.size w v xs) (hcn : Canon xs) :
    Calls Tryd.prog 48 #[v] w fun e w' => ∃ g : Nat → Nat, e = .returned (ws4 g) ∧ WordsOf xs g ∧ Below w.heap.size w w' := by
  obtain ⟨a, cap, rfl, hl, hr, hc⟩ := hv
  unfold maxLen at hl
  have Hcn := hide hcn
  clear hcn hr
  go_enter Tryd.func48, Tryd.ntmps48
  go_wp2
  go_loopw [4] (fun i wr => ∃ p : Nat, p ≤ xs.length ∧ p % 2 = 0 ∧ i = .int .i64 p ∧ (∃ g : Nat → Value, wr.rowIs w.heap.size 67 4 g) ∧ (∃ g : Nat → Nat, wr.rowIs (w.heap.size + 1) 67 4 (fun j => .int .u64 (g j : Nat)) ∧ Fit g ∧ ∀ b : Nat, Bt g b = InP xs (p / 2) b) ∧ Below w.heap.size w wr) (fun i _ => xs.length - (intOf i).toNat)
  case atStart =>
    refine ⟨0, Nat.zero_le _, rfl, rfl, ⟨_, (zero_row w 67).alloc _⟩, ⟨fun _ => 0, ?_, fun j => by show 0 < 18446744073709551616; omega, fun b => ?_⟩, below2 w _ _⟩
    · have h := zero_row (w.alloc (.cells #[.int .u64 0, .int .u64 0, .int .u64 0, .int .u64 0] 67)) 67
      rw [sz_alloc] at h; exact h
    · simp [Bt, InP]
  case round =>
    obtain ⟨p, hm, hp2, rfl, ⟨g2, hrow2⟩, ⟨g, hrow, hfit, hbt⟩, hb⟩ := hrel
    have hev := (unhide Hcn).1
    by_cases hlt2 : p < xs.length
    · obtain ⟨b, off, rfl, -, hbn, hcell⟩ := hc (by omega)
      have hx : wr.cell? ⟨b, off + p, none⟩ = some (.int .i64 (xs[p]?.getD 0)) := by rw [hb.cell (p := ⟨b, off + p, none⟩) hbn]; exact hcell _ hlt2
      have hy : wr.cell? ⟨b, off + (p + 1), none⟩ = some (.int .i64 (xs[p + 1]?.getD 0)) := by rw [hb.cell (p := ⟨b, off + (p + 1), none⟩) hbn]; exact hcell _ (by omega)
      have hlt2' : (p : Int) < (xs.length : Int) := by omega
      have hlt3' : (p : Int) + 1 < (xs.length : Int) := by omega
      have bx := ((unhide Hcn).2.1 (p) hlt2).1
      have byy := ((unhide Hcn).2.1 (p + 1) (by omega)).2
      have bxy : xs[p]?.getD 0 ≤ xs[p + 1]?.getD 0 := by
        have := ((unhide Hcn).2.2 (p / 2) (by omega)).1
        rwa [show 2 * (p / 2) = p by omega] at this
      have Hstep : Hid (∀ c : Nat, InP xs ((p + 2) / 2) c = (InP xs (p / 2) c || decide (xs[p]?.getD 0 ≤ (c : Int) ∧ (c : Int) ≤ xs[p + 1]?.getD 0))) := fun c => by
        rw [show (p + 2) / 2 = p / 2 + 1 by omega]
        simp only [InP]
        rw [show 2 * (p / 2) = p by omega]
      have Hbt := hide hbt
      have Hfit := hide hfit
      generalize xs[p]?.getD 0 = x at *
      generalize xs[p + 1]?.getD 0 = y at *
      have c0 := hrow.cell (i := 0) (by omega)
      have c1 := hrow.cell (i := 1) (by omega)
      have c2 := hrow.cell (i := 2) (by omega)
      have c3 := hrow.cell (i := 3) (by omega)
      have hN := hrow.lt
      have f0 := hrow.frozen 0
      have f1 := hrow.frozen 1
      have f2 := hrow.frozen 2
      have f3 := hrow.frozen 3
      have hrow' := hide hrow
      have hrow2' := hide hrow2
      clear hrow hrow2 hcell hbt hfit hc
      go_wp2
      have hw2 : IntKind.i64.wrap ((p : Int) + 1) = (p : Int) + 1 := by rw [IntKind.wrap_i64]; omega
      have hw1 : wrap64 ((p : Int) + 1) = (p : Int) + 1 := by unfold wrap64; omega
      go_region_with (go_at_call 60; refine (with_w g x y _ (unhide Hfit) bx byy bxy).mono ?_; rintro e w1 ⟨g', rfl, hg1, hg2, hb1⟩; unfold ws4; have hb2 : Below wr.heap.size wr w1 := ⟨hb1.os, hb1.tape, hb1.output, hb1.size, hb1.block⟩; have Hg1 := hide hg1; have Hg2 := hide hg2; clear hb1 hg1 hg2; have hc1 := (bcell hb2).1; have hf1 := (bcell hb2).2)
      all_goals
        clear hc1 hf1 c0 c1 c2 c3 f0 f1 f2 f3 hx hy
        go_wp2
        have hr1 := (unhide hrow').of_block (hb2.block _ hN)
        have hr2 := (unhide hrow2').of_block (hb2.block _ (unhide hrow2').lt)
        refine ⟨⟨p + 2, by omega, by omega, by go_num, ⟨g2, ?_⟩, ⟨g', words_put hr1 g', unhide Hg1, fun c => ?_⟩, ?_⟩, by simp [intOf]; omega⟩
        · exact (((hr2.setOther (by show w.heap.size ≠ w.heap.size + 1; omega) _).setOther (by show w.heap.size ≠ w.heap.size + 1; omega) _).setOther (by show w.heap.size ≠ w.heap.size + 1; omega) _).setOther (by show w.heap.size ≠ w.heap.size + 1; omega) _
        · rw [unhide Hg2 c, unhide Hstep c, unhide Hbt c]
        · exact bput (bput (bput (bput (hb.trans (hb2.mono hb.size)) (by omega) _) (by omega) _) (by omega) _) (by omega) _
    · have c0 := hrow.cell (i := 0) (by omega)
      have c1 := hrow.cell (i := 1) (by omega)
      have c2 := hrow.cell (i := 2) (by omega)
      have c3 := hrow.cell (i := 3) (by omega)
      have d0 := hrow2.cell (i := 0) (by omega)
      have d1 := hrow2.cell (i := 1) (by omega)
      have d2 := hrow2.cell (i := 2) (by omega)
      have d3 := hrow2.cell (i := 3) (by omega)
      have f0 := hrow2.frozen 0
      have f1 := hrow2.frozen 1
      have f2 := hrow2.frozen 2
      have f3 := hrow2.frozen 3
      obtain rfl : p = xs.length := by omega
      have Hbt := hide hbt
      have Hfit := hide hfit
      clear hrow hrow2 hbt hfit hc
      go_wp2
      refine bodyPost_ret (v := .agg #[.int .u64 (g 0 : Nat), .int .u64 (g 1 : Nat), .int .u64 (g 2 : Nat), .int .u64 (g 3 : Nat)]) (by simp [results, Tryd.results48, go_sem, d0, d1, d2, d3]) rfl ⟨g, rfl, ⟨unhide Hfit, unhide Hbt⟩, ?_⟩
      exact bput (bput (bput (bput hb (by omega) _) (by omega) _) (by omega) _) (by omega) _

end Go.Proofs.YtmhafibngbojcaaDoor

namespace Go.Proofs.YtmhafibngbojcaaDoor
open Go.RowKit

theorem own_slw {base lo n : Nat} {w : World} {v : Value} {xs : List Int} (h : w.ownsRow base 3 1 v n (xs.map mI)) (hlo : lo ≤ base) (hn : n ≤ maxLen) : SlW mI 0 lo w.heap.size w v xs := by
  have hlen := h.1
  rw [List.length_map, Nat.mul_one] at hlen
  rcases h.2 with ⟨rfl, hz⟩ | ⟨g, cap, cur, rfl, hbg, hg, hnc, hcm, hcs, htake⟩
  · exact ⟨none, 0, by rw [hlen, hz], by omega, fun hp => by omega⟩
  · refine ⟨_, cap, by rw [hlen], by omega, fun hp => ⟨g, 0, rfl, by omega, (h.lt g rfl).2, ⟨cur, _, hg⟩, fun i hi => ?_⟩⟩
    rw [Nat.zero_add, h.cellAt i (by omega), List.getElem?_map, List.getElem?_eq_getElem hi]
    rfl

theorem cell_1 {W : World} {N : Nat} {u : Value} (h : W.cell? ⟨N, 0, none⟩ = some u) : ∀ (j : Nat) (y : Value), [u][j]? = some y → W.cell? ((⟨N, 0, none⟩ : Addr).add j) = some y := by
  intro j y hj
  match j, hj with
  | 0, hj => simp at hj; subst hj; exact h

theorem own_at {base n : Nat} {w : World} {v : Value} {xs : List Value} (h : w.ownsRow base 3 1 v n xs) (hp : 0 < n) : ∃ g cap, v = .slice (some ⟨g, 0, none⟩) n cap ∧ ∀ j : Nat, j < n → w.cell? ⟨g, j, none⟩ = xs[j]? := by
  rcases h.2 with ⟨rfl, hz⟩ | ⟨g, cap, cur, rfl, hbg, hg, hnc, hcm, hcs, htake⟩
  · omega
  · exact ⟨g, cap, rfl, fun j hj => h.cellAt j (by omega)⟩

theorem getD_of_lt {xs : List Int} {i : Nat} (h : i < xs.length) : xs[i]? = some (xs[i]?.getD 0) := by rw [List.getElem?_eq_getElem h]; rfl

theorem own_keep {base n m e size : Nat} {w w' : World} {v : Value} {xs : List Value} (h : w.ownsRow base e size v n xs) (hb : Below m w w') (hm : w.heap.size ≤ m) : w'.ownsRow base e size v n xs :=
  h.kept (show w.grownBy w' none from ⟨hb.os, hb.tape, hb.output, hb.size, fun k hk _ => hb.block k (by omega)⟩) (by cases v.ownBlock <;> simp)

theorem own_is {base n e size : Nat} {w : World} {v : Value} {xs : List Value} (h : w.ownsRow base e size v n xs) : ∃ oa oc, v = .slice oa n oc := by
  rcases h.2 with ⟨rfl, hz⟩ | ⟨q, cap, cur, rfl, -⟩
  · exact ⟨none, 0, by rw [hz]⟩
  · exact ⟨_, _, rfl⟩

theorem run_append_none_c {P : Program} {w : World} (base : Nat) (t ty e : TypeId) (i : TypeInfo) (size : Nat) (ht : P.underlying t = some (.slice e)) (hi : P.info? e = some i)
    (v : Value) (n : Nat) (xs : List Value) (hown : w.ownsRow base e size v n xs) (c : Nat) : (Builtin.append_ #[t, t] ty #[v, .slice none 0 c]).run P w = .ok v w := by
  rcases hown.2 with ⟨rfl, rfl⟩ | ⟨g, cap, cur, rfl, _, _, hnc, _⟩
  · simp [Builtin.append_, run_underlying ht, sizeOf, typeInfo, hi, Builtin.lenOf, Builtin.firstCells]
  · simp [Builtin.append_, run_underlying ht, sizeOf, typeInfo, hi, Builtin.lenOf, Builtin.firstCells, hnc, storeCells]

theorem wpList_append_none_c {P : Program} {w : World} {ops : Array Oper} {rest : List Oper} {o : Oper} {a : Act} {Q : Exit → Act → World → Prop} (hgd : o.guard = none) (s x : Operand) (t : TypeId)
    (ho : o.op = .call { callee := .builtin .append, args := #[s, x], argTypes := #[t, t] })
    (base : Nat) (e : TypeId) (i : TypeInfo) (size : Nat) (ht : P.underlying t = some (.slice e)) (hi : P.info? e = some i)
    (v : Value) (n : Nat) (xs : List Value) (hs : a.eval s = v) (hown : w.ownsRow base e size v n xs) (c : Nat) (hx : a.eval x = .slice none 0 c)
    (h : wpList P ops Q rest (a.put o.dst v) w) : wpList P ops Q (o :: rest) a w := by
  refine wpList_plain hgd fun K hK => ?_
  have hrun := run_append_none_c (P := P) (w := w) base t o.type e i size ht hi v n xs hown c
  unfold Oper.wp
  simp [execOp, ho, resolve, invoke, builtin, hs, hx, hrun, Result.andThen]
  exact hK _ _ h

/-- A copy of a slice of ints, by an append to nil. -/
theorem app_ints {w : World} {ops : Array Oper} {rest : List Oper} {o : Oper} {a : Act} {Q : Exit → Act → World → Prop} (hgd : o.guard = none) (s x : Operand)
    (ho : o.op = .call { callee := .builtin .append, args := #[s, x], argTypes := #[49, 49] }) (hs : a.eval s = .slice none 0 0) (sv : Value) (hx : a.eval x = sv) (xs : List Int) (hv : SlAt mI 0 0 w.heap.size w sv xs) (hlen : xs.length ≤ 1048576)
    (h : ∀ v' w', Below w.heap.size w w' → SlW mI 0 w.heap.size w'.heap.size w' v' xs → v'.oneCell' = true → wpList Tryd.prog ops Q rest (a.put o.dst v') w') : wpList Tryd.prog ops Q (o :: rest) a w := by
  obtain ⟨i0, hi, hz0, hz1, hz2⟩ := info_parts Tryd.zinInt
  obtain ⟨sa, sc, rfl, hl, hc⟩ := hv
  cases sa with
  | none =>
    have h0 : xs.length = 0 := by
      by_cases q : 0 < xs.length
      · obtain ⟨b, off, e, -⟩ := hc q; simp at e
      · omega
    rw [h0] at hx
    exact wpList_append_none_c hgd s x 49 ho w.heap.size 3 i0 1 Tryd.underlying49 hi _ 0 [] hs (World.ownsRow_nil _ _ _ _) sc hx (h _ w (Below.refl _ _) ⟨none, 0, by rw [h0], hl, fun q => absurd q (by omega)⟩ rfl)
  | some ad =>
    refine wpList_append_own_at w hgd s x 49 ho w.heap.size 3 i0 (.int .i64 0) 1 8 Tryd.underlying49 hi hz0 hz1 hz2 rfl (by decide) _ 0 [] hs (World.ownsRow_nil _ _ _ _) ad xs.length sc (xs.map mI) hx (by simp) ?_ ?_ (by rw [Nat.zero_add]; exact hl) (by omega) (Nat.le_refl _) ?_
    · intro j u hu
      have hj : j < xs.length := by
        have := (List.getElem?_eq_some_iff.1 hu).1
        simpa using this
      obtain ⟨b, off, e, -, -, hcell⟩ := hc (by omega)
      simp only [Option.some.injEq] at e
      subst e
      rw [List.getElem?_map, getD_of_lt hj] at hu
      simp only [Option.map_some, Option.some.injEq] at hu
      subst hu
      have e3 : (⟨b, off, none⟩ : Addr).add j = ⟨b, off + j, none⟩ := by cases j <;> rfl
      rw [e3]
      exact hcell j hj
    · intro u hu
      obtain ⟨y, -, rfl⟩ := List.mem_map.1 hu
      rfl
    · intro v' w' h1 hg _ _
      rw [Nat.zero_add, List.nil_append] at h1
      obtain ⟨oa, oc, rfl⟩ := own_is h1
      exact h _ w' ((Below.refl _ _).grown hg (Nat.le_refl _) (fun k hk => by cases hk)) (own_slw h1 (Nat.le_refl _) hl) rfl

/-- A copy of a slice of ints, by an append to nil. -/
theorem app_ints_own {w : World} {ops : Array Oper} {rest : List Oper} {o : Oper} {a : Act} {Q : Exit → Act → World → Prop} (hgd : o.guard = none) (s x : Operand)
    (ho : o.op = .call { callee := .builtin .append, args := #[s, x], argTypes := #[49, 49] }) (hs : a.eval s = .slice none 0 0) (sv : Value) (hx : a.eval x = sv) (xs : List Int) (hv : SlAt mI 0 0 w.heap.size w sv xs) (hlen : xs.length ≤ 1048576)
    (h : ∀ v' w', Below w.heap.size w w' → w'.ownsRow w.heap.size 3 1 v' xs.length (xs.map mI) → v'.oneCell' = true → wpList Tryd.prog ops Q rest (a.put o.dst v') w') : wpList Tryd.prog ops Q (o :: rest) a w := by
  obtain ⟨i0, hi, hz0, hz1, hz2⟩ := info_parts Tryd.zinInt
  obtain ⟨sa, sc, rfl, hl, hc⟩ := hv
  cases sa with
  | none =>
    have h0 : xs.length = 0 := by
      by_cases q : 0 < xs.length
      · obtain ⟨b, off, e, -⟩ := hc q; simp at e
      · omega
    rw [h0] at hx
    exact wpList_append_none_c hgd s x 49 ho w.heap.size 3 i0 1 Tryd.underlying49 hi _ 0 [] hs (World.ownsRow_nil _ _ _ _) sc hx (h _ w (Below.refl _ _) (by rw [List.eq_nil_of_length_eq_zero h0]; exact World.ownsRow_nil _ _ _ _) rfl)
  | some ad =>
    refine wpList_append_own_at w hgd s x 49 ho w.heap.size 3 i0 (.int .i64 0) 1 8 Tryd.underlying49 hi hz0 hz1 hz2 rfl (by decide) _ 0 [] hs (World.ownsRow_nil _ _ _ _) ad xs.length sc (xs.map mI) hx (by simp) ?_ ?_ (by rw [Nat.zero_add]; exact hl) (by omega) (Nat.le_refl _) ?_
    · intro j u hu
      have hj : j < xs.length := by
        have := (List.getElem?_eq_some_iff.1 hu).1
        simpa using this
      obtain ⟨b, off, e, -, -, hcell⟩ := hc (by omega)
      simp only [Option.some.injEq] at e
      subst e
      rw [List.getElem?_map, getD_of_lt hj] at hu
      simp only [Option.map_some, Option.some.injEq] at hu
      subst hu
      have e3 : (⟨b, off, none⟩ : Addr).add j = ⟨b, off + j, none⟩ := by cases j <;> rfl
      rw [e3]
      exact hcell j hj
    · intro u hu
      obtain ⟨y, -, rfl⟩ := List.mem_map.1 hu
      rfl
    · intro v' w' h1 hg _ _
      rw [Nat.zero_add, List.nil_append] at h1
      obtain ⟨oa, oc, rfl⟩ := own_is h1
      exact h _ w' ((Below.refl _ _).grown hg (Nat.le_refl _) (fun k hk => by cases hk)) h1 rfl

/-- W is w with one block more (and draws). -/
structure Pushd (w W : World) (o : Obj) : Prop where
  os : W.os = w.os
  tape : W.tape = w.tape
  output : W.output = w.output
  heap : W.heap = w.heap.push o
theorem Pushd.size {w W : World} {o : Obj} (h : Pushd w W o) : W.heap.size = w.heap.size + 1 := by rw [h.heap, Array.size_push]
theorem Pushd.old {w W : World} {o : Obj} (h : Pushd w W o) {k : Nat} (hk : k < w.heap.size) : W.heap[k]? = w.heap[k]? := by rw [h.heap, Array.getElem?_push_lt hk, Array.getElem?_eq_getElem hk]
theorem Pushd.new {w W : World} {o : Obj} (h : Pushd w W o) : W.heap[w.heap.size]? = some o := by rw [h.heap]; simp
theorem Pushd.below {w W : World} {o : Obj} (h : Pushd w W o) : Below w.heap.size w W := ⟨h.os, h.tape, h.output, by rw [h.size]; omega, fun k hk => h.old hk⟩
theorem Pushd.own {w W : World} {o : Obj} (h : Pushd w W o) {base n e size : Nat} {v : Value} {xs : List Value} (k : w.ownsRow base e size v n xs) : W.ownsRow base e size v n xs := own_keep k h.below (Nat.le_refl _)
theorem Pushd.news {w W : World} {cs : Array Value} {t : TypeId} (h : Pushd w W (.cells cs t)) : ∀ (j : Nat) (u : Value), cs.toList[j]? = some u → W.cell? ((⟨w.heap.size, 0, none⟩ : Addr).add j) = some u := World.news_of_block h.new

/-- A call of a function as a step of a region that draws its order. -/
theorem step_call {w : World} {ops : Array Oper} {o : Oper} {a : Act} {K : Act → World → Prop} {Q : Exit → Act → World → Prop} {E : Prop} (F : FuncId) (vals : Array Value) (hgd : o.guard = none) (hex : (execOp a.eval o).run Tryd.prog w = .ok (.enter F vals) w)
    {Post : Ending → World → Prop} (h : Calls Tryd.prog F vals w Post) (hK : ∀ e w', Post e w' → ∃ v, e = .returned v ∧ K (a.put o.dst v) w') : if Region.wanted o (yielded ops a.tmps) = true then Oper.wp Tryd.prog o a w K Q else E := by
  have hw : Region.wanted o (yielded ops a.tmps) = true := by simp [Region.wanted, hgd]
  rw [if_pos hw]
  unfold Oper.wp
  rw [hex, Oper.upon_enter]
  refine h.mono ?_
  intro e w' hP
  obtain ⟨v, rfl, hk⟩ := hK e w' hP
  exact hk

/-- A call of a function, its operands told, as a step of a region that draws its order. -/
theorem step_call_o {w : World} {ops : Array Oper} {o : Oper} {a : Act} {K : Act → World → Prop} {Q : Exit → Act → World → Prop} {E : Prop} (F : FuncId) (cargs : Array Operand) (ts : Array TypeId) (ho : o.op = .call { callee := .value (.func F), args := cargs, argTypes := ts }) (vals : Array Value) (hgd : o.guard = none) (hev : cargs.map a.eval = vals)
    (hf : ∀ w, Sem.run Tryd.prog (callFunc F vals) w = .ok (.enter F vals) w)
    {Post : Ending → World → Prop} (h : Calls Tryd.prog F vals w Post) (hK : ∀ e w', Post e w' → ∃ v, e = .returned v ∧ K (a.put o.dst v) w') : if Region.wanted o (yielded ops a.tmps) = true then Oper.wp Tryd.prog o a w K Q else E := by
  refine step_call F vals hgd ?_ h hK
  have e1 : a.eval (.func F) = .func (.func F) #[] #[] := rfl
  simp [execOp, ho, resolve, hev, e1, Deferred.ofValue, invoke, hf]

theorem own_cap {base n e size : Nat} {w : World} {v : Value} {xs : List Value} (h : w.ownsRow base e size v n xs) : CapOk v := by
  rcases h.2 with ⟨rfl, _⟩ | ⟨g, cap, cur, rfl, _, _, hnc, hcm, _⟩
  · exact CapOk.mk (Nat.le_refl _) (Nat.zero_le _)
  · exact CapOk.mk hnc hcm

theorem w64i {n : Int} (h0 : -9223372036854775808 ≤ n) (h1 : n ≤ 9223372036854775807) : wrap64 n = n := by unfold wrap64; omega
theorem k64i {n : Int} (h0 : -9223372036854775808 ≤ n) (h1 : n ≤ 9223372036854775807) : IntKind.i64.wrap n = n := by rw [IntKind.wrap_i64]; omega

theorem drew2 (w : World) (a b : Nat) : (w.drewN a).drewN b = w.drewN (a + b) := by simp
theorem drew3 (w : World) (a b c : Nat) : ((w.drewN a).drewN b).drewN c = w.drewN (a + b + c) := by simp

theorem own_low {b b' e size n : Nat} {w : World} {v : Value} {xs : List Value} (h : w.ownsRow b e size v n xs) (hb : b' ≤ b) : w.ownsRow b' e size v n xs := ⟨h.1, h.2.imp id (fun ⟨g, cap, cur, q1, q2, q3⟩ => ⟨g, cap, cur, q1, Nat.le_trans hb q2, q3⟩)⟩

/-- One int more, in a region that draws its order. -/
theorem grow_int {base : Nat} {wr W w' : World} {v v' : Value} {os : List Int} {u : Int} {o : Obj} (hown : wr.ownsRow base 3 1 v os.length (os.map mI)) (hbase : base ≤ wr.heap.size) (hP : Pushd wr W o)
    (h1 : w'.ownsRow base 3 1 v' (os.length + 1) (os.map mI ++ [.int .i64 u])) (hg : W.grownBy w' v.ownBlock) :
    w'.ownsRow base 3 1 v' (os ++ [u]).length ((os ++ [u]).map mI) ∧ Below base wr w' := by
  refine ⟨by rw [List.length_append, List.map_append]; exact h1, (hP.below.mono hbase).grown hg (by rw [hP.size]; omega) (fun k hk => (hown.lt k hk).1)⟩

end Go.Proofs.YtmhafibngbojcaaDoor

namespace Go.Proofs.YtmhafibngbojcaaDoor
open Go.RowKit

theorem inP_iff (xs : List Int) (k b : Nat) : InP xs k b = true ↔ ∃ j : Nat, j < k ∧ xs[2 * j]?.getD 0 ≤ (b : Int) ∧ (b : Int) ≤ xs[2 * j + 1]?.getD 0 := by
  induction k with
  | zero => simp [InP]
  | succ k ih =>
    simp only [InP, Bool.or_eq_true, decide_eq_true_eq, ih]
    constructor
    · rintro (⟨j, h1, h2⟩ | h)
      · exact ⟨j, by omega, h2⟩
      · exact ⟨k, by omega, h⟩
    · rintro ⟨j, h1, h2⟩
      by_cases e : j = k
      · subst e; exact Or.inr h2
      · exact Or.inl ⟨j, by omega, h2⟩

theorem canon_mono {xs : List Int} (h : Canon xs) (j : Nat) : ∀ d : Nat, 2 * (j + d + 1) < xs.length → xs[2 * j + 1]?.getD 0 + 2 ≤ xs[2 * (j + d + 1)]?.getD 0 := by
  intro d
  induction d with
  | zero =>
    intro hlt
    have h1 := (h.2.2 (j + 1) (by omega)).2 (by omega)
    rw [show 2 * (j + 1) - 1 = 2 * j + 1 by omega] at h1
    rw [show j + 0 + 1 = j + 1 by omega]
    omega
  | succ d ih =>
    intro hlt
    have h0 := ih (by omega)
    have h1 := (h.2.2 (j + d + 1 + 1) (by omega)).2 (by omega)
    have h2 := (h.2.2 (j + d + 1) (by omega)).1
    rw [show 2 * (j + d + 1 + 1) - 1 = 2 * (j + d + 1) + 1 by omega] at h1
    rw [show j + (d + 1) + 1 = j + d + 1 + 1 by omega]
    omega

/-- The first m ranges, the last of them cut off ahead of b. -/
def cut (xs : List Int) (m b : Nat) : List Int := (xs.take (2 * m)).set (2 * m - 1) (min (xs[2 * m - 1]?.getD 0) ((b : Int) - 1))
structure Cut (xs : List Int) (m b : Nat) : Prop where
  le : 2 * m ≤ xs.length
  lo : 0 < m → xs[2 * (m - 1)]?.getD 0 < (b : Int)
  nx : 2 * m < xs.length → (b : Int) ≤ xs[2 * m]?.getD 0

theorem cut_len (xs : List Int) (m b : Nat) (h : 2 * m ≤ xs.length) : (cut xs m b).length = 2 * m := by simp [cut]; omega

theorem cut_last {xs : List Int} {m b : Nat} (h : 2 * m ≤ xs.length) (hm : 0 < m) : (cut xs m b)[2 * m - 1]?.getD 0 = min (xs[2 * m - 1]?.getD 0) ((b : Int) - 1) := by
  unfold cut
  rw [List.getElem?_set_self (by simp; omega)]
  rfl

theorem cut_same {xs : List Int} {m b : Nat} (h : 2 * m ≤ xs.length) (hl : 0 < m → xs[2 * m - 1]?.getD 0 < (b : Int)) : cut xs m b = xs.take (2 * m) := by
  unfold cut
  by_cases hm : 0 < m
  · have h1 := hl hm
    rw [show min (xs[2 * m - 1]?.getD 0) ((b : Int) - 1) = xs[2 * m - 1]?.getD 0 by omega]
    apply List.ext_getElem?
    intro i
    by_cases e : 2 * m - 1 = i
    · subst e
      rw [List.getElem?_set_self (by simp; omega), List.getElem?_take_of_lt (by omega), ← getD_of_lt (by omega)]
    · rw [List.getElem?_set_ne e]
  · obtain rfl : m = 0 := by omega
    simp

/-- One byte more. -/
theorem cut_step {xs : List Int} (hcn : Canon xs) {m b : Nat} (h : Cut xs m b) :
    (InP xs (xs.length / 2) b = false ∧ Cut xs m (b + 1) ∧ cut xs m (b + 1) = cut xs m b) ∨
    (InP xs (xs.length / 2) b = true ∧ 0 < m ∧ (cut xs m b)[2 * m - 1]?.getD 0 = (b : Int) - 1 ∧ Cut xs m (b + 1) ∧ cut xs m (b + 1) = (cut xs m b).set (2 * m - 1) b) ∨
    (InP xs (xs.length / 2) b = true ∧ (0 < m → (cut xs m b)[2 * m - 1]?.getD 0 ≠ (b : Int) - 1) ∧ Cut xs (m + 1) (b + 1) ∧ cut xs (m + 1) (b + 1) = cut xs m b ++ [(b : Int), b]) := by
  have hev := hcn.1
  have hle := h.le
  by_cases c1 : 0 < m ∧ (b : Int) ≤ xs[2 * m - 1]?.getD 0
  · obtain ⟨hm, hb⟩ := c1
    have hlo := h.lo hm
    refine Or.inr (Or.inl ⟨(inP_iff _ _ _).2 ⟨m - 1, by omega, by omega, by rw [show 2 * (m - 1) + 1 = 2 * m - 1 by omega]; exact hb⟩, hm, ?_, ⟨hle, fun _ => by have := h.lo hm; omega, fun hlt => ?_⟩, ?_⟩)
    · rw [cut_last hle hm]; omega
    · have := canon_mono hcn (m - 1) 0 (by omega)
      rw [show 2 * (m - 1) + 1 = 2 * m - 1 by omega, show m - 1 + 0 + 1 = m by omega] at this
      omega
    · unfold cut
      rw [List.set_set]
      congr 1
      omega
  · have hl : 0 < m → xs[2 * m - 1]?.getD 0 < (b : Int) := fun hm => by
      by_cases q : (b : Int) ≤ xs[2 * m - 1]?.getD 0
      · exact absurd ⟨hm, q⟩ c1
      · omega
    by_cases c2 : 2 * m < xs.length ∧ xs[2 * m]?.getD 0 = (b : Int)
    · obtain ⟨hlt, hb⟩ := c2
      have hp := (hcn.2.2 m hlt).1
      refine Or.inr (Or.inr ⟨(inP_iff _ _ _).2 ⟨m, by omega, by omega, by omega⟩, fun hm => ?_, ⟨by omega, fun _ => by rw [show m + 1 - 1 = m by omega]; omega, fun hlt2 => ?_⟩, ?_⟩)
      · rw [cut_last hle hm]
        have := canon_mono hcn (m - 1) 0 (by omega)
        rw [show 2 * (m - 1) + 1 = 2 * m - 1 by omega, show m - 1 + 0 + 1 = m by omega] at this
        omega
      · have := canon_mono hcn m 0 (by omega)
        rw [show m + 0 + 1 = m + 1 by omega] at this
        omega
      · rw [cut_same hle hl]
        unfold cut
        apply List.ext_getElem?
        intro i
        rw [show 2 * (m + 1) - 1 = 2 * m + 1 by omega, show 2 * (m + 1) = 2 * m + 2 by omega]
        by_cases e1 : i < 2 * m
        · rw [List.getElem?_set_ne (by omega), List.getElem?_take_of_lt (by omega), List.getElem?_append_left (by simp; omega), List.getElem?_take_of_lt e1]
        · rw [List.getElem?_append_right (by simp; omega), List.length_take, Nat.min_eq_left hle]
          by_cases e2 : i = 2 * m
          · subst e2
            rw [List.getElem?_set_ne (by omega), List.getElem?_take_of_lt (by omega), getD_of_lt (by omega), hb]
            simp
          · by_cases e3 : i = 2 * m + 1
            · subst e3
              rw [List.getElem?_set_self (by simp; omega), show 2 * m + 1 - 2 * m = 1 by omega, show min (xs[2 * m + 1]?.getD 0) (((b + 1 : Nat) : Int) - 1) = (b : Int) by omega]
              rfl
            · rw [List.getElem?_eq_none (by simp; omega), List.getElem?_eq_none (by simp; omega)]
    · refine Or.inl ⟨?_, ⟨hle, fun hm => by have := h.lo hm; omega, fun hlt => ?_⟩, ?_⟩
      · rw [Bool.eq_false_iff]
        intro hin
        obtain ⟨j, h1, h2, h3⟩ := (inP_iff _ _ _).1 hin
        by_cases e1 : j < m
        · by_cases e2 : j = m - 1
          · subst e2
            have := hl (by omega)
            rw [show 2 * (m - 1) + 1 = 2 * m - 1 by omega] at h3
            omega
          · have := canon_mono hcn j (m - 1 - j - 1) (by omega)
            rw [show j + (m - 1 - j - 1) + 1 = m - 1 by omega] at this
            have := h.lo (by omega)
            omega
        · by_cases e2 : j = m
          · subst e2
            have := h.nx (by omega)
            exact c2 ⟨by omega, by omega⟩
          · have h4 := canon_mono hcn m (j - m - 1) (by omega)
            rw [show m + (j - m - 1) + 1 = j by omega] at h4
            have h5 := h.nx (by omega)
            have h6 := (hcn.2.2 m (by omega)).1
            omega
      · have := h.nx hlt
        by_cases q : xs[2 * m]?.getD 0 = (b : Int)
        · exact absurd ⟨hlt, q⟩ c2
        · omega
      · rw [cut_same hle hl, cut_same hle (fun hm => by have := hl hm; omega)]

theorem cut_all {xs : List Int} (hcn : Canon xs) {m : Nat} (h : Cut xs m 256) : cut xs m 256 = xs := by
  have hev := hcn.1
  have hle := h.le
  have e : 2 * m = xs.length := by
    by_cases q : 2 * m < xs.length
    · have h1 := h.nx q
      have h2 := (hcn.2.1 (2 * m) q).2
      omega
    · omega
  rw [cut_same hle (fun hm => by have := (hcn.2.1 (2 * m - 1) (by omega)).2; omega), e, List.take_length]

theorem shr_bit (a i : Nat) (ha : a < 18446744073709551616) : (bits .and .u64 ((a : Int) / 2 ^ i) 1 == 1) = a.testBit i := by
  have h1 : (a : Int) / 2 ^ i = ((a / 2 ^ i : Nat) : Int) := by rw [Int.natCast_ediv, Int.natCast_pow]; rfl
  have h2 : a / 2 ^ i < 18446744073709551616 := Nat.lt_of_le_of_lt (Nat.div_le_self _ _) ha
  rw [h1, show (1 : Int) = ((1 : Nat) : Int) from rfl, bits_and_u64_nat _ _ h2 (by omega), Nat.and_one_is_mod, Nat.testBit_eq_decide_div_mod_eq]
  by_cases e : a / 2 ^ i % 2 = 1
  · simp [e]
  · have e0 : a / 2 ^ i % 2 = 0 := by omega
    simp [e0]

end Go.Proofs.YtmhafibngbojcaaDoor

namespace Go.Proofs.YtmhafibngbojcaaDoor
open Go.RowKit

/-- The greatest class of the first b bytes, -1 if there is none. -/
def top (xs : List Int) : Nat → Int
  | 0 => -1
  | b + 1 => if top xs b < xs[b]?.getD 0 then xs[b]?.getD 0 else top xs b

structure TabOk (xs ys : List Int) (zs : List Bool) (nc : Int) : Prop where
  st : 1 ≤ zs.length ∧ zs.length ≤ 1024
  hn : 1 ≤ nc ∧ nc ≤ 256
  cl : xs.length = 256
  up : ∀ b : Nat, b < 256 → 0 ≤ xs[b]?.getD 0 ∧ xs[b]?.getD 0 ≤ top xs b + 1
  tp : top xs 256 = nc - 1
  nx : (ys.length : Int) = zs.length * nc
  to : ∀ i : Nat, i < ys.length → 0 ≤ ys[i]?.getD 0 ∧ ys[i]?.getD 0 < zs.length

theorem top_bd (xs : List Int) : ∀ b : Nat, (∀ j : Nat, j < b → 0 ≤ xs[j]?.getD 0 ∧ xs[j]?.getD 0 ≤ top xs j + 1) → -1 ≤ top xs b ∧ top xs b < b := by
  intro b
  induction b with
  | zero => intro _; simp [top]
  | succ b ih =>
    intro h
    have h1 := ih (fun j hj => h j (by omega))
    have h2 := h b (by omega)
    simp only [top]
    split <;> omega

theorem top_mono (xs : List Int) (a : Nat) : ∀ b : Nat, a ≤ b → top xs a ≤ top xs b := by
  intro b
  induction b with
  | zero => intro h; obtain rfl : a = 0 := by omega
            exact Int.le_refl _
  | succ b ih =>
    intro h
    by_cases e : a = b + 1
    · subst e; exact Int.le_refl _
    · have h1 := ih (by omega)
      simp only [top]
      split <;> omega

theorem top_ge (xs : List Int) (b : Nat) : xs[b]?.getD 0 ≤ top xs (b + 1) := by simp only [top]; split <;> omega

theorem TabOk.cls {xs ys : List Int} {zs : List Bool} {nc : Int} (h : TabOk xs ys zs nc) {b : Nat} (hb : b < 256) : 0 ≤ xs[b]?.getD 0 ∧ xs[b]?.getD 0 < nc := by
  have h1 := top_ge xs b
  have h2 := top_mono xs (b + 1) 256 (by omega)
  have h3 := h.tp
  have h4 := h.up b hb
  omega

theorem w64 {n : Int} (h0 : 0 ≤ n) (h1 : n ≤ 1000000) : wrap64 n = n := by unfold wrap64; omega

end Go.Proofs.YtmhafibngbojcaaDoor
