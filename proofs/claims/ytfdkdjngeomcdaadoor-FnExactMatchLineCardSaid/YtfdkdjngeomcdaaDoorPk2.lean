import Derived.Test.YtfdkdjngeomcdaaDoorP6
import Derived.Test.YtfdkdjngeomcdaaDoorP1
import Derived.Test.YtfdkdjngeomcdaaDoorP2
namespace Go.Proofs.YtfdkdjngeomcdaaDoor
open Go.RowKit

theorem inP_iff (xs : List Int) (k b : Nat) : InP xs k b = true ↔ ∃ j : Nat, j < k ∧ xs[2 * j]?.getD 0 ≤ (b : Int) ∧ (b : Int) ≤ xs[2 * j + 1]?.getD 0 := by
  induction k with
  | zero => simp [InP]
  | succ k ih =>
    simp only [InP, Bool.or_eq_true, decide_eq_true_eq, ih]
    constructor
    · rintro (⟨j, h1, h2⟩ | h)
      · exact ⟨j, by omega, h2⟩
      · exact ⟨k, by omega, h⟩
    · rintro ⟨j, h1, h2⟩
      by_cases e : j = k
      · subst e; exact Or.inr h2
      · exact Or.inl ⟨j, by omega, h2⟩

theorem canon_mono {xs : List Int} (h : Canon xs) (j : Nat) : ∀ d : Nat, 2 * (j + d + 1) < xs.length → xs[2 * j + 1]?.getD 0 + 2 ≤ xs[2 * (j + d + 1)]?.getD 0 := by
  intro d
  induction d with
  | zero =>
    intro hlt
    have h1 := (h.2.2 (j + 1) (by omega)).2 (by omega)
    rw [show 2 * (j + 1) - 1 = 2 * j + 1 by omega] at h1
    rw [show j + 0 + 1 = j + 1 by omega]
    omega
  | succ d ih =>
    intro hlt
    have h0 := ih (by omega)
    have h1 := (h.2.2 (j + d + 1 + 1) (by omega)).2 (by omega)
    have h2 := (h.2.2 (j + d + 1) (by omega)).1
    rw [show 2 * (j + d + 1 + 1) - 1 = 2 * (j + d + 1) + 1 by omega] at h1
    rw [show j + (d + 1) + 1 = j + d + 1 + 1 by omega]
    omega

/-- The first m ranges, the last of them cut off ahead of b. -/
def cut (xs : List Int) (m b : Nat) : List Int := (xs.take (2 * m)).set (2 * m - 1) (min (xs[2 * m - 1]?.getD 0) ((b : Int) - 1))
structure Cut (xs : List Int) (m b : Nat) : Prop where
  le : 2 * m ≤ xs.length
  lo : 0 < m → xs[2 * (m - 1)]?.getD 0 < (b : Int)
  nx : 2 * m < xs.length → (b : Int) ≤ xs[2 * m]?.getD 0

theorem cut_len (xs : List Int) (m b : Nat) (h : 2 * m ≤ xs.length) : (cut xs m b).length = 2 * m := by simp [cut]; omega

theorem cut_last {xs : List Int} {m b : Nat} (h : 2 * m ≤ xs.length) (hm : 0 < m) : (cut xs m b)[2 * m - 1]?.getD 0 = min (xs[2 * m - 1]?.getD 0) ((b : Int) - 1) := by
  unfold cut
  rw [List.getElem?_set_self (by simp; omega)]
  rfl

theorem cut_same {xs : List Int} {m b : Nat} (h : 2 * m ≤ xs.length) (hl : 0 < m → xs[2 * m - 1]?.getD 0 < (b : Int)) : cut xs m b = xs.take (2 * m) := by
  unfold cut
  by_cases hm : 0 < m
  · have h1 := hl hm
    rw [show min (xs[2 * m - 1]?.getD 0) ((b : Int) - 1) = xs[2 * m - 1]?.getD 0 by omega]
    apply List.ext_getElem?
    intro i
    by_cases e : 2 * m - 1 = i
    · subst e
      rw [List.getElem?_set_self (by simp; omega), List.getElem?_take_of_lt (by omega), ← getD_of_lt (by omega)]
    · rw [List.getElem?_set_ne e]
  · obtain rfl : m = 0 := by omega
    simp

/-- One byte more. -/
theorem cut_step {xs : List Int} (hcn : Canon xs) {m b : Nat} (h : Cut xs m b) :
    (InP xs (xs.length / 2) b = false ∧ Cut xs m (b + 1) ∧ cut xs m (b + 1) = cut xs m b) ∨
    (InP xs (xs.length / 2) b = true ∧ 0 < m ∧ (cut xs m b)[2 * m - 1]?.getD 0 = (b : Int) - 1 ∧ Cut xs m (b + 1) ∧ cut xs m (b + 1) = (cut xs m b).set (2 * m - 1) b) ∨
    (InP xs (xs.length / 2) b = true ∧ (0 < m → (cut xs m b)[2 * m - 1]?.getD 0 ≠ (b : Int) - 1) ∧ Cut xs (m + 1) (b + 1) ∧ cut xs (m + 1) (b + 1) = cut xs m b ++ [(b : Int), b]) := by
  have hev := hcn.1
  have hle := h.le
  by_cases c1 : 0 < m ∧ (b : Int) ≤ xs[2 * m - 1]?.getD 0
  · obtain ⟨hm, hb⟩ := c1
    have hlo := h.lo hm
    refine Or.inr (Or.inl ⟨(inP_iff _ _ _).2 ⟨m - 1, by omega, by omega, by rw [show 2 * (m - 1) + 1 = 2 * m - 1 by omega]; exact hb⟩, hm, ?_, ⟨hle, fun _ => by have := h.lo hm; omega, fun hlt => ?_⟩, ?_⟩)
    · rw [cut_last hle hm]; omega
    · have := canon_mono hcn (m - 1) 0 (by omega)
      rw [show 2 * (m - 1) + 1 = 2 * m - 1 by omega, show m - 1 + 0 + 1 = m by omega] at this
      omega
    · unfold cut
      rw [List.set_set]
      congr 1
      omega
  · have hl : 0 < m → xs[2 * m - 1]?.getD 0 < (b : Int) := fun hm => by
      by_cases q : (b : Int) ≤ xs[2 * m - 1]?.getD 0
      · exact absurd ⟨hm, q⟩ c1
      · omega
    by_cases c2 : 2 * m < xs.length ∧ xs[2 * m]?.getD 0 = (b : Int)
    · obtain ⟨hlt, hb⟩ := c2
      have hp := (hcn.2.2 m hlt).1
      refine Or.inr (Or.inr ⟨(inP_iff _ _ _).2 ⟨m, by omega, by omega, by omega⟩, fun hm => ?_, ⟨by omega, fun _ => by rw [show m + 1 - 1 = m by omega]; omega, fun hlt2 => ?_⟩, ?_⟩)
      · rw [cut_last hle hm]
        have := canon_mono hcn (m - 1) 0 (by omega)
        rw [show 2 * (m - 1) + 1 = 2 * m - 1 by omega, show m - 1 + 0 + 1 = m by omega] at this
        omega
      · have := canon_mono hcn m 0 (by omega)
        rw [show m + 0 + 1 = m + 1 by omega] at this
        omega
      · rw [cut_same hle hl]
        unfold cut
        apply List.ext_getElem?
        intro i
        rw [show 2 * (m + 1) - 1 = 2 * m + 1 by omega, show 2 * (m + 1) = 2 * m + 2 by omega]
        by_cases e1 : i < 2 * m
        · rw [List.getElem?_set_ne (by omega), List.getElem?_take_of_lt (by omega), List.getElem?_append_left (by simp; omega), List.getElem?_take_of_lt e1]
        · rw [List.getElem?_append_right (by simp; omega), List.length_take, Nat.min_eq_left hle]
          by_cases e2 : i = 2 * m
          · subst e2
            rw [List.getElem?_set_ne (by omega), List.getElem?_take_of_lt (by omega), getD_of_lt (by omega), hb]
            simp
          · by_cases e3 : i = 2 * m + 1
            · subst e3
              rw [List.getElem?_set_self (by simp; omega), show 2 * m + 1 - 2 * m = 1 by omega, show min (xs[2 * m + 1]?.getD 0) (((b + 1 : Nat) : Int) - 1) = (b : Int) by omega]
              rfl
            · rw [List.getElem?_eq_none (by simp; omega), List.getElem?_eq_none (by simp; omega)]
    · refine Or.inl ⟨?_, ⟨hle, fun hm => by have := h.lo hm; omega, fun hlt => ?_⟩, ?_⟩
      · rw [Bool.eq_false_iff]
        intro hin
        obtain ⟨j, h1, h2, h3⟩ := (inP_iff _ _ _).1 hin
        by_cases e1 : j < m
        · by_cases e2 : j = m - 1
          · subst e2
            have := hl (by omega)
            rw [show 2 * (m - 1) + 1 = 2 * m - 1 by omega] at h3
            omega
          · have := canon_mono hcn j (m - 1 - j - 1) (by omega)
            rw [show j + (m - 1 - j - 1) + 1 = m - 1 by omega] at this
            have := h.lo (by omega)
            omega
        · by_cases e2 : j = m
          · subst e2
            have := h.nx (by omega)
            exact c2 ⟨by omega, by omega⟩
          · have h4 := canon_mono hcn m (j - m - 1) (by omega)
            rw [show m + (j - m - 1) + 1 = j by omega] at h4
            have h5 := h.nx (by omega)
            have h6 := (hcn.2.2 m (by omega)).1
            omega
      · have := h.nx hlt
        by_cases q : xs[2 * m]?.getD 0 = (b : Int)
        · exact absurd ⟨hlt, q⟩ c2
        · omega
      · rw [cut_same hle hl, cut_same hle (fun hm => by have := hl hm; omega)]

theorem cut_all {xs : List Int} (hcn : Canon xs) {m : Nat} (h : Cut xs m 256) : cut xs m 256 = xs := by
  have hev := hcn.1
  have hle := h.le
  have e : 2 * m = xs.length := by
    by_cases q : 2 * m < xs.length
    · have h1 := h.nx q
      have h2 := (hcn.2.1 (2 * m) q).2
      omega
    · omega
  rw [cut_same hle (fun hm => by have := (hcn.2.1 (2 * m - 1) (by omega)).2; omega), e, List.take_length]

theorem shr_bit (a i : Nat) (ha : a < 18446744073709551616) : (bits .and .u64 ((a : Int) / 2 ^ i) 1 == 1) = a.testBit i := by
  have h1 : (a : Int) / 2 ^ i = ((a / 2 ^ i : Nat) : Int) := by rw [Int.natCast_ediv, Int.natCast_pow]; rfl
  have h2 : a / 2 ^ i < 18446744073709551616 := Nat.lt_of_le_of_lt (Nat.div_le_self _ _) ha
  rw [h1, show (1 : Int) = ((1 : Nat) : Int) from rfl, bits_and_u64_nat _ _ h2 (by omega), Nat.and_one_is_mod, Nat.testBit_eq_decide_div_mod_eq]
  by_cases e : a / 2 ^ i % 2 = 1
  · simp [e]
  · have e0 : a / 2 ^ i % 2 = 0 := by omega
    simp [e0]

end Go.Proofs.YtfdkdjngeomcdaaDoor

namespace Go.Proofs.YtfdkdjngeomcdaaDoor
open Go.RowKit

/-- What is left behind a list of n values: -1 where it does not reach. -/
def szR (left n : Int) : Int := if left < n then -1 else left - n

theorem szR_neg {left n : Int} (h : left < n) : szR left n = -1 := by unfold szR; rw [if_pos h]
theorem szR_pos {left n : Int} (h : n ≤ left) : szR left n = left - n := by unfold szR; rw [if_neg (by omega)]

/-- How many values a list of elements holds: the elements and the numbers of their sets. -/
def bulk : List El → Nat
  | [] => 0
  | x :: r => x.set.length + bulk r

set_option maxHeartbeats 400000 in
theorem szIntS_any (a : Option Addr) (len cap : Nat) (left : Int) (w : World) (hlen : len ≤ maxLen) (h0 : 0 ≤ left) (h1 : left ≤ 1048576) :
    Calls Tryd.prog 35 #[.slice a len cap, .int .i64 left] w fun e w' => e = .returned (.int .i64 (szR left len)) ∧ w' = w := by
  unfold maxLen at hlen
  by_cases hlt : left < (len : Int)
  · go_enter Tryd.func35, Tryd.ntmps35
    go_wp2
    go_ret
    exact ⟨ret_int (szR_neg hlt).symm, rfl⟩
  · have hlt' : (len : Int) ≤ left := by omega
    go_enter Tryd.func35, Tryd.ntmps35
    go_wp2
    go_ret
    exact ⟨ret_int (szR_pos hlt').symm, rfl⟩

set_option maxHeartbeats 400000 in
theorem szOp_any (a : Option Addr) (len cap : Nat) (k mn mx left : Int) (w : World) (hlen : len ≤ maxLen) (h0 : 0 ≤ left) (h1 : left ≤ 1048576) :
    Calls Tryd.prog 20 #[.agg #[.int .i64 k, .slice a len cap, .int .i64 mn, .int .i64 mx], .int .i64 left] w fun e w' => e = .returned (.int .i64 (szR left len)) ∧ Below w.heap.size w w' := by
  by_cases hlt : left < (len : Int)
  · have e := szR_neg hlt
    go_enter Tryd.func20, Tryd.ntmps20
    go_wp2_with (go_at_call 35; refine (szIntS_any _ _ _ _ _ hlen h0 h1).mono ?_; rintro e w' ⟨rfl, rfl⟩)
    go_ret
    exact ⟨ret_int e.symm, (Below.refl _ _).alloc (Nat.le_refl _) _⟩
  · have hlt' : (len : Int) ≤ left := by omega
    have e := szR_pos hlt'
    go_enter Tryd.func20, Tryd.ntmps20
    go_wp2_with (go_at_call 35; refine (szIntS_any _ _ _ _ _ hlen h0 h1).mono ?_; rintro e w' ⟨rfl, rfl⟩)
    go_ret
    exact ⟨ret_int e.symm, (Below.refl _ _).alloc (Nat.le_refl _) _⟩


theorem bulk_take_succ (xs : List El) (k : Nat) (h : k < xs.length) : bulk (xs.take (k + 1)) = bulk (xs.take k) + (xs[k]?.getD dE).set.length := by
  induction xs generalizing k with
  | nil => simp at h
  | cons x r ih =>
    cases k with
    | zero => simp [bulk]
    | succ k => simp only [List.take_succ_cons, bulk, List.getElem?_cons_succ]; rw [ih k (by simpa using h)]; omega

set_option maxHeartbeats 1000000 in
theorem szOpS_any (v : Value) (xs : List El) (left : Int) (w : World) (hv : ElsAt 0 w.heap.size w v xs) (h0 : 0 ≤ left) (h1 : left ≤ 1048576) :
    Calls Tryd.prog 11 #[v, .int .i64 left] w fun e w' => (∃ r : Int, e = .returned (.int .i64 r) ∧ (r = -1 ∨ (0 ≤ r ∧ r = left - xs.length - bulk xs))) ∧ Below w.heap.size w w' := by
  obtain ⟨a, cap, rfl, hlen, hc⟩ := hv
  unfold maxLen at hlen
  by_cases hlt : left < (xs.length : Int)
  · go_enter Tryd.func11, Tryd.ntmps11
    go_wp2
    go_ret
    exact ⟨⟨-1, rfl, Or.inl rfl⟩, Below.refl _ _⟩
  · have hlt' : (xs.length : Int) ≤ left := by omega
    go_enter Tryd.func11, Tryd.ntmps11
    go_wp2
    go_loopw [1, 5] (fun l i w' => ∃ k : Nat, k ≤ xs.length ∧ i = .int .i64 k ∧ l = .int .i64 (left - xs.length - bulk (xs.take k)) ∧ 0 ≤ left - xs.length - bulk (xs.take k) ∧ Below w.heap.size w w') (fun _ i _ => xs.length - (intOf i).toNat)
    case atStart => exact ⟨0, Nat.zero_le _, rfl, by simp [bulk], by simp [bulk]; omega, Below.refl _ _⟩
    case round =>
      obtain ⟨k, hk, rfl, rfl, hge, hb⟩ := hrel
      by_cases hlt2 : k < xs.length
      · obtain ⟨b, off, rfl, -, hbn, hel⟩ := hc (by omega)
        obtain ⟨i1, i2, i3, v, c0, c1, c2, c3, a', cap', rfl, hl', hr', hc'⟩ := (hel k hlt2).same (Same.of_below hb (Nat.le_refl _)) (Nat.zero_le _) hbn
        have hlt3 : (k : Int) < (xs.length : Int) := by omega
        have hsz := hb.size
        have HB := bulk_take_succ xs k hlt2
        generalize xs[k]?.getD dE = x at *
        generalize hL : left - (xs.length : Int) - (bulk (List.take k xs) : Int) = L at *
        have HL := hide hL
        have HB' := hide HB
        clear HB hL
        have hL1 : L ≤ 1048576 := by have := unhide HL; omega
        by_cases hx : L < (x.set.length : Int)
        · have hz := szR_neg hx
          go_wp2_with (go_at_call 20; refine (szOp_any _ _ _ _ _ _ _ _ hl' hge hL1).mono ?_; rintro e w1 ⟨rfl, hb1⟩)
          go_ret
          exact ⟨⟨-1, rfl, Or.inl rfl⟩, hb.trans (hb1.mono hsz)⟩
        · have hx' : (x.set.length : Int) ≤ L := by omega
          have hz := szR_pos hx'
          go_wp2_with (go_at_call 20; refine (szOp_any _ _ _ _ _ _ _ _ hl' hge hL1).mono ?_; rintro e w1 ⟨rfl, hb1⟩)
          go_roundw
          case rel => exact ⟨k + 1, by omega, by go_num, by have h1 := unhide HL; have h2 := unhide HB'; rw [h2]; congr 1; omega, by have h1 := unhide HL; have h2 := unhide HB'; rw [h2]; omega, hb.trans (hb1.mono hsz)⟩
          case measure => simp [intOf]; omega
      · have hlt3 : ¬ (k : Int) < (xs.length : Int) := by omega
        have hkk : k = xs.length := by omega
        subst hkk
        go_wp2
        go_ret
        exact ⟨⟨_, rfl, Or.inr ⟨by simpa using hge, by simp⟩⟩, hb⟩

end Go.Proofs.YtfdkdjngeomcdaaDoor

namespace Go.Proofs.YtfdkdjngeomcdaaDoor
open Go.RowKit

theorem SameB.put {lo n : Nat} {a w : World} (h : SameB lo n a w) {b o : Nat} (hb : b < lo ∨ n ≤ b) (u : Value) : SameB lo n a (w.setCell ⟨b, o, none⟩ u) :=
  fun k h1 h2 => (Below.heap_setCell _ _ _ _ (by show k ≠ b; omega)).trans (h k h1 h2)

/-- A block of four cells. -/
def Row4 (w : World) (b : Nat) (t : TypeId) (c0 c1 c2 c3 : Value) : Prop := w.rowIs b t 4 (fun j => [c0, c1, c2, c3].getD j undef)
theorem Row4.new (w : World) (t : TypeId) (c0 c1 c2 c3 : Value) : Row4 (w.alloc (.cells #[c0, c1, c2, c3] t)) w.heap.size t c0 c1 c2 c3 :=
  World.rowIs_alloc w #[c0, c1, c2, c3] t _ (fun i hi => by
    match i, hi with
    | 0, _ => rfl
    | 1, _ => rfl
    | 2, _ => rfl
    | 3, _ => rfl)
theorem Row4.alloc {w : World} {b : Nat} {t : TypeId} {c0 c1 c2 c3 : Value} (h : Row4 w b t c0 c1 c2 c3) (o : Obj) : Row4 (w.alloc o) b t c0 c1 c2 c3 := World.rowIs.alloc h o
theorem Row4.below {w w' : World} {b m : Nat} {t : TypeId} {c0 c1 c2 c3 : Value} (h : Row4 w b t c0 c1 c2 c3) (hb : Below m w w') (hm : b < m) : Row4 w' b t c0 c1 c2 c3 := World.rowIs.of_block h (hb.block b hm)
theorem Row4.other {w : World} {b b' o : Nat} {t : TypeId} {c0 c1 c2 c3 u : Value} (h : Row4 w b t c0 c1 c2 c3) (hb : b ≠ b') : Row4 (w.setCell ⟨b', o, none⟩ u) b t c0 c1 c2 c3 := World.rowIs.setOther h hb u
theorem Row4.put0 {w : World} {b : Nat} {t : TypeId} {c0 c1 c2 c3 u : Value} (h : Row4 w b t c0 c1 c2 c3) : Row4 (w.setCell ⟨b, 0, none⟩ u) b t u c1 c2 c3 := (World.rowIs.set h 0 u).congr (fun i hi => by
    match i, hi with
    | 0, _ => rfl
    | 1, _ => rfl
    | 2, _ => rfl
    | 3, _ => rfl)
theorem Row4.put1 {w : World} {b : Nat} {t : TypeId} {c0 c1 c2 c3 u : Value} (h : Row4 w b t c0 c1 c2 c3) : Row4 (w.setCell ⟨b, 1, none⟩ u) b t c0 u c2 c3 := (World.rowIs.set h 1 u).congr (fun i hi => by
    match i, hi with
    | 0, _ => rfl
    | 1, _ => rfl
    | 2, _ => rfl
    | 3, _ => rfl)
theorem Row4.put2 {w : World} {b : Nat} {t : TypeId} {c0 c1 c2 c3 u : Value} (h : Row4 w b t c0 c1 c2 c3) : Row4 (w.setCell ⟨b, 2, none⟩ u) b t c0 c1 u c3 := (World.rowIs.set h 2 u).congr (fun i hi => by
    match i, hi with
    | 0, _ => rfl
    | 1, _ => rfl
    | 2, _ => rfl
    | 3, _ => rfl)
/-- What the walk asks of it. -/
theorem Row4.facts {w : World} {b : Nat} {t : TypeId} {c0 c1 c2 c3 : Value} (h : Row4 w b t c0 c1 c2 c3) :
    w.cell? ⟨b, 0, none⟩ = some c0 ∧ w.cell? ⟨b, 1, none⟩ = some c1 ∧ w.cell? ⟨b, 2, none⟩ = some c2 ∧ w.cell? ⟨b, 3, none⟩ = some c3 ∧ w.frozen? ⟨b, 0, none⟩ = false ∧ w.frozen? ⟨b, 1, none⟩ = false ∧ w.frozen? ⟨b, 2, none⟩ = false ∧ w.frozen? ⟨b, 3, none⟩ = false :=
  ⟨World.rowIs.cell h (i := 0) (by omega), World.rowIs.cell h (i := 1) (by omega), World.rowIs.cell h (i := 2) (by omega), World.rowIs.cell h (i := 3) (by omega), World.rowIs.frozen h 0, World.rowIs.frozen h 1, World.rowIs.frozen h 2, World.rowIs.frozen h 3⟩

end Go.Proofs.YtfdkdjngeomcdaaDoor

namespace Go.Proofs.YtfdkdjngeomcdaaDoor
open Go.RowKit


end Go.Proofs.YtfdkdjngeomcdaaDoor

namespace Go.Proofs.YtfdkdjngeomcdaaDoor
open Go.RowKit

/-- The greatest class of the first b bytes, -1 if there is none. -/
def top (xs : List Int) : Nat → Int
  | 0 => -1
  | b + 1 => if top xs b < xs[b]?.getD 0 then xs[b]?.getD 0 else top xs b

structure TabOk (xs ys : List Int) (zs : List Bool) (nc : Int) : Prop where
  st : 1 ≤ zs.length ∧ zs.length ≤ 1024
  hn : 1 ≤ nc ∧ nc ≤ 256
  cl : xs.length = 256
  up : ∀ b : Nat, b < 256 → 0 ≤ xs[b]?.getD 0 ∧ xs[b]?.getD 0 ≤ top xs b + 1
  tp : top xs 256 = nc - 1
  nx : (ys.length : Int) = zs.length * nc
  to : ∀ i : Nat, i < ys.length → 0 ≤ ys[i]?.getD 0 ∧ ys[i]?.getD 0 < zs.length

theorem top_bd (xs : List Int) : ∀ b : Nat, (∀ j : Nat, j < b → 0 ≤ xs[j]?.getD 0 ∧ xs[j]?.getD 0 ≤ top xs j + 1) → -1 ≤ top xs b ∧ top xs b < b := by
  intro b
  induction b with
  | zero => intro _; simp [top]
  | succ b ih =>
    intro h
    have h1 := ih (fun j hj => h j (by omega))
    have h2 := h b (by omega)
    simp only [top]
    split <;> omega

theorem top_mono (xs : List Int) (a : Nat) : ∀ b : Nat, a ≤ b → top xs a ≤ top xs b := by
  intro b
  induction b with
  | zero => intro h; obtain rfl : a = 0 := by omega
            exact Int.le_refl _
  | succ b ih =>
    intro h
    by_cases e : a = b + 1
    · subst e; exact Int.le_refl _
    · have h1 := ih (by omega)
      simp only [top]
      split <;> omega

theorem top_ge (xs : List Int) (b : Nat) : xs[b]?.getD 0 ≤ top xs (b + 1) := by simp only [top]; split <;> omega

theorem TabOk.cls {xs ys : List Int} {zs : List Bool} {nc : Int} (h : TabOk xs ys zs nc) {b : Nat} (hb : b < 256) : 0 ≤ xs[b]?.getD 0 ∧ xs[b]?.getD 0 < nc := by
  have h1 := top_ge xs b
  have h2 := top_mono xs (b + 1) 256 (by omega)
  have h3 := h.tp
  have h4 := h.up b hb
  omega

theorem w64 {n : Int} (h0 : 0 ≤ n) (h1 : n ≤ 1000000) : wrap64 n = n := by unfold wrap64; omega

end Go.Proofs.YtfdkdjngeomcdaaDoor

namespace Go.Proofs.YtfdkdjngeomcdaaDoor
open Go.RowKit

/-- The state behind n bytes. -/
def stt (xs ys bs : List Int) (nc : Int) : Nat → Int
  | 0 => 0
  | n + 1 => ys[(stt xs ys bs nc n * nc + xs[(bs[n]?.getD 0).toNat]?.getD 0).toNat]?.getD 0
def trace (xs ys bs : List Int) (nc : Int) (n : Nat) : List Int := (List.range n).map (stt xs ys bs nc)
theorem trace_len (xs ys bs : List Int) (nc : Int) (n : Nat) : (trace xs ys bs nc n).length = n := by simp [trace]
theorem trace_get (xs ys bs : List Int) (nc : Int) (n i : Nat) (h : i < n) : (trace xs ys bs nc n)[i]?.getD 0 = stt xs ys bs nc i := by simp [trace, h]
theorem trace_succ (xs ys bs : List Int) (nc : Int) (n : Nat) : trace xs ys bs nc (n + 1) = trace xs ys bs nc n ++ [stt xs ys bs nc n] := by simp [trace, List.range_succ]

theorem idx_bd {s c nc S : Int} (s0 : 0 ≤ s) (s1 : s < S) (c0 : 0 ≤ c) (c1 : c < nc) (hn : nc ≤ 256) (hS : S ≤ 1024) : 0 ≤ s * nc ∧ s * nc ≤ 262144 ∧ s * nc + c < S * nc := by
  have h1 : 0 ≤ s * nc := Int.mul_nonneg s0 (by omega)
  have h2 : s * nc + nc ≤ S * nc := by
    have : (s + 1) * nc ≤ S * nc := Int.mul_le_mul_of_nonneg_right (by omega) (by omega)
    rw [Int.add_mul, Int.one_mul] at this
    exact this
  have h3 : s * nc ≤ 1024 * 256 := Int.mul_le_mul (by omega) (by omega) (by omega) (by omega)
  omega

theorem stt_bd {xs ys bs : List Int} {zs : List Bool} {nc : Int} (h : TabOk xs ys zs nc) (hb : ∀ i : Nat, 0 ≤ bs[i]?.getD 0 ∧ bs[i]?.getD 0 ≤ 255) : ∀ n : Nat, 0 ≤ stt xs ys bs nc n ∧ stt xs ys bs nc n < zs.length := by
  intro n
  induction n with
  | zero => have := h.st; simp [stt]; omega
  | succ n ih =>
    have hc := h.cls (b := (bs[n]?.getD 0).toNat) (by have := hb n; omega)
    have hi := idx_bd ih.1 ih.2 hc.1 hc.2 h.hn.2 (by have := h.st; omega)
    have hx := h.nx
    simp only [stt]
    exact h.to _ (by omega)

/-- What the run of a table answers. -/
def RunRet (e : Ending) (w w' : World) (xs ys bs : List Int) (zs : List Bool) (nc : Int) : Prop :=
  (¬ TabOk xs ys zs nc ∧ e = .returned (.tuple #[.bool false, .slice none 0 0])) ∨
  (TabOk xs ys zs nc ∧ ∃ v, e = .returned (.tuple #[.bool (zs[(stt xs ys bs nc bs.length).toNat]?.getD false), v]) ∧ SlW mI 0 w.heap.size w'.heap.size w' v (trace xs ys bs nc (bs.length + 1)))

/-- One state more. -/
theorem run_step {xs ys bs : List Int} {nc : Int} {n : Nat} {w1 wr w2 : World} {tv v' : Value} {o : Obj} {q : Nat} (hown : wr.ownsRow w1.heap.size 3 1 tv n ((trace xs ys bs nc n).map mI)) (hb : Below w1.heap.size w1 wr)
    (h1 : w2.ownsRow w1.heap.size 3 1 v' (n + 1) ((trace xs ys bs nc n).map mI ++ [.int .i64 (stt xs ys bs nc n)])) (hg : ((wr.drewN q).alloc o).grownBy w2 tv.ownBlock) :
    w2.ownsRow w1.heap.size 3 1 v' (n + 1) ((trace xs ys bs nc (n + 1)).map mI) ∧ Below w1.heap.size w1 w2 := by
  refine ⟨by rw [trace_succ, List.map_append]; exact h1, ((below_drewN hb q).alloc hb.size o).grown hg (by rw [sz_alloc]; exact Nat.le_succ_of_le hb.size) (fun k hk => (hown.lt k hk).1)⟩

end Go.Proofs.YtfdkdjngeomcdaaDoor

namespace Go.Proofs.YtfdkdjngeomcdaaDoor
open Go.RowKit

set_option maxHeartbeats 1000000 in
theorem has_w (g : Nat → Nat) (b : Nat) (w : World) (hg : Fit g) (hb : b < 256) :
    Calls Tryd.prog 65 #[ws4 g, .int .i64 b] w fun e w' => e = .returned (.bool (Bt g b)) ∧ Below w.heap.size w w' := by
  unfold ws4
  have hbt : Hid ((bits .and .u64 ((g (b / 64) : Int) / 2 ^ (b % 64)) 1 == 1) = Bt g b) := shr_bit _ _ (hg _)
  have hrow := four_row w 64 g
  have hq : b / 64 < 4 := by omega
  have c0 := hrow.cell hq
  have hq2 : (b : Int) / 64 < 4 := by omega
  have hq3 : 0 ≤ (b : Int) / 64 := by omega
  clear hrow hg
  go_enter Tryd.func65, Tryd.ntmps65
  go_wp2
  go_ret
  exact ⟨ret_bool (unhide hbt), below1 w _⟩

theorem canon_ge {xs : List Int} (h : Canon xs) : ∀ j : Nat, 2 * j < xs.length → 2 * (j : Int) ≤ xs[2 * j]?.getD 0 := by
  intro j
  induction j with
  | zero => intro hlt; have := (h.2.1 0 hlt).1; simpa using this
  | succ j ih =>
    intro hlt
    have h1 := ih (by omega)
    have h2 := (h.2.2 j (by omega)).1
    have h3 := canon_mono h j 0 (by omega)
    rw [show j + 0 + 1 = j + 1 by omega] at h3
    omega

theorem Cut.bd {xs : List Int} {m b : Nat} (hcn : Canon xs) (h : Cut xs m b) (hb : b ≤ 256) : m ≤ 129 := by
  by_cases hm : 0 < m
  · have h1 := h.lo hm
    have h2 := canon_ge hcn (m - 1) (by have := h.le; omega)
    omega
  · omega

theorem cell_2 {W : World} {N : Nat} {u v : Value} (h : W.cell? ⟨N, 0, none⟩ = some u) (h' : W.cell? ⟨N, 1, none⟩ = some v) : ∀ (j : Nat) (y : Value), [u, v][j]? = some y → W.cell? ((⟨N, 0, none⟩ : Addr).add j) = some y := by
  intro j y hj
  match j, hj with
  | 0, hj => simp at hj; subst hj; exact h
  | 1, hj => simp at hj; subst hj; exact h'

theorem own_int_slw {base lo n : Nat} {w : World} {v : Value} {xs : List Int} (h : w.ownsRow base 3 1 v n (xs.map mI)) (hlo : lo ≤ base) (hn : n ≤ maxLen) : SlW mI 0 lo w.heap.size w v xs := own_slw h hlo hn

end Go.Proofs.YtfdkdjngeomcdaaDoor
