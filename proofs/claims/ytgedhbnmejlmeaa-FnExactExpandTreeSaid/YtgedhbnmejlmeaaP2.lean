import Derived.Test.YtgedhbnmejlmeaaP1
import Derived.Deep.OwnRows
namespace Go.Proofs.Ytgedhbnmejlmeaa
open Go.RowKit

theorem SameB.refl (lo n : Nat) (w : World) : SameB lo n w w := fun _ _ _ => rfl
theorem SameB.trans {lo n : Nat} {a b c : World} (h : SameB lo n a b) (k : SameB lo n b c) : SameB lo n a c := fun i h1 h2 => (k i h1 h2).trans (h i h1 h2)
def Bytes (bs : List Int) : Prop := ∀ i : Nat, 0 ≤ bs[i]?.getD 0 ∧ bs[i]?.getD 0 ≤ 255
theorem SlW.keep {α : Type} {mk : α → Value} {d : α} {lo n m : Nat} {w w' : World} {v : Value} {xs : List α} (h : SlW mk d lo n w v xs) (hb : Below m w w') (hn : n ≤ m) : SlW mk d lo n w' v xs := h.same (SameB.of_below hb hn)
theorem SlW.all {α : Type} {mk : α → Value} {d : α} {lo n : Nat} {w : World} {v : Value} {xs : List α} (h : SlW mk d lo n w v xs) (hn : n ≤ w.heap.size) : SlAt mk d 0 w.heap.size w v xs := h.at.mono (Nat.zero_le _) hn
theorem SlW.val {α : Type} {mk : α → Value} {d : α} {lo n : Nat} {w : World} {v : Value} {xs : List α} (h : SlW mk d lo n w v xs) : ∃ a cap, v = .slice a xs.length cap := by
  obtain ⟨a, cap, rfl, -, -⟩ := h
  exact ⟨a, cap, rfl⟩
theorem drewB {m : Nat} {w : World} (q : Nat) : Below m w (w.drewN q) := below_drewN (Below.refl _ _) q
theorem SameB.mono {lo n lo' n' : Nat} {a b : World} (h : SameB lo n a b) (h1 : lo ≤ lo') (h2 : n' ≤ n) : SameB lo' n' a b := fun k k1 k2 => h k (by omega) (by omega)
theorem SlAt.cut {α : Type} {mk : α → Value} {d : α} {m : Nat} {w w' : World} {v : Value} {xs : List α} (h : SlAt mk d 0 w.heap.size w v xs) (hb : Below m w w') (hm : w.heap.size ≤ m) : SlAt mk d 0 w'.heap.size w' v xs := h.below hb hm
theorem SlAt.drewN {α : Type} {mk : α → Value} {d : α} {lo n : Nat} {w : World} {v : Value} {xs : List α} (h : SlAt mk d lo n w v xs) (q : Nat) : SlAt mk d lo n (w.drewN q) v xs := h

end Go.Proofs.Ytgedhbnmejlmeaa

namespace Go.Proofs.Ytgedhbnmejlmeaa
open Go.RowKit

/-- What is left behind a list of n values: -1 where it does not reach. -/
def szR (left n : Int) : Int := if left < n then -1 else left - n

theorem szR_neg {left n : Int} (h : left < n) : szR left n = -1 := by unfold szR; rw [if_pos h]
theorem szR_pos {left n : Int} (h : n ≤ left) : szR left n = left - n := by unfold szR; rw [if_neg (by omega)]

/-- How many values a list of elements holds: the elements and the numbers of their sets. -/
def bulk : List El → Nat
  | [] => 0
  | x :: r => x.set.length + bulk r

set_option maxHeartbeats 400000 in
theorem szIntS_any (a : Option Addr) (len cap : Nat) (left : Int) (w : World) (hlen : len ≤ maxLen) (h0 : 0 ≤ left) (h1 : left ≤ 1048576) :
    Calls Try.prog 37 #[.slice a len cap, .int .i64 left] w fun e w' => e = .returned (.int .i64 (szR left len)) ∧ w' = w := by
  unfold maxLen at hlen
  by_cases hlt : left < (len : Int)
  · go_enter Try.func37, Try.ntmps37
    go_wp2
    go_ret
    exact ⟨ret_int (szR_neg hlt).symm, rfl⟩
  · have hlt' : (len : Int) ≤ left := by omega
    go_enter Try.func37, Try.ntmps37
    go_wp2
    go_ret
    exact ⟨ret_int (szR_pos hlt').symm, rfl⟩

set_option maxHeartbeats 400000 in
theorem szOp_any (a : Option Addr) (len cap : Nat) (k mn mx left : Int) (w : World) (hlen : len ≤ maxLen) (h0 : 0 ≤ left) (h1 : left ≤ 1048576) :
    Calls Try.prog 32 #[.agg #[.int .i64 k, .slice a len cap, .int .i64 mn, .int .i64 mx], .int .i64 left] w fun e w' => e = .returned (.int .i64 (szR left len)) ∧ Below w.heap.size w w' := by
  by_cases hlt : left < (len : Int)
  · have e := szR_neg hlt
    go_enter Try.func32, Try.ntmps32
    go_wp2_with (go_at_call 37; refine (szIntS_any _ _ _ _ _ hlen h0 h1).mono ?_; rintro e w' ⟨rfl, rfl⟩)
    go_ret
    exact ⟨ret_int e.symm, (Below.refl _ _).alloc (Nat.le_refl _) _⟩
  · have hlt' : (len : Int) ≤ left := by omega
    have e := szR_pos hlt'
    go_enter Try.func32, Try.ntmps32
    go_wp2_with (go_at_call 37; refine (szIntS_any _ _ _ _ _ hlen h0 h1).mono ?_; rintro e w' ⟨rfl, rfl⟩)
    go_ret
    exact ⟨ret_int e.symm, (Below.refl _ _).alloc (Nat.le_refl _) _⟩


theorem bulk_take_succ (xs : List El) (k : Nat) (h : k < xs.length) : bulk (xs.take (k + 1)) = bulk (xs.take k) + (xs[k]?.getD dE).set.length := by
  induction xs generalizing k with
  | nil => simp at h
  | cons x r ih =>
    cases k with
    | zero => simp [bulk]
    | succ k => simp only [List.take_succ_cons, bulk, List.getElem?_cons_succ]; rw [ih k (by simpa using h)]; omega

set_option maxHeartbeats 1000000 in
theorem szOpS_any (v : Value) (xs : List El) (left : Int) (w : World) (hv : ElsAt 0 w.heap.size w v xs) (h0 : 0 ≤ left) (h1 : left ≤ 1048576) :
    Calls Try.prog 11 #[v, .int .i64 left] w fun e w' => (∃ r : Int, e = .returned (.int .i64 r) ∧ (r = -1 ∨ (0 ≤ r ∧ r = left - xs.length - bulk xs))) ∧ Below w.heap.size w w' := by
  obtain ⟨a, cap, rfl, hlen, hc⟩ := hv
  unfold maxLen at hlen
  by_cases hlt : left < (xs.length : Int)
  · go_enter Try.func11, Try.ntmps11
    go_wp2
    go_ret
    exact ⟨⟨-1, rfl, Or.inl rfl⟩, Below.refl _ _⟩
  · have hlt' : (xs.length : Int) ≤ left := by omega
    go_enter Try.func11, Try.ntmps11
    go_wp2
    go_loopw [1, 5] (fun l i w' => ∃ k : Nat, k ≤ xs.length ∧ i = .int .i64 k ∧ l = .int .i64 (left - xs.length - bulk (xs.take k)) ∧ 0 ≤ left - xs.length - bulk (xs.take k) ∧ Below w.heap.size w w') (fun _ i _ => xs.length - (intOf i).toNat)
    case atStart => exact ⟨0, Nat.zero_le _, rfl, by simp [bulk], by simp [bulk]; omega, Below.refl _ _⟩
    case round =>
      obtain ⟨k, hk, rfl, rfl, hge, hb⟩ := hrel
      by_cases hlt2 : k < xs.length
      · obtain ⟨b, off, rfl, -, hbn, hel⟩ := hc (by omega)
        obtain ⟨i1, i2, i3, v, c0, c1, c2, c3, a', cap', rfl, hl', hr', hc'⟩ := (hel k hlt2).same (Same.of_below hb (Nat.le_refl _)) (Nat.zero_le _) hbn
        have hlt3 : (k : Int) < (xs.length : Int) := by omega
        have hsz := hb.size
        have HB := bulk_take_succ xs k hlt2
        generalize xs[k]?.getD dE = x at *
        generalize hL : left - (xs.length : Int) - (bulk (List.take k xs) : Int) = L at *
        have HL := hide hL
        have HB' := hide HB
        clear HB hL
        have hL1 : L ≤ 1048576 := by have := unhide HL; omega
        by_cases hx : L < (x.set.length : Int)
        · have hz := szR_neg hx
          go_wp2_with (go_at_call 32; refine (szOp_any _ _ _ _ _ _ _ _ hl' hge hL1).mono ?_; rintro e w1 ⟨rfl, hb1⟩)
          go_ret
          exact ⟨⟨-1, rfl, Or.inl rfl⟩, hb.trans (hb1.mono hsz)⟩
        · have hx' : (x.set.length : Int) ≤ L := by omega
          have hz := szR_pos hx'
          go_wp2_with (go_at_call 32; refine (szOp_any _ _ _ _ _ _ _ _ hl' hge hL1).mono ?_; rintro e w1 ⟨rfl, hb1⟩)
          go_roundw
          case rel => exact ⟨k + 1, by omega, by go_num, by have h1 := unhide HL; have h2 := unhide HB'; rw [h2]; congr 1; omega, by have h1 := unhide HL; have h2 := unhide HB'; rw [h2]; omega, hb.trans (hb1.mono hsz)⟩
          case measure => simp [intOf]; omega
      · have hlt3 : ¬ (k : Int) < (xs.length : Int) := by omega
        have hkk : k = xs.length := by omega
        subst hkk
        go_wp2
        go_ret
        exact ⟨⟨_, rfl, Or.inr ⟨by simpa using hge, by simp⟩⟩, hb⟩

end Go.Proofs.Ytgedhbnmejlmeaa

namespace Go.Proofs.Ytgedhbnmejlmeaa
open Go.RowKit

theorem SameB.put {lo n : Nat} {a w : World} (h : SameB lo n a w) {b o : Nat} (hb : b < lo ∨ n ≤ b) (u : Value) : SameB lo n a (w.setCell ⟨b, o, none⟩ u) :=
  fun k h1 h2 => (Below.heap_setCell _ _ _ _ (by show k ≠ b; omega)).trans (h k h1 h2)

set_option maxHeartbeats 400000 in
theorem szBoolS_any (a : Option Addr) (len cap : Nat) (left : Int) (w : World) (hlen : len ≤ maxLen) (h0 : 0 ≤ left) (h1 : left ≤ 1048576) :
    Calls Try.prog 38 #[.slice a len cap, .int .i64 left] w fun e w' => e = .returned (.int .i64 (szR left len)) ∧ w' = w := by
  unfold maxLen at hlen
  by_cases hlt : left < (len : Int)
  · go_enter Try.func38, Try.ntmps38
    go_wp2
    go_ret
    exact ⟨ret_int (szR_neg hlt).symm, rfl⟩
  · have hlt' : (len : Int) ≤ left := by omega
    go_enter Try.func38, Try.ntmps38
    go_wp2
    go_ret
    exact ⟨ret_int (szR_pos hlt').symm, rfl⟩

set_option maxHeartbeats 400000 in
theorem szDFA_any (a1 a2 a3 : Option Addr) (n1 n2 n3 c1 c2 c3 : Nat) (nc : Int) (w : World) (h1 : n1 ≤ maxLen) (h2 : n2 ≤ maxLen) (h3 : n3 ≤ maxLen) :
    Calls Try.prog 18 #[.agg #[.slice a1 n1 c1, .int .i64 nc, .slice a2 n2 c2, .slice a3 n3 c3], .int .i64 1048576] w fun e w' => (e = .returned (.int .i64 (-1)) ∨ (n1 + n2 + n3 ≤ 1048576 ∧ ∃ r : Int, 0 ≤ r ∧ e = .returned (.int .i64 r))) ∧ Below w.heap.size w w' := by
  by_cases g1 : (1048576 : Int) < (n1 : Int)
  · have e1 := szR_neg g1
    go_enter Try.func18, Try.ntmps18
    go_wp2_with (go_at_call 37; refine (szIntS_any _ _ _ _ _ h1 (by omega) (by omega)).mono ?_; rintro e w' ⟨rfl, rfl⟩)
    go_ret
    exact ⟨Or.inl rfl, below1 w _⟩
  · have e1 := szR_pos (left := 1048576) (n := n1) (by omega)
    by_cases g2 : (1048576 : Int) - n1 < (n2 : Int)
    · have e2 := szR_neg g2
      go_enter Try.func18, Try.ntmps18
      go_wp2_with fail
      refine (szIntS_any _ _ _ _ _ h1 (by omega) (by omega)).mono ?_
      rintro e w' ⟨rfl, hw⟩
      subst hw
      rw [e1]
      go_wp2_with fail
      refine (szIntS_any _ _ _ _ _ h2 (by omega) (by omega)).mono ?_
      rintro e w'' ⟨rfl, hw⟩
      subst hw
      rw [e2]
      go_wp2
      go_ret
      exact ⟨Or.inl rfl, below1 w _⟩
    · have e2 := szR_pos (left := 1048576 - n1) (n := n2) (by omega)
      by_cases g3 : (1048576 : Int) - n1 - n2 < (n3 : Int)
      · have e3 := szR_neg g3
        go_enter Try.func18, Try.ntmps18
        go_wp2_with fail
        refine (szIntS_any _ _ _ _ _ h1 (by omega) (by omega)).mono ?_
        rintro e w' ⟨rfl, hw⟩
        subst hw
        rw [e1]
        go_wp2_with fail
        refine (szIntS_any _ _ _ _ _ h2 (by omega) (by omega)).mono ?_
        rintro e w'' ⟨rfl, hw⟩
        subst hw
        rw [e2]
        go_wp2_with fail
        refine (szBoolS_any _ _ _ _ _ h3 (by omega) (by omega)).mono ?_
        rintro e w''' ⟨rfl, hw⟩
        subst hw
        rw [e3]
        go_wp2
        go_ret
        exact ⟨Or.inl rfl, below1 w _⟩
      · have e3 := szR_pos (left := 1048576 - n1 - n2) (n := n3) (by omega)
        go_enter Try.func18, Try.ntmps18
        go_wp2_with fail
        refine (szIntS_any _ _ _ _ _ h1 (by omega) (by omega)).mono ?_
        rintro e w' ⟨rfl, hw⟩
        subst hw
        rw [e1]
        go_wp2_with fail
        refine (szIntS_any _ _ _ _ _ h2 (by omega) (by omega)).mono ?_
        rintro e w'' ⟨rfl, hw⟩
        subst hw
        rw [e2]
        go_wp2_with fail
        refine (szBoolS_any _ _ _ _ _ h3 (by omega) (by omega)).mono ?_
        rintro e w''' ⟨rfl, hw⟩
        subst hw
        rw [e3]
        go_wp2
        go_ret
        exact ⟨Or.inr ⟨by omega, _, by omega, rfl⟩, below1 w _⟩

/-- A block of four cells. -/
def Row4 (w : World) (b : Nat) (t : TypeId) (c0 c1 c2 c3 : Value) : Prop := w.rowIs b t 4 (fun j => [c0, c1, c2, c3].getD j undef)
theorem Row4.new (w : World) (t : TypeId) (c0 c1 c2 c3 : Value) : Row4 (w.alloc (.cells #[c0, c1, c2, c3] t)) w.heap.size t c0 c1 c2 c3 :=
  World.rowIs_alloc w #[c0, c1, c2, c3] t _ (fun i hi => by
    match i, hi with
    | 0, _ => rfl
    | 1, _ => rfl
    | 2, _ => rfl
    | 3, _ => rfl)
theorem Row4.alloc {w : World} {b : Nat} {t : TypeId} {c0 c1 c2 c3 : Value} (h : Row4 w b t c0 c1 c2 c3) (o : Obj) : Row4 (w.alloc o) b t c0 c1 c2 c3 := World.rowIs.alloc h o
theorem Row4.below {w w' : World} {b m : Nat} {t : TypeId} {c0 c1 c2 c3 : Value} (h : Row4 w b t c0 c1 c2 c3) (hb : Below m w w') (hm : b < m) : Row4 w' b t c0 c1 c2 c3 := World.rowIs.of_block h (hb.block b hm)
theorem Row4.other {w : World} {b b' o : Nat} {t : TypeId} {c0 c1 c2 c3 u : Value} (h : Row4 w b t c0 c1 c2 c3) (hb : b ≠ b') : Row4 (w.setCell ⟨b', o, none⟩ u) b t c0 c1 c2 c3 := World.rowIs.setOther h hb u
theorem Row4.put0 {w : World} {b : Nat} {t : TypeId} {c0 c1 c2 c3 u : Value} (h : Row4 w b t c0 c1 c2 c3) : Row4 (w.setCell ⟨b, 0, none⟩ u) b t u c1 c2 c3 := (World.rowIs.set h 0 u).congr (fun i hi => by
    match i, hi with
    | 0, _ => rfl
    | 1, _ => rfl
    | 2, _ => rfl
    | 3, _ => rfl)
theorem Row4.put1 {w : World} {b : Nat} {t : TypeId} {c0 c1 c2 c3 u : Value} (h : Row4 w b t c0 c1 c2 c3) : Row4 (w.setCell ⟨b, 1, none⟩ u) b t c0 u c2 c3 := (World.rowIs.set h 1 u).congr (fun i hi => by
    match i, hi with
    | 0, _ => rfl
    | 1, _ => rfl
    | 2, _ => rfl
    | 3, _ => rfl)
theorem Row4.put2 {w : World} {b : Nat} {t : TypeId} {c0 c1 c2 c3 u : Value} (h : Row4 w b t c0 c1 c2 c3) : Row4 (w.setCell ⟨b, 2, none⟩ u) b t c0 c1 u c3 := (World.rowIs.set h 2 u).congr (fun i hi => by
    match i, hi with
    | 0, _ => rfl
    | 1, _ => rfl
    | 2, _ => rfl
    | 3, _ => rfl)
/-- What the walk asks of it. -/
theorem Row4.facts {w : World} {b : Nat} {t : TypeId} {c0 c1 c2 c3 : Value} (h : Row4 w b t c0 c1 c2 c3) :
    w.cell? ⟨b, 0, none⟩ = some c0 ∧ w.cell? ⟨b, 1, none⟩ = some c1 ∧ w.cell? ⟨b, 2, none⟩ = some c2 ∧ w.cell? ⟨b, 3, none⟩ = some c3 ∧ w.frozen? ⟨b, 0, none⟩ = false ∧ w.frozen? ⟨b, 1, none⟩ = false ∧ w.frozen? ⟨b, 2, none⟩ = false ∧ w.frozen? ⟨b, 3, none⟩ = false :=
  ⟨World.rowIs.cell h (i := 0) (by omega), World.rowIs.cell h (i := 1) (by omega), World.rowIs.cell h (i := 2) (by omega), World.rowIs.cell h (i := 3) (by omega), World.rowIs.frozen h 0, World.rowIs.frozen h 1, World.rowIs.frozen h 2, World.rowIs.frozen h 3⟩

set_option maxHeartbeats 1000000 in
theorem toDFA_any (cl nx ac : Value) (xs ys : List Int) (zs : List Bool) (nc : Int) (w : World) (h1 : SlAt mI 0 0 w.heap.size w cl xs) (h2 : SlAt mI 0 0 w.heap.size w nx ys) (h3 : SlAt mT false 0 w.heap.size w ac zs)
    (l1 : xs.length ≤ 1048576) (l2 : ys.length ≤ 1048576) (l3 : zs.length ≤ 1048576) :
    Calls Try.prog 20 #[.agg #[cl, .int .i64 nc, nx, ac]] w fun e w' => ∃ cl' nx' ac' s1 s2, e = .returned (.agg #[cl', .int .i64 nc, nx', ac']) ∧ w.heap.size ≤ s1 ∧ s1 ≤ s2 ∧ s2 ≤ w'.heap.size ∧
      SlW mI 0 w.heap.size s1 w' cl' xs ∧ SlW mI 0 s1 s2 w' nx' ys ∧ SlW mT false s2 w'.heap.size w' ac' zs ∧ Below w.heap.size w w' := by
  obtain ⟨a1, c1, rfl, -, -⟩ := id h1
  obtain ⟨a2, c2, rfl, -, -⟩ := id h2
  obtain ⟨a3, c3, rfl, -, -⟩ := id h3
  have H1 := hide h1
  have H2 := hide h2
  have H3 := hide h3
  clear h1 h2 h3
  go_enter Try.func20, Try.ntmps20
  go_wp2_with fail
  refine (toIntS_w _ xs _ (by exact (unhide H1).below (below3 w _ _ _) (Nat.le_refl _)) l1).mono ?_
  rintro e w1 ⟨v1, rfl, hv1, hb1⟩
  have hz1 := hb1.size
  simp only [sz_alloc] at hz1
  obtain ⟨a1', c1', rfl, -, -⟩ := id hv1
  have Hv1 := hide hv1
  have hB1 : Below w.heap.size w w1 := (below3 w _ _ _).trans (hb1.mono (by simp only [sz_alloc]; omega))
  have rA := ((((Row4.new w 42 (.slice a1 xs.length c1) (.int .i64 nc) (.slice a2 ys.length c2) (.slice a3 zs.length c3)).alloc (.cells #[.slice none 0 0, .int .i64 0, .slice none 0 0, .slice none 0 0] 47)).alloc (.cells #[.slice none 0 0, .int .i64 0, .slice none 0 0, .slice none 0 0] 47)).below hb1 (by simp only [sz_alloc]; omega))
  have rB := (((Row4.new (w.alloc (.cells #[.slice a1 xs.length c1, .int .i64 nc, .slice a2 ys.length c2, .slice a3 zs.length c3] 42)) 47 (.slice none 0 0) (.int .i64 0) (.slice none 0 0) (.slice none 0 0)).alloc (.cells #[.slice none 0 0, .int .i64 0, .slice none 0 0, .slice none 0 0] 47)).below hb1 (by simp only [sz_alloc]; omega))
  have rC := ((Row4.new ((w.alloc (.cells #[.slice a1 xs.length c1, .int .i64 nc, .slice a2 ys.length c2, .slice a3 zs.length c3] 42)).alloc (.cells #[.slice none 0 0, .int .i64 0, .slice none 0 0, .slice none 0 0] 47)) 47 (.slice none 0 0) (.int .i64 0) (.slice none 0 0) (.slice none 0 0)).below hb1 (by simp only [sz_alloc]; omega))
  simp only [sz_alloc] at rB rC
  have RA := hide rA
  have RB := hide rB
  have RC := hide rC
  obtain ⟨k0, k1, k2, k3, -⟩ := rA.facts
  obtain ⟨m0, m1, m2, m3, n0, n1, n2, n3⟩ := rC.facts
  clear hv1 hb1 rA rB rC
  go_wp2_with fail
  refine (toIntS_w _ ys _ (by exact ((unhide H2).below (bput (bput hB1 (by omega) _) (by omega) _) (Nat.le_refl _))) l2).mono ?_
  rintro e w2 ⟨v2, rfl, hv2, hb2⟩
  have hz2 := hb2.size
  simp only [sz_put] at hz2
  obtain ⟨a2', c2', rfl, -, -⟩ := id hv2
  rw [sz_put, sz_put] at hv2
  have Hv2 := hide hv2
  have hB2 : Below w.heap.size w w2 := (bput (bput hB1 (by omega) _) (by omega) _).trans (hb2.mono (by simp only [sz_put]; omega))
  have Hv1' := hide ((unhide Hv1).same ((((SameB.refl _ _ _).put (b := w.heap.size + 1 + 1) (Or.inl (by simp only [sz_alloc]; omega)) _).put (b := w.heap.size + 1 + 1) (Or.inl (by simp only [sz_alloc]; omega)) _).trans (SameB.of_below hb2 (by simp only [sz_put]; omega))))
  have rA := (((unhide RA).other (by omega)).other (by omega)).below hb2 (by simp only [sz_put]; omega)
  have rB := (((unhide RB).other (by omega)).other (by omega)).below hb2 (by simp only [sz_put]; omega)
  have rC := (((unhide RC).put0).put1).below hb2 (by simp only [sz_put]; omega)
  clear k0 k1 k2 k3 m0 m1 m2 m3 n0 n1 n2 n3 RA RB RC
  have RA := hide rA
  have RB := hide rB
  have RC := hide rC
  obtain ⟨k0, k1, k2, k3, -⟩ := rA.facts
  obtain ⟨m0, m1, m2, m3, n0, n1, n2, n3⟩ := rC.facts
  clear hv2 hb2 Hv1 rA rB rC
  go_wp2_with fail
  refine (toBoolS_w _ zs _ (by exact ((unhide H3).below (bput hB2 (by omega) _) (Nat.le_refl _))) l3).mono ?_
  rintro e w3 ⟨v3, rfl, hv3, hb3⟩
  have hz3 := hb3.size
  simp only [sz_put] at hz3
  obtain ⟨a3', c3', rfl, -, -⟩ := id hv3
  rw [sz_put] at hv3
  have Hv3 := hide hv3
  have hB3 : Below w.heap.size w w3 := (bput hB2 (by omega) _).trans (hb3.mono (by simp only [sz_put]; omega))
  have Hv1'' := hide ((unhide Hv1').same (((SameB.refl _ _ _).put (b := w.heap.size + 1 + 1) (Or.inl (by simp only [sz_alloc]; omega)) _).trans (SameB.of_below hb3 (by simp only [sz_put]; omega))))
  have Hv2' := hide ((unhide Hv2).same (((SameB.refl _ _ _).put (b := w.heap.size + 1 + 1) (Or.inl (by omega)) _).trans (SameB.of_below hb3 (by simp only [sz_put]; omega))))
  have rB := ((unhide RB).other (by omega)).below hb3 (by simp only [sz_put]; omega)
  have rC := ((unhide RC).put2).below hb3 (by simp only [sz_put]; omega)
  clear k0 k1 k2 k3 m0 m1 m2 m3 n0 n1 n2 n3 RA RB RC
  obtain ⟨k0, k1, k2, k3, q0, q1, q2, q3⟩ := rB.facts
  obtain ⟨m0, m1, m2, m3, n0, n1, n2, n3⟩ := rC.facts
  clear hv3 hb3 Hv1' Hv2 rB rC
  go_wp2
  refine bodyPost_ret (v := .agg #[.slice a1' xs.length c1', .int .i64 nc, .slice a2' ys.length c2', .slice a3' zs.length c3']) (by simp [results, Try.results20, go_sem, k0, k1, k2, k3]) rfl ⟨_, _, _, w1.heap.size, w2.heap.size, rfl, by omega, by omega, by simp only [sz_put]; omega, ?_, ?_, ?_, ?_⟩
  · refine SlW.mono ((unhide Hv1'').same (SameB.put (SameB.put (SameB.put (SameB.put (SameB.put (SameB.refl _ _ _) (Or.inl ?_) _) (Or.inl ?_) _) (Or.inl ?_) _) (Or.inl ?_) _) (Or.inl ?_) _)) (by simp only [sz_alloc]; omega) (Nat.le_refl _) <;> simp only [sz_alloc] <;> omega
  · exact (unhide Hv2').same (SameB.put (SameB.put (SameB.put (SameB.put (SameB.put (SameB.refl _ _ _) (Or.inl (by omega)) _) (Or.inl (by omega)) _) (Or.inl (by omega)) _) (Or.inl (by omega)) _) (Or.inl (by omega)) _)
  · exact SlW.mono ((unhide Hv3).same (SameB.put (SameB.put (SameB.put (SameB.put (SameB.put (SameB.refl _ _ _) (Or.inl (by omega)) _) (Or.inl (by omega)) _) (Or.inl (by omega)) _) (Or.inl (by omega)) _) (Or.inl (by omega)) _)) (Nat.le_refl _) (by simp only [sz_put]; omega)
  · exact bput (bput (bput (bput (bput hB3 (by omega) _) (by omega) _) (by omega) _) (by omega) _) (by omega) _

end Go.Proofs.Ytgedhbnmejlmeaa

namespace Go.Proofs.Ytgedhbnmejlmeaa
open Go.RowKit


set_option maxHeartbeats 1000000 in
theorem eqDFA_same (cl nx ac cl' nx' ac' : Value) (xs ys : List Int) (zs : List Bool) (nc : Int) (w : World) (h1 : SlAt mI 0 0 w.heap.size w cl xs) (h2 : SlAt mI 0 0 w.heap.size w nx ys) (h3 : SlAt mT false 0 w.heap.size w ac zs)
    (g1 : SlAt mI 0 0 w.heap.size w cl' xs) (g2 : SlAt mI 0 0 w.heap.size w nx' ys) (g3 : SlAt mT false 0 w.heap.size w ac' zs) :
    Calls Try.prog 24 #[.agg #[cl, .int .i64 nc, nx, ac], .agg #[cl', .int .i64 nc, nx', ac']] w fun e w' => e = .returned (.bool true) ∧ Below w.heap.size w w' := by
  obtain ⟨a1, c1, rfl, -, -⟩ := id h1
  obtain ⟨a2, c2, rfl, -, -⟩ := id h2
  obtain ⟨a3, c3, rfl, -, -⟩ := id h3
  obtain ⟨b1, d1, rfl, -, -⟩ := id g1
  obtain ⟨b2, d2, rfl, -, -⟩ := id g2
  obtain ⟨b3, d3, rfl, -, -⟩ := id g3
  have H1 := hide (h1.below (below2 w (.cells #[.slice a1 xs.length c1, .int .i64 nc, .slice a2 ys.length c2, .slice a3 zs.length c3] 47) (.cells #[.slice b1 xs.length d1, .int .i64 nc, .slice b2 ys.length d2, .slice b3 zs.length d3] 47)) (Nat.le_refl _))
  have H2 := hide (h2.below (below2 w (.cells #[.slice a1 xs.length c1, .int .i64 nc, .slice a2 ys.length c2, .slice a3 zs.length c3] 47) (.cells #[.slice b1 xs.length d1, .int .i64 nc, .slice b2 ys.length d2, .slice b3 zs.length d3] 47)) (Nat.le_refl _))
  have H3 := hide (h3.below (below2 w (.cells #[.slice a1 xs.length c1, .int .i64 nc, .slice a2 ys.length c2, .slice a3 zs.length c3] 47) (.cells #[.slice b1 xs.length d1, .int .i64 nc, .slice b2 ys.length d2, .slice b3 zs.length d3] 47)) (Nat.le_refl _))
  have G1 := hide (g1.below (below2 w (.cells #[.slice a1 xs.length c1, .int .i64 nc, .slice a2 ys.length c2, .slice a3 zs.length c3] 47) (.cells #[.slice b1 xs.length d1, .int .i64 nc, .slice b2 ys.length d2, .slice b3 zs.length d3] 47)) (Nat.le_refl _))
  have G2 := hide (g2.below (below2 w (.cells #[.slice a1 xs.length c1, .int .i64 nc, .slice a2 ys.length c2, .slice a3 zs.length c3] 47) (.cells #[.slice b1 xs.length d1, .int .i64 nc, .slice b2 ys.length d2, .slice b3 zs.length d3] 47)) (Nat.le_refl _))
  have G3 := hide (g3.below (below2 w (.cells #[.slice a1 xs.length c1, .int .i64 nc, .slice a2 ys.length c2, .slice a3 zs.length c3] 47) (.cells #[.slice b1 xs.length d1, .int .i64 nc, .slice b2 ys.length d2, .slice b3 zs.length d3] 47)) (Nat.le_refl _))
  clear h1 h2 h3 g1 g2 g3
  go_enter Try.func24, Try.ntmps24
  go_wp2_with fail
  refine (eqIntS_w _ _ xs _ (unhide H1) (unhide G1)).mono ?_
  rintro e w1 ⟨rfl, n1, hw1⟩
  subst hw1
  go_wp2_with fail
  refine (eqIntS_w _ _ ys _ (by exact (unhide H2).drewN _) (by exact (unhide G2).drewN _)).mono ?_
  rintro e w2 ⟨rfl, n2, hw2⟩
  subst hw2
  go_wp2_with fail
  refine (eqBoolS_w _ _ zs _ (by exact (unhide H3).drewN _) (by exact (unhide G3).drewN _)).mono ?_
  rintro e w3 ⟨rfl, n3, hw3⟩
  subst hw3
  go_wp2
  go_ret
  exact ⟨rfl, below_drewN (below2 w _ _) _⟩

set_option maxHeartbeats 1000000 in
theorem markDFA_any (cl nx ac : Value) (xs ys : List Int) (zs : List Bool) (nc k : Int) (s0 s1 s2 s3 : Nat) (w : World) (h1 : SlW mI 0 s0 s1 w cl xs) (h2 : SlW mI 0 s1 s2 w nx ys) (h3 : SlW mT false s2 s3 w ac zs)
    (l1 : xs.length ≤ 1048576) (l2 : ys.length ≤ 1048576) (l3 : zs.length ≤ 1048576) (k0 : 0 ≤ k) (k1 : k ≤ 1048576) (o1 : s0 ≤ s1) (o2 : s1 ≤ s2) (o3 : s2 ≤ s3) (o4 : s3 ≤ w.heap.size) :
    Calls Try.prog 26 #[.agg #[cl, .int .i64 nc, nx, ac], .int .i64 k] w fun e w' => e = .returned (.int .i64 (k + xs.length + ys.length + zs.length)) ∧
      SlW mI 0 s0 s1 w' cl (cnts k xs.length) ∧ SlW mI 0 s1 s2 w' nx (cnts (k + xs.length) ys.length) ∧ SlW mT false s2 s3 w' ac (cntT (k + xs.length + ys.length) zs.length) ∧
      Below s0 w w' ∧ SameB s3 w.heap.size w w' := by
  obtain ⟨a1, c1, rfl, -, -⟩ := id h1
  obtain ⟨a2, c2, rfl, -, -⟩ := id h2
  obtain ⟨a3, c3, rfl, -, -⟩ := id h3
  have bA := below1 w (.cells #[.slice a1 xs.length c1, .int .i64 nc, .slice a2 ys.length c2, .slice a3 zs.length c3] 47)
  have H1 := hide (h1.same (SameB.of_below bA (by omega)))
  have H2 := hide (h2.same (SameB.of_below bA (by omega)))
  have H3 := hide (h3.same (SameB.of_below bA (by omega)))
  clear h1 h2 h3 bA
  go_enter Try.func26, Try.ntmps26
  go_wp2_with fail
  refine (markIntS_any _ xs k s0 s1 _ (unhide H1) k0 (by omega) (by omega)).mono ?_
  rintro e w1 ⟨rfl, hv1, hch1⟩
  have rA := Row4.new w 47 (.slice a1 xs.length c1) (.int .i64 nc) (.slice a2 ys.length c2) (.slice a3 zs.length c3)
  have rA1 := World.rowIs.of_block rA (hch1.block _ (Or.inr (by omega)))
  have RA1 := hide rA1
  obtain ⟨q0, q1, q2, q3, -⟩ := Row4.facts rA1
  have Hv1 := hide hv1
  have Hch1 := hide hch1
  clear rA rA1 hv1 hch1
  go_wp2_with fail
  refine (markIntS_any _ ys (k + xs.length) s1 s2 _ ((unhide H2).same (SameB.of_chg (unhide Hch1) (Or.inr (Nat.le_refl _)))) (by omega) (by omega) (by omega)).mono ?_
  rintro e w2 ⟨rfl, hv2, hch2⟩
  clear q0 q1 q2 q3
  have rA2 := World.rowIs.of_block (unhide RA1) (hch2.block _ (Or.inr (by omega)))
  obtain ⟨q0, q1, q2, q3, -⟩ := Row4.facts rA2
  have Hv2 := hide hv2
  have Hch2 := hide hch2
  clear rA2 hv2 hch2
  go_wp2_with fail
  refine (markBoolS_any _ zs (k + xs.length + ys.length) s2 s3 _ (((unhide H3).same (SameB.of_chg (unhide Hch1) (Or.inr (by omega)))).same (SameB.of_chg (unhide Hch2) (Or.inr (by omega)))) (by omega) (by omega) (by omega)).mono ?_
  rintro e w3 ⟨rfl, hv3, hch3⟩
  have Hv3 := hide hv3
  have Hch3 := hide hch3
  clear hv3 hch3 q0 q1 q2 q3
  go_wp2
  go_ret
  refine ⟨rfl, ((unhide Hv1).same (SameB.of_chg (unhide Hch2) (Or.inl (Nat.le_refl _)))).same (SameB.of_chg (unhide Hch3) (Or.inl (by omega))), (unhide Hv2).same (SameB.of_chg (unhide Hch3) (Or.inl (Nat.le_refl _))), unhide Hv3, ?_, ?_⟩
  · exact ((((below1 w _).mono (by omega)).trans (unhide Hch1).below).trans ((unhide Hch2).below.mono o1)).trans ((unhide Hch3).below.mono (by omega))
  · exact (((SameB.of_below (below1 w _) (Nat.le_refl _)).trans (SameB.of_chg (unhide Hch1) (Or.inr (by omega)))).trans (SameB.of_chg (unhide Hch2) (Or.inr (by omega)))).trans (SameB.of_chg (unhide Hch3) (Or.inr (Nat.le_refl _)))

end Go.Proofs.Ytgedhbnmejlmeaa

namespace Go.Proofs.Ytgedhbnmejlmeaa
open Go.RowKit

theorem Try.info3 : (Try.prog.info? 3).map (fun i => (i.zero, i.size, i.bytes)) = some (some (.int .i64 0), 1, 8) := by kernel_rfl
theorem Try.info65 : (Try.prog.info? 65).map (fun i => (i.zero, i.size, i.bytes)) = some (some (.agg #[.int .i64 0, .slice none 0 0, .int .i64 0, .int .i64 0]), 4, 48) := by kernel_rfl

set_option maxHeartbeats 400000 in
set_option maxRecDepth 100000 in
theorem toIntS_any (v : Value) (xs : List Int) (w : World) (hv : IntsAt 0 w.heap.size w v xs) (hlen : xs.length ≤ 1048576) :
    Calls Try.prog 40 #[v] w fun e w' => ∃ v', e = .returned v' ∧ IntsAt w.heap.size w'.heap.size w' v' xs ∧ Below w.heap.size w w' := by
  obtain ⟨a, cap, rfl, hl, hr, hc⟩ := hv
  have hmk := run_make_row' (P := Try.prog) 39 3 (.int .i64 0) 8 Try.underlying39 Try.info3 rfl .i64 .i64 xs.length (by omega) (by omega)
  go_enter Try.func40, Try.ntmps40
  go_wp2
  go_loopw [4] (fun i wr => ∃ k : Nat, k ≤ xs.length ∧ i = .int .i64 k ∧ wr.rowIs w.heap.size 3 xs.length (fun j => if j < k then .int .i64 (xs[j]?.getD 0) else .int .i64 0) ∧ Below w.heap.size w wr) (fun i _ => xs.length - (intOf i).toNat)
  case atStart => exact ⟨0, Nat.zero_le _, rfl, (World.rowIs_made w (.int .i64 0) xs.length 3).congr (by simp), (Below.refl _ _).alloc (Nat.le_refl _) _⟩
  case round =>
    obtain ⟨k, hk, rfl, hrow, hb⟩ := hrel
    by_cases hlt : k < xs.length
    · obtain ⟨b, off, rfl, -, hbn, hcell⟩ := hc (by omega)
      have hx : wr.cell? ⟨b, off + k, none⟩ = some (.int .i64 (xs[k]?.getD 0)) := by rw [hb.cell (p := ⟨b, off + k, none⟩) hbn]; exact hcell k hlt
      have hlt' : (k : Int) < (xs.length : Int) := by omega
      have hw := hrow.cell hlt
      have hf := hrow.frozen k
      clear hmk
      have hrow' := hide hrow
      clear hrow
      go_wp2
      refine ⟨⟨k + 1, by omega, by go_num, ?_, hb.setCell (Nat.le_refl _) _⟩, by simp [intOf]; omega⟩
      refine ((unhide hrow').set k _).congr ?_
      intro j hj
      by_cases e : j = k
      · subst e; simp [hlt]
      · have e2 : j < k + 1 ↔ j < k := by omega
        simp [e, e2]
    · obtain rfl : k = xs.length := by omega
      have hrow' := hide hrow
      clear hmk hrow
      go_wp2
      go_ret
      have hrow := unhide hrow'
      exact ⟨_, rfl, ⟨some ⟨w.heap.size, 0, none⟩, xs.length, rfl, hl, hr, fun _ => ⟨w.heap.size, 0, rfl, Nat.le_refl _, hrow.lt, fun i hi => by rw [Nat.zero_add, hrow.cell hi]; simp [hi]⟩⟩, hb⟩

set_option maxHeartbeats 400000 in
theorem toOp_any (v : Value) (x : El) (w : World) (hv : IntsAt 0 w.heap.size w v x.set) (hlen : x.set.length ≤ 1048576) :
    Calls Try.prog 34 #[.agg #[.int .i64 x.kind, v, .int .i64 x.mn, .int .i64 x.mx]] w fun e w' => ∃ v', e = .returned (.agg #[.int .i64 x.kind, v', .int .i64 x.mn, .int .i64 x.mx]) ∧ IntsAt w.heap.size w'.heap.size w' v' x.set ∧ Below w.heap.size w w' := by
  obtain ⟨a, cap, rfl, hl, hr, hc⟩ := id hv
  go_enter Try.func34, Try.ntmps34
  go_wp2_with fail
  refine (toIntS_any _ x.set _ (by exact hv.below (below3 w _ _ _) (Nat.le_refl _)) hlen).mono ?_
  rintro e w1 ⟨v', rfl, hv', hb1⟩
  obtain ⟨hc1, hf1⟩ := bcell hb1
  simp only [sz_alloc] at hc1 hf1
  have hz := hb1.size
  simp only [sz_alloc] at hz
  obtain ⟨a', cap', rfl, -, -, -⟩ := id hv'
  go_wp2
  refine bodyPost_ret (v := .agg #[.int .i64 x.kind, .slice a' x.set.length cap', .int .i64 x.mn, .int .i64 x.mx]) (by simp [results, Try.results34, go_sem, hc1]) rfl ⟨_, rfl, ?_, ?_⟩
  · have hs : Same (w.heap.size + 1 + 1 + 1) w1.heap.size w1 w1 := Same.refl _ _ _
    refine ((hv'.mono (lo' := w.heap.size + 1 + 1 + 1) (by rw [sz_alloc, sz_alloc, sz_alloc]; omega) (Nat.le_refl _)).same (((((((hs.setCell (Or.inl (by omega)) _).setCell (Or.inl (by omega)) _).setCell (Or.inl (by omega)) _).setCell (Or.inl (by omega)) _).setCell (Or.inl (by omega)) _).setCell (Or.inl (by omega)) _).setCell (Or.inl (by omega)) _)).mono (by omega) (by simp only [sz_put]; omega)
  · have hb0 : Below w.heap.size w w1 := (below3 w _ _ _).trans (hb1.mono (by rw [sz_alloc, sz_alloc, sz_alloc]; omega))
    exact bput (bput (bput (bput (bput (bput (bput hb0 (by omega) _) (by omega) _) (by omega) _) (by omega) _) (by omega) _) (by omega) _) (by omega) _

end Go.Proofs.Ytgedhbnmejlmeaa
