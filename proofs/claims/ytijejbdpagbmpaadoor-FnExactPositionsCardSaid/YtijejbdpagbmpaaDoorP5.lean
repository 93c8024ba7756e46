import Derived.Test.YtijejbdpagbmpaaDoorP1
import Derived.RegionTactic
import Derived.BigRegion
import Derived.Test.YtijejbdpagbmpaaDoorP4
import Derived.Test.YtijejbdpagbmpaaDoorP2
namespace Go.Proofs.YtijejbdpagbmpaaDoor
open Go.RowKit

theorem validElement_iff {x : El} : ElOk x ↔ (x.kind = 1 ∧ Canon x.set ∧ x.mn = 0 ∧ x.mx = 0) ∨ ((x.kind = 0 ∨ x.kind = 2 ∨ x.kind = 3) ∧ x.set.length = 0 ∧ x.mn = 0 ∧ x.mx = 0) ∨ (x.kind = 4 ∧ x.set.length = 0 ∧ BdOk x.mn x.mx) := Iff.rfl

set_option maxHeartbeats 1000000 in
theorem validElement_any (v : Value) (x : El) (w : World) (hv : IntsAt 0 w.heap.size w v x.set) :
    Calls Tryd.prog 58 #[.agg #[.int .i64 x.kind, v, .int .i64 x.mn, .int .i64 x.mx]] w fun e w' => RetB e (ElOk x) ∧ Below w.heap.size w w' := by
  obtain ⟨a, cap, rfl, hl, -, -⟩ := id hv
  unfold maxLen at hl
  obtain ⟨k, xs, mn, mx⟩ := x
  simp only at *
  have Hv := hide hv
  clear hv
  by_cases h1 : k = 1
  · subst h1
    go_enter Tryd.func58, Tryd.ntmps58
    go_wp2_with fail
    refine (canonical_any _ xs _ (by exact (unhide Hv).below (below1 w _) (Nat.le_refl _))).mono ?_
    rintro e w1 ⟨hret, hb1⟩
    obtain ⟨hc1, hf1⟩ := bcell hb1
    simp only [sz_alloc] at hc1 hf1
    have hB : Below w.heap.size w w1 := (below1 w _).trans (hb1.mono (by rw [sz_alloc]; omega))
    clear hb1
    rcases hret.cases with ⟨rfl, hcn⟩ | ⟨rfl, hcn⟩
    · have Hcn := hide hcn
      clear hcn
      by_cases h2 : mn = 0
      · by_cases h3 : mx = 0
        · go_wp2
          go_ret
          exact ⟨RetB.yes (Or.inl ⟨rfl, unhide Hcn, h2, h3⟩), hB⟩
        · have h3' : (mx == 0) = false := by simp [h3]
          go_wp2
          go_ret
          exact ⟨RetB.no (by rintro (⟨q1, q2, q3, q4⟩ | ⟨q1, q2, q3, q4⟩ | ⟨q1, q2, q3, q4, q5⟩) <;> simp only at * <;> omega), hB⟩
      · have h2' : (mn == 0) = false := by simp [h2]
        go_wp2
        go_ret
        exact ⟨RetB.no (by rintro (⟨q1, q2, q3, q4⟩ | ⟨q1, q2, q3, q4⟩ | ⟨q1, q2, q3, q4, q5⟩) <;> simp only at * <;> omega), hB⟩
    · have Hcn := hide hcn
      clear hcn
      go_wp2
      go_ret
      exact ⟨RetB.no (by rintro (⟨q1, q2, q3, q4⟩ | ⟨q1, q2, q3, q4⟩ | ⟨q1, q2, q3, q4, q5⟩) <;> simp only at * <;> first | exact unhide Hcn q2 | omega), hB⟩
  · have b1 : (k == 1) = false := by simp [h1]
    by_cases h4 : k = 4
    · subst h4
      by_cases hlen : xs.length = 0
      · have hlen' : ((xs.length : Int) == 0) = true := by simp; exact List.eq_nil_of_length_eq_zero hlen
        have Hlen := hide hlen
        clear hlen
        go_enter Tryd.func58, Tryd.ntmps58
        go_wp2_with fail
        refine (validBounds_any mn mx _).mono ?_
        rintro e w1 ⟨hret, rfl⟩
        rcases hret.cases with ⟨rfl, hcn⟩ | ⟨rfl, hcn⟩
        · have Hcn := hide hcn
          clear hcn
          go_wp2
          go_ret
          exact ⟨RetB.yes (Or.inr (Or.inr ⟨rfl, unhide Hlen, unhide Hcn⟩)), below1 w _⟩
        · have Hcn := hide hcn
          clear hcn
          go_wp2
          go_ret
          exact ⟨RetB.no (by rintro (⟨q1, q2, q3, q4⟩ | ⟨q1, q2, q3, q4⟩ | ⟨q1, q2, q3⟩) <;> simp only at * <;> first | exact unhide Hcn q3 | omega), below1 w _⟩
      · have hlen' : ((xs.length : Int) == 0) = false := by simp; intro e; exact hlen (by rw [e]; rfl)
        go_enter Tryd.func58, Tryd.ntmps58
        go_wp2
        go_ret
        exact ⟨RetB.no (by rintro (⟨q1, q2, q3, q4⟩ | ⟨q1, q2, q3, q4⟩ | ⟨q1, q2, q3⟩) <;> simp only at * <;> omega), below1 w _⟩
    · have b4 : (k == 4) = false := by simp [h4]
      by_cases hk : k = 0 ∨ k = 2 ∨ k = 3
      · by_cases hlen : xs.length = 0
        · have hlen' : ((xs.length : Int) == 0) = true := by simp; exact List.eq_nil_of_length_eq_zero hlen
          have Hlen := hide hlen
          clear hlen h1 h4
          by_cases h2 : mn = 0
          · by_cases h3 : mx = 0
            · rcases hk with rfl | rfl | rfl
              all_goals
                go_enter Tryd.func58, Tryd.ntmps58
                go_wp2
                go_ret
                exact ⟨RetB.yes (Or.inr (Or.inl ⟨by simp, unhide Hlen, h2, h3⟩)), below1 w _⟩
            · have h3' : (mx == 0) = false := by simp [h3]
              rcases hk with rfl | rfl | rfl
              all_goals
                go_enter Tryd.func58, Tryd.ntmps58
                go_wp2
                go_ret
                exact ⟨RetB.no (by rintro (⟨q1, q2, q3, q4⟩ | ⟨q1, q2, q3, q4⟩ | ⟨q1, q2, q3, q4, q5⟩) <;> simp only at * <;> omega), below1 w _⟩
          · have h2' : (mn == 0) = false := by simp [h2]
            rcases hk with rfl | rfl | rfl
            all_goals
              go_enter Tryd.func58, Tryd.ntmps58
              go_wp2
              go_ret
              exact ⟨RetB.no (by rintro (⟨q1, q2, q3, q4⟩ | ⟨q1, q2, q3, q4⟩ | ⟨q1, q2, q3, q4, q5⟩) <;> simp only at * <;> omega), below1 w _⟩
        · have hlen' : ((xs.length : Int) == 0) = false := by simp; intro e; exact hlen (by rw [e]; rfl)
          clear h1 h4
          rcases hk with rfl | rfl | rfl
          all_goals
            go_enter Tryd.func58, Tryd.ntmps58
            go_wp2
            go_ret
            exact ⟨RetB.no (by rintro (⟨q1, q2, q3, q4⟩ | ⟨q1, q2, q3, q4⟩ | ⟨q1, q2, q3, q4, q5⟩) <;> simp only at * <;> omega), below1 w _⟩
      · have b0 : (k == 0) = false := by simp; omega
        have b2 : (k == 2) = false := by simp; omega
        have b3 : (k == 3) = false := by simp; omega
        go_enter Tryd.func58, Tryd.ntmps58
        go_wp2
        go_ret
        exact ⟨RetB.no (by rintro (⟨q1, q2, q3, q4⟩ | ⟨q1, q2, q3, q4⟩ | ⟨q1, q2, q3, q4, q5⟩) <;> simp only at * <;> omega), below1 w _⟩

end Go.Proofs.YtijejbdpagbmpaaDoor

namespace Go.Proofs.YtijejbdpagbmpaaDoor
open Go.RowKit

theorem own_len {base n : Nat} {w : World} {v : Value} {vals : List Value} (hown : w.ownsRow base 52 1 v n vals) (h : 0 < n) : ∃ g cap, v = .slice (some ⟨g, 0, none⟩) n cap ∧ n ≤ cap ∧ cap ≤ maxLen := by
  rcases hown.2 with ⟨rfl, hn⟩ | ⟨g, cap, cur, rfl, hbg, hg, hnc, hcm, hcs, htake⟩
  · omega
  · exact ⟨g, cap, rfl, hnc, hcm⟩

theorem pushElement_any (base : Nat) (v sv : Value) (vals : List Value) (st : List (List El × Int)) (x : El) (w : World) (hown : w.ownsRow base 52 1 v vals.length vals) (hst : NVals st vals) (hbase : base ≤ w.heap.size) (hlen : vals.length ≤ 3000)
    (hv : IntsAt 0 w.heap.size w sv x.set) (ok : ElOk x) (hcnt : cnt x.kind ≤ vals.length) :
    Calls Tryd.prog 60 #[v, .agg #[.int .i64 x.kind, sv, .int .i64 x.mn, .int .i64 x.mx]] w fun e w' => Pushed base w w' e st x := by
  obtain ⟨k, xs, mn, mx⟩ := x
  have hsl := hst.len
  rcases ok with ⟨q1, q2, q3, q4⟩ | ⟨q1, q2, q3, q4⟩ | ⟨q1, q2, q3⟩
  · simp only at q1 q2 q3 q4 hv
    subst q1 q3 q4
    rcases hown.2 with ⟨rfl, hn⟩ | ⟨g, cap, cur, rfl, hbg, hg, hnc, hcm, hcs, htake⟩
    · obtain rfl : vals = [] := List.eq_nil_of_length_eq_zero hn
      obtain rfl : st = [] := List.eq_nil_of_length_eq_zero (by simpa using hsl)
      exact push_s_nil base sv xs w hown hbase hv q2
    · exact push_s base g cap vals st sv xs w hown hst hbase hlen hnc hcm hv q2
  · simp only at q1 q2 q3 q4 hv
    subst q3 q4
    obtain rfl := List.eq_nil_of_length_eq_zero q2
    obtain ⟨a, cp, rfl, -, -, -⟩ := hv
    rcases q1 with rfl | rfl | rfl
    · rcases hown.2 with ⟨rfl, hn⟩ | ⟨g, cap, cur, rfl, hbg, hg, hnc, hcm, hcs, htake⟩
      · obtain rfl : vals = [] := List.eq_nil_of_length_eq_zero hn
        obtain rfl : st = [] := List.eq_nil_of_length_eq_zero (by simpa using hsl)
        exact push_e_nil base w hown hbase a cp
      · exact push_e base g cap vals st w hown hst hbase hlen hnc a cp
    · have hc2 : (2 : Int) ≤ vals.length := hcnt
      obtain ⟨b, l, r, rfl⟩ := snoc2 (st := st) (by omega)
      obtain ⟨u, z, rfl, hu, hz⟩ := hst.split
      obtain ⟨y1, y2, rfl, h1, h2⟩ := hz.two
      obtain ⟨T, y, rfl⟩ := h1.iface
      obtain ⟨T', y', rfl⟩ := h2.iface
      obtain ⟨g, cap, rfl, hnc, hcm⟩ := own_len hown (by omega)
      simp only [List.length_append, List.length_cons, List.length_nil] at hown hlen hnc ⊢
      exact push_cat base g cap u T T' y y' b l r w hown hu h1 h2 hbase hlen hnc a cp
    · have hc2 : (2 : Int) ≤ vals.length := hcnt
      obtain ⟨b, l, r, rfl⟩ := snoc2 (st := st) (by omega)
      obtain ⟨u, z, rfl, hu, hz⟩ := hst.split
      obtain ⟨y1, y2, rfl, h1, h2⟩ := hz.two
      obtain ⟨T, y, rfl⟩ := h1.iface
      obtain ⟨T', y', rfl⟩ := h2.iface
      obtain ⟨g, cap, rfl, hnc, hcm⟩ := own_len hown (by omega)
      simp only [List.length_append, List.length_cons, List.length_nil] at hown hlen hnc ⊢
      exact push_alt base g cap u T T' y y' b l r w hown hu h1 h2 hbase hlen hnc a cp
  · simp only at q1 q2 q3 hv
    subst q1
    obtain rfl := List.eq_nil_of_length_eq_zero q2
    obtain ⟨a, cp, rfl, -, -, -⟩ := hv
    have hc1 : (1 : Int) ≤ vals.length := hcnt
    obtain ⟨b, o, rfl⟩ := snoc1 (st := st) (by omega)
    obtain ⟨u, z, rfl, hu, hz⟩ := hst.split
    obtain ⟨y1, rfl, h1⟩ := hz.one
    obtain ⟨T, y, rfl⟩ := h1.iface
    obtain ⟨g, cap, rfl, hnc, hcm⟩ := own_len hown (by simp)
    simp only [List.length_append, List.length_cons, List.length_nil] at hown hlen hnc ⊢
    exact push_rep base g cap u T y b o mn mx w hown hu h1 q3.1 q3.2.1 q3.2.2 hbase hlen hnc a cp

end Go.Proofs.YtijejbdpagbmpaaDoor

namespace Go.Proofs.YtijejbdpagbmpaaDoor
open Go.RowKit

/-- The marks of bytes and of bools. -/
def cntB (k : Int) (n : Nat) : List Int := (List.range n).map (fun i : Nat => (k + (i : Int)) % 256)
theorem cntB_len (k : Int) (n : Nat) : (cntB k n).length = n := by simp [cntB]
theorem cntB_get (k : Int) (n i : Nat) (h : i < n) : (cntB k n)[i]?.getD 0 = (k + i) % 256 := by simp [cntB, h]
def cntT (k : Int) (n : Nat) : List Bool := (List.range n).map (fun i : Nat => ((k + (i : Int)) % 3 == 0))
theorem cntT_len (k : Int) (n : Nat) : (cntT k n).length = n := by simp [cntT]
theorem cntT_get (k : Int) (n i : Nat) (h : i < n) : (cntT k n)[i]?.getD false = ((k + (i : Int)) % 3 == 0) := by simp [cntT, h]

end Go.Proofs.YtijejbdpagbmpaaDoor

namespace Go.Proofs.YtijejbdpagbmpaaDoor
open Go.RowKit

theorem SameB.refl (lo n : Nat) (w : World) : SameB lo n w w := fun _ _ _ => rfl
theorem SameB.trans {lo n : Nat} {a b c : World} (h : SameB lo n a b) (k : SameB lo n b c) : SameB lo n a c := fun i h1 h2 => (k i h1 h2).trans (h i h1 h2)
def Bytes (bs : List Int) : Prop := ∀ i : Nat, 0 ≤ bs[i]?.getD 0 ∧ bs[i]?.getD 0 ≤ 255
theorem SlW.keep {α : Type} {mk : α → Value} {d : α} {lo n m : Nat} {w w' : World} {v : Value} {xs : List α} (h : SlW mk d lo n w v xs) (hb : Below m w w') (hn : n ≤ m) : SlW mk d lo n w' v xs := h.same (SameB.of_below hb hn)
theorem SlW.all {α : Type} {mk : α → Value} {d : α} {lo n : Nat} {w : World} {v : Value} {xs : List α} (h : SlW mk d lo n w v xs) (hn : n ≤ w.heap.size) : SlAt mk d 0 w.heap.size w v xs := h.at.mono (Nat.zero_le _) hn
theorem SlW.val {α : Type} {mk : α → Value} {d : α} {lo n : Nat} {w : World} {v : Value} {xs : List α} (h : SlW mk d lo n w v xs) : ∃ a cap, v = .slice a xs.length cap := by
  obtain ⟨a, cap, rfl, -, -⟩ := h
  exact ⟨a, cap, rfl⟩
theorem drewB {m : Nat} {w : World} (q : Nat) : Below m w (w.drewN q) := below_drewN (Below.refl _ _) q
theorem SameB.mono {lo n lo' n' : Nat} {a b : World} (h : SameB lo n a b) (h1 : lo ≤ lo') (h2 : n' ≤ n) : SameB lo' n' a b := fun k k1 k2 => h k (by omega) (by omega)
theorem SlAt.cut {α : Type} {mk : α → Value} {d : α} {m : Nat} {w w' : World} {v : Value} {xs : List α} (h : SlAt mk d 0 w.heap.size w v xs) (hb : Below m w w') (hm : w.heap.size ≤ m) : SlAt mk d 0 w'.heap.size w' v xs := h.below hb hm
theorem SlAt.drewN {α : Type} {mk : α → Value} {d : α} {lo n : Nat} {w : World} {v : Value} {xs : List α} (h : SlAt mk d lo n w v xs) (q : Nat) : SlAt mk d lo n (w.drewN q) v xs := h

end Go.Proofs.YtijejbdpagbmpaaDoor

namespace Go.Proofs.YtijejbdpagbmpaaDoor
open Go.RowKit

/-- What is left behind a list of n values: -1 where it does not reach. -/
def szR (left n : Int) : Int := if left < n then -1 else left - n

theorem szR_neg {left n : Int} (h : left < n) : szR left n = -1 := by unfold szR; rw [if_pos h]
theorem szR_pos {left n : Int} (h : n ≤ left) : szR left n = left - n := by unfold szR; rw [if_neg (by omega)]

/-- How many values a list of elements holds: the elements and the numbers of their sets. -/
def bulk : List El → Nat
  | [] => 0
  | x :: r => x.set.length + bulk r

set_option maxHeartbeats 400000 in
theorem szIntS_any (a : Option Addr) (len cap : Nat) (left : Int) (w : World) (hlen : len ≤ maxLen) (h0 : 0 ≤ left) (h1 : left ≤ 1048576) :
    Calls Tryd.prog 49 #[.slice a len cap, .int .i64 left] w fun e w' => e = .returned (.int .i64 (szR left len)) ∧ w' = w := by
  unfold maxLen at hlen
  by_cases hlt : left < (len : Int)
  · go_enter Tryd.func49, Tryd.ntmps49
    go_wp2
    go_ret
    exact ⟨ret_int (szR_neg hlt).symm, rfl⟩
  · have hlt' : (len : Int) ≤ left := by omega
    go_enter Tryd.func49, Tryd.ntmps49
    go_wp2
    go_ret
    exact ⟨ret_int (szR_pos hlt').symm, rfl⟩

set_option maxHeartbeats 400000 in
theorem szOp_any (a : Option Addr) (len cap : Nat) (k mn mx left : Int) (w : World) (hlen : len ≤ maxLen) (h0 : 0 ≤ left) (h1 : left ≤ 1048576) :
    Calls Tryd.prog 32 #[.agg #[.int .i64 k, .slice a len cap, .int .i64 mn, .int .i64 mx], .int .i64 left] w fun e w' => e = .returned (.int .i64 (szR left len)) ∧ Below w.heap.size w w' := by
  by_cases hlt : left < (len : Int)
  · have e := szR_neg hlt
    go_enter Tryd.func32, Tryd.ntmps32
    go_wp2_with (go_at_call 49; refine (szIntS_any _ _ _ _ _ hlen h0 h1).mono ?_; rintro e w' ⟨rfl, rfl⟩)
    go_ret
    exact ⟨ret_int e.symm, (Below.refl _ _).alloc (Nat.le_refl _) _⟩
  · have hlt' : (len : Int) ≤ left := by omega
    have e := szR_pos hlt'
    go_enter Tryd.func32, Tryd.ntmps32
    go_wp2_with (go_at_call 49; refine (szIntS_any _ _ _ _ _ hlen h0 h1).mono ?_; rintro e w' ⟨rfl, rfl⟩)
    go_ret
    exact ⟨ret_int e.symm, (Below.refl _ _).alloc (Nat.le_refl _) _⟩


theorem bulk_take_succ (xs : List El) (k : Nat) (h : k < xs.length) : bulk (xs.take (k + 1)) = bulk (xs.take k) + (xs[k]?.getD dE).set.length := by
  induction xs generalizing k with
  | nil => simp at h
  | cons x r ih =>
    cases k with
    | zero => simp [bulk]
    | succ k => simp only [List.take_succ_cons, bulk, List.getElem?_cons_succ]; rw [ih k (by simpa using h)]; omega

set_option maxHeartbeats 1000000 in
theorem szOpS_any (v : Value) (xs : List El) (left : Int) (w : World) (hv : ElsAt 0 w.heap.size w v xs) (h0 : 0 ≤ left) (h1 : left ≤ 1048576) :
    Calls Tryd.prog 13 #[v, .int .i64 left] w fun e w' => (∃ r : Int, e = .returned (.int .i64 r) ∧ (r = -1 ∨ (0 ≤ r ∧ r = left - xs.length - bulk xs))) ∧ Below w.heap.size w w' := by
  obtain ⟨a, cap, rfl, hlen, hc⟩ := hv
  unfold maxLen at hlen
  by_cases hlt : left < (xs.length : Int)
  · go_enter Tryd.func13, Tryd.ntmps13
    go_wp2
    go_ret
    exact ⟨⟨-1, rfl, Or.inl rfl⟩, Below.refl _ _⟩
  · have hlt' : (xs.length : Int) ≤ left := by omega
    go_enter Tryd.func13, Tryd.ntmps13
    go_wp2
    go_loopw [1, 5] (fun l i w' => ∃ k : Nat, k ≤ xs.length ∧ i = .int .i64 k ∧ l = .int .i64 (left - xs.length - bulk (xs.take k)) ∧ 0 ≤ left - xs.length - bulk (xs.take k) ∧ Below w.heap.size w w') (fun _ i _ => xs.length - (intOf i).toNat)
    case atStart => exact ⟨0, Nat.zero_le _, rfl, by simp [bulk], by simp [bulk]; omega, Below.refl _ _⟩
    case round =>
      obtain ⟨k, hk, rfl, rfl, hge, hb⟩ := hrel
      by_cases hlt2 : k < xs.length
      · obtain ⟨b, off, rfl, -, hbn, hel⟩ := hc (by omega)
        obtain ⟨i1, i2, i3, v, c0, c1, c2, c3, a', cap', rfl, hl', hr', hc'⟩ := (hel k hlt2).same (Same.of_below hb (Nat.le_refl _)) (Nat.zero_le _) hbn
        have hlt3 : (k : Int) < (xs.length : Int) := by omega
        have hsz := hb.size
        have HB := bulk_take_succ xs k hlt2
        generalize xs[k]?.getD dE = x at *
        generalize hL : left - (xs.length : Int) - (bulk (List.take k xs) : Int) = L at *
        have HL := hide hL
        have HB' := hide HB
        clear HB hL
        have hL1 : L ≤ 1048576 := by have := unhide HL; omega
        by_cases hx : L < (x.set.length : Int)
        · have hz := szR_neg hx
          go_wp2_with (go_at_call 32; refine (szOp_any _ _ _ _ _ _ _ _ hl' hge hL1).mono ?_; rintro e w1 ⟨rfl, hb1⟩)
          go_ret
          exact ⟨⟨-1, rfl, Or.inl rfl⟩, hb.trans (hb1.mono hsz)⟩
        · have hx' : (x.set.length : Int) ≤ L := by omega
          have hz := szR_pos hx'
          go_wp2_with (go_at_call 32; refine (szOp_any _ _ _ _ _ _ _ _ hl' hge hL1).mono ?_; rintro e w1 ⟨rfl, hb1⟩)
          go_roundw
          case rel => exact ⟨k + 1, by omega, by go_num, by have h1 := unhide HL; have h2 := unhide HB'; rw [h2]; congr 1; omega, by have h1 := unhide HL; have h2 := unhide HB'; rw [h2]; omega, hb.trans (hb1.mono hsz)⟩
          case measure => simp [intOf]; omega
      · have hlt3 : ¬ (k : Int) < (xs.length : Int) := by omega
        have hkk : k = xs.length := by omega
        subst hkk
        go_wp2
        go_ret
        exact ⟨⟨_, rfl, Or.inr ⟨by simpa using hge, by simp⟩⟩, hb⟩

end Go.Proofs.YtijejbdpagbmpaaDoor
