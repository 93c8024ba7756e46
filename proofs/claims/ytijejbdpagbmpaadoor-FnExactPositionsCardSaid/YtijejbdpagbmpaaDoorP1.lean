import Derived.Test.YtijejbdpagbmpaaDoorRows
import Derived.WalkKit
import Derived.ProofKit
import Derived.Below
import Derived.Deep.QuietTactic
import Derived.BigQuiet
import Derived.WalkSmall
import Derived.RegionTactic
import Derived.BigRegion
import Derived.Deep.RegionWith
import Derived.Deep.OwnRows
namespace Go.Proofs.YtijejbdpagbmpaaDoor
open Go.RowKit

/-- One element of a postfix tree, as data. -/
structure El where
  kind : Int
  set : List Int
  mn : Int
  mx : Int

def dE : El := ⟨0, [], 0, 0⟩

def In64 (x : Int) : Prop := -9223372036854775808 ≤ x ∧ x ≤ 9223372036854775807

/-- v is a slice of ints that reads as xs, in a block from lo on and below n. -/
def IntsAt (lo n : Nat) (w : World) (v : Value) (xs : List Int) : Prop :=
  ∃ a cap, v = .slice a xs.length cap ∧ xs.length ≤ maxLen ∧ (∀ i : Nat, In64 (xs[i]?.getD 0)) ∧
    (0 < xs.length → ∃ b off, a = some ⟨b, off, none⟩ ∧ lo ≤ b ∧ b < n ∧ ∀ i : Nat, i < xs.length → w.cell? ⟨b, off + i, none⟩ = some (.int .i64 (xs[i]?.getD 0)))

/-- The four cells of an element at ⟨b, o⟩. -/
def ElAt (lo n : Nat) (w : World) (b o : Nat) (x : El) : Prop :=
  In64 x.kind ∧ In64 x.mn ∧ In64 x.mx ∧ ∃ v, w.cell? ⟨b, o, none⟩ = some (.int .i64 x.kind) ∧ w.cell? ⟨b, o + 1, none⟩ = some v ∧
    w.cell? ⟨b, o + 2, none⟩ = some (.int .i64 x.mn) ∧ w.cell? ⟨b, o + 3, none⟩ = some (.int .i64 x.mx) ∧ IntsAt lo n w v x.set

/-- v is a slice of elements that reads as xs, in blocks from lo on and below n. -/
def ElsAt (lo n : Nat) (w : World) (v : Value) (xs : List El) : Prop :=
  ∃ a cap, v = .slice a xs.length cap ∧ (xs.length ≤ cap ∧ cap ≤ maxLen) ∧
    (0 < xs.length → ∃ b off, a = some ⟨b, off, none⟩ ∧ lo ≤ b ∧ b < n ∧ ∀ i : Nat, i < xs.length → ElAt lo n w b (off + i * 4) (xs[i]?.getD dE))

/-- From block lo on and below n the cells of w' are those of w. -/
def Same (lo n : Nat) (w w' : World) : Prop := ∀ b o, lo ≤ b → b < n → w'.cell? ⟨b, o, none⟩ = w.cell? ⟨b, o, none⟩

theorem Same.of_below {lo n m : Nat} {w w' : World} (hb : Below m w w') (hm : n ≤ m) : Same lo n w w' := fun b o _ h => hb.cell (p := ⟨b, o, none⟩) (by show b < m; omega)
theorem Same.refl (lo n : Nat) (w : World) : Same lo n w w := fun _ _ _ _ => rfl
theorem Same.trans {lo n : Nat} {a b c : World} (h : Same lo n a b) (k : Same lo n b c) : Same lo n a c := fun x o h1 h2 => (k x o h1 h2).trans (h x o h1 h2)
theorem Same.mono {lo n lo' n' : Nat} {a b : World} (h : Same lo n a b) (h1 : lo ≤ lo') (h2 : n' ≤ n) : Same lo' n' a b := fun x o k1 k2 => h x o (by omega) (by omega)
theorem Same.setCell {lo n : Nat} {w w' : World} (h : Same lo n w w') {b o : Nat} (hb : b < lo ∨ n ≤ b) (u : Value) : Same lo n w (w'.setCell ⟨b, o, none⟩ u) := by
  intro x p h1 h2
  rw [← h x p h1 h2]
  exact World.cell?_of_block (Below.heap_setCell _ _ _ _ (by show x ≠ b; omega))

theorem IntsAt.same {lo n : Nat} {w w' : World} {v : Value} {xs : List Int} (h : IntsAt lo n w v xs) (hs : Same lo n w w') : IntsAt lo n w' v xs := by
  obtain ⟨a, cap, rfl, hl, hr, hc⟩ := h
  refine ⟨a, cap, rfl, hl, hr, fun hp => ?_⟩
  obtain ⟨b, off, rfl, hlo, hbn, hcell⟩ := hc hp
  exact ⟨b, off, rfl, hlo, hbn, fun i hi => by rw [hs b _ hlo hbn]; exact hcell i hi⟩

theorem IntsAt.mono {lo n lo' m : Nat} {w : World} {v : Value} {xs : List Int} (h : IntsAt lo n w v xs) (hl' : lo' ≤ lo) (hm : n ≤ m) : IntsAt lo' m w v xs := by
  obtain ⟨a, cap, rfl, hl, hr, hc⟩ := h
  refine ⟨a, cap, rfl, hl, hr, fun hp => ?_⟩
  obtain ⟨b, off, rfl, hlo, hbn, hcell⟩ := hc hp
  exact ⟨b, off, rfl, by omega, by omega, hcell⟩

theorem ElAt.same {lo n b o : Nat} {w w' : World} {x : El} (h : ElAt lo n w b o x) (hs : Same lo n w w') (h1 : lo ≤ b) (h2 : b < n) : ElAt lo n w' b o x := by
  obtain ⟨i1, i2, i3, v, c0, c1, c2, c3, hi⟩ := h
  refine ⟨i1, i2, i3, v, ?_, ?_, ?_, ?_, hi.same hs⟩ <;> rw [hs _ _ h1 h2] <;> assumption

theorem ElAt.mono {lo n lo' m b o : Nat} {w : World} {x : El} (h : ElAt lo n w b o x) (hl' : lo' ≤ lo) (hm : n ≤ m) : ElAt lo' m w b o x := by
  obtain ⟨h1, h2, h3, v, c0, c1, c2, c3, hi⟩ := h
  exact ⟨h1, h2, h3, v, c0, c1, c2, c3, hi.mono hl' hm⟩

theorem ElsAt.same {lo n : Nat} {w w' : World} {v : Value} {xs : List El} (h : ElsAt lo n w v xs) (hs : Same lo n w w') : ElsAt lo n w' v xs := by
  obtain ⟨a, cap, rfl, hl, hc⟩ := h
  refine ⟨a, cap, rfl, hl, fun hp => ?_⟩
  obtain ⟨b, off, rfl, hlo, hbn, hcell⟩ := hc hp
  exact ⟨b, off, rfl, hlo, hbn, fun i hi => (hcell i hi).same hs hlo hbn⟩

theorem ElsAt.mono {lo n lo' m : Nat} {w : World} {v : Value} {xs : List El} (h : ElsAt lo n w v xs) (hl' : lo' ≤ lo) (hm : n ≤ m) : ElsAt lo' m w v xs := by
  obtain ⟨a, cap, rfl, hl, hc⟩ := h
  refine ⟨a, cap, rfl, hl, fun hp => ?_⟩
  obtain ⟨b, off, rfl, hlo, hbn, hcell⟩ := hc hp
  exact ⟨b, off, rfl, by omega, by omega, fun i hi => (hcell i hi).mono hl' hm⟩

/-- What was there when the call began, in a world in which nothing old has turned. -/
theorem IntsAt.below {lo m : Nat} {w w' : World} {v : Value} {xs : List Int} (h : IntsAt lo w.heap.size w v xs) (hb : Below m w w') (hm : w.heap.size ≤ m) : IntsAt lo w'.heap.size w' v xs :=
  (h.same (Same.of_below hb hm)).mono (Nat.le_refl _) hb.size
theorem ElsAt.below {lo m : Nat} {w w' : World} {v : Value} {xs : List El} (h : ElsAt lo w.heap.size w v xs) (hb : Below m w w') (hm : w.heap.size ≤ m) : ElsAt lo w'.heap.size w' v xs :=
  (h.same (Same.of_below hb hm)).mono (Nat.le_refl _) hb.size

theorem bcell {W w1 : World} {n : Nat} (hb : Below n W w1) : (∀ b o, b < n → w1.cell? ⟨b, o, none⟩ = W.cell? ⟨b, o, none⟩) ∧ (∀ b o, b < n → w1.frozen? ⟨b, o, none⟩ = W.frozen? ⟨b, o, none⟩) :=
  ⟨fun b o h => hb.cell (p := ⟨b, o, none⟩) h, fun b o h => hb.frozen (p := ⟨b, o, none⟩) h⟩

theorem sz_alloc (w : World) (o : Obj) : (w.alloc o).heap.size = w.heap.size + 1 := by simp
theorem below1 (w : World) (o : Obj) : Below w.heap.size w (w.alloc o) := (Below.refl _ _).alloc (Nat.le_refl _) _
theorem below2 (w : World) (o p : Obj) : Below w.heap.size w ((w.alloc o).alloc p) := (below1 w o).alloc (by rw [sz_alloc]; omega) _
theorem below3 (w : World) (o p q : Obj) : Below w.heap.size w (((w.alloc o).alloc p).alloc q) := (below2 w o p).alloc (by rw [sz_alloc, sz_alloc]; omega) _
theorem bput {B : Nat} {a w : World} (h : Below B a w) {b o : Nat} (hp : B ≤ b) (u : Value) : Below B a (w.setCell ⟨b, o, none⟩ u) := h.setCell hp u
theorem sz_put (w : World) (p : Addr) (u : Value) : (w.setCell p u).heap.size = w.heap.size := by simp [World.setCell]
/-- The call has answered a bool that says whether P. -/
def RetB (e : Ending) (P : Prop) : Prop := ∃ r : Bool, e = .returned (.bool r) ∧ (r = true ↔ P)
theorem RetB.yes {P : Prop} (h : P) : RetB (.returned (.bool true)) P := ⟨true, rfl, by simp [h]⟩
theorem RetB.no {P : Prop} (h : ¬ P) : RetB (.returned (.bool false)) P := ⟨false, rfl, by simp [h]⟩
theorem RetB.of {P : Prop} {b : Bool} (h : b = true ↔ P) : RetB (.returned (.bool b)) P := ⟨b, rfl, h⟩
theorem RetB.cases {e : Ending} {P : Prop} (h : RetB e P) : (e = .returned (.bool true) ∧ P) ∨ (e = .returned (.bool false) ∧ ¬ P) := by
  obtain ⟨r, rfl, hr⟩ := h
  cases r with
  | true => exact Or.inl ⟨rfl, hr.1 rfl⟩
  | false => exact Or.inr ⟨rfl, fun hp => Bool.noConfusion (hr.2 hp)⟩
theorem hide {p : Prop} (h : p) : Hid p := h
theorem unhide {p : Prop} (h : Hid p) : p := h
theorem ret_int {k : IntKind} {a b : Int} (h : a = b) : Ending.returned (.int k a) = .returned (.int k b) := by rw [h]
theorem ret_bool {a b : Bool} (h : a = b) : Ending.returned (.bool a) = .returned (.bool b) := by rw [h]

end Go.Proofs.YtijejbdpagbmpaaDoor

namespace Go.Proofs.YtijejbdpagbmpaaDoor
open Go.RowKit

/-- A set of bytes as a canonical list of ranges. -/
def PairOk (xs : List Int) (i : Nat) : Prop := xs[i]?.getD 0 ≤ xs[i + 1]?.getD 0 ∧ (0 < i → 2 ≤ xs[i]?.getD 0 - xs[i - 1]?.getD 0)
def Canon (xs : List Int) : Prop :=
  xs.length % 2 = 0 ∧ (∀ i : Nat, i < xs.length → 0 ≤ xs[i]?.getD 0 ∧ xs[i]?.getD 0 ≤ 255) ∧ ∀ m : Nat, 2 * m < xs.length → PairOk xs (2 * m)

set_option maxHeartbeats 1000000 in
theorem l1canon_any (v : Value) (xs : List Int) (w : World) (hv : IntsAt 0 w.heap.size w v xs) :
    Calls Tryd.prog 67 #[v] w fun e w' => RetB e (Canon xs) ∧ Below w.heap.size w w' := by
  obtain ⟨a, cap, rfl, hl, hr, hc⟩ := hv
  unfold maxLen at hl
  by_cases hev : xs.length % 2 = 0
  · have hev' : ((xs.length : Int) % 2 != 0) = false := by simp; omega
    go_enter Tryd.func67, Tryd.ntmps67
    go_wp2
    go_loop [3] (fun i => ∃ k : Nat, k ≤ xs.length ∧ i = .int .i64 k ∧ ∀ j : Nat, j < k → 0 ≤ xs[j]?.getD 0 ∧ xs[j]?.getD 0 ≤ 255) (fun i => xs.length - (intOf i).toNat)
    case atStart => exact ⟨0, Nat.zero_le _, rfl, fun j hj => absurd hj (Nat.not_lt_zero _)⟩
    case round =>
      obtain ⟨k, hk, rfl, hin⟩ := hrel
      by_cases hlt : k < xs.length
      · obtain ⟨b, off, rfl, -, hbn, hcell⟩ := hc (by omega)
        have hx := hcell k hlt
        have hlt' : (k : Int) < (xs.length : Int) := by omega
        have Hin := hide hin
        clear hin
        generalize hX : xs[k]?.getD 0 = x at *
        have HX := hide hX
        clear hX hcell
        by_cases h1 : x < 0
        · go_wp2
          go_ret
          exact ⟨RetB.no (by intro hcn; have := (hcn.2.1 k hlt).1; rw [unhide HX] at this; omega), Below.refl _ _⟩
        · by_cases h2 : 255 < x
          · go_wp2
            go_ret
            exact ⟨RetB.no (by intro hcn; have := (hcn.2.1 k hlt).2; rw [unhide HX] at this; omega), Below.refl _ _⟩
          · go_wp2
            go_round
            case rel => exact ⟨k + 1, by omega, by go_num, fun j hj => by
              by_cases e : j = k
              · subst e; rw [unhide HX]; omega
              · exact unhide Hin j (by omega)⟩
            case measure => simp [intOf]; omega
      · obtain rfl : k = xs.length := by omega
        have Hin := hide hin
        clear hin
        go_wp2
        go_loopw [4] (fun i wr => ∃ m : Nat, 2 * m ≤ xs.length ∧ i = .int .i64 (2 * m : Nat) ∧ (∀ j : Nat, j < m → PairOk xs (2 * j)) ∧ Below w.heap.size w wr) (fun i _ => xs.length - (intOf i).toNat)
        case atStart => exact ⟨0, Nat.zero_le _, rfl, fun j hj => absurd hj (Nat.not_lt_zero _), Below.refl _ _⟩
        case round =>
          obtain ⟨m, hm, rfl, hpr, hb⟩ := hrel
          have Hpr := hide hpr
          clear hpr
          by_cases hlt2 : 2 * m < xs.length
          · obtain ⟨b, off, rfl, -, hbn, hcell⟩ := hc (by omega)
            have hx : wr.cell? ⟨b, off + 2 * m, none⟩ = some (.int .i64 (xs[2 * m]?.getD 0)) := by rw [hb.cell (p := ⟨b, off + 2 * m, none⟩) hbn]; exact hcell _ hlt2
            have hy : wr.cell? ⟨b, off + (2 * m + 1), none⟩ = some (.int .i64 (xs[2 * m + 1]?.getD 0)) := by rw [hb.cell (p := ⟨b, off + (2 * m + 1), none⟩) hbn]; exact hcell _ (by omega)
            have hlt2' : (2 * (m : Int)) < (xs.length : Int) := by omega
            have hlt3' : (2 * (m : Int)) + 1 < (xs.length : Int) := by omega
            have bx := unhide Hin (2 * m) hlt2
            have byy := unhide Hin (2 * m + 1) (by omega)
            have e1 : ((2 * m : Nat) : Int) = 2 * (m : Int) := by omega
            generalize hX : xs[2 * m]?.getD 0 = x at *
            generalize hY : xs[2 * m + 1]?.getD 0 = y at *
            have HX := hide hX
            have HY := hide hY
            clear hX hY
            by_cases hgt : y < x
            · go_wp2
              go_quiet (fail)
              go_wp2
              go_ret
              exact ⟨RetB.no (by intro hcn; have := (hcn.2.2 m hlt2).1; rw [unhide HX, unhide HY] at this; omega), below_drewN hb _⟩
            · go_wp2
              go_quiet (fail)
              go_wp2
              by_cases hmp : 0 < m
              · have hmp' : 0 < 2 * (m : Int) := by omega
                have hz : wr.cell? ⟨b, off + (2 * m - 1), none⟩ = some (.int .i64 (xs[2 * m - 1]?.getD 0)) := by rw [hb.cell (p := ⟨b, off + (2 * m - 1), none⟩) hbn]; exact hcell _ (by omega)
                have bz := unhide Hin (2 * m - 1) (by omega)
                have hz1 : (2 * (m : Int) - 1).toNat = 2 * m - 1 := by omega
                have hz2 : 0 ≤ 2 * (m : Int) - 1 := by omega
                have hz3 : 2 * (m : Int) - 1 < (xs.length : Int) := by omega
                generalize hZ : xs[2 * m - 1]?.getD 0 = z at *
                have HZ := hide hZ
                clear hZ
                by_cases hdd : x - z < 2
                · go_quiet (fail)
                  go_wp2
                  go_ret
                  exact ⟨RetB.no (by intro hcn; have := (hcn.2.2 m hlt2).2 (by omega); rw [unhide HX, unhide HZ] at this; omega), below_drewN (below_drewN hb _) _⟩
                · go_quiet (fail)
                  go_wp2
                  go_roundw
                  case rel => exact ⟨m + 1, by omega, by congr 1, fun j hj => by
                    by_cases e : j = m
                    · subst e; exact ⟨by rw [unhide HX, unhide HY]; omega, fun _ => by rw [unhide HX, unhide HZ]; omega⟩
                    · exact unhide Hpr j (by omega), below_drewN hb _⟩
                  case measure => simp [intOf]; omega
              · have hmp' : decide (0 < 2 * (m : Int)) = false := by simp; omega
                go_quiet (fail)
                go_wp2
                go_roundw
                case rel => exact ⟨m + 1, by omega, by congr 1, fun j hj => by
                  by_cases e : j = m
                  · subst e; exact ⟨by rw [unhide HX, unhide HY]; omega, fun h => absurd h (by omega)⟩
                  · exact unhide Hpr j (by omega), below_drewN hb _⟩
                case measure => simp [intOf]; omega
          · go_wp2
            go_ret
            exact ⟨RetB.yes ⟨hev, unhide Hin, fun j hj => unhide Hpr j (by omega)⟩, hb⟩
  · have hev' : ((xs.length : Int) % 2 != 0) = true := by simp; omega
    go_enter Tryd.func67, Tryd.ntmps67
    go_wp2
    go_ret
    exact ⟨RetB.no (fun hcn => hev hcn.1), Below.refl _ _⟩

end Go.Proofs.YtijejbdpagbmpaaDoor

namespace Go.Proofs.YtijejbdpagbmpaaDoor
open Go.RowKit

/-- An element that a valid tree may hold. -/
def ElOk (x : El) : Prop :=
  (x.kind = 1 ∧ Canon x.set ∧ x.mn = 0 ∧ x.mx = 0) ∨ ((x.kind = 0 ∨ x.kind = 2 ∨ x.kind = 3) ∧ x.set.length = 0 ∧ x.mn = 0 ∧ x.mx = 0) ∨
  (x.kind = 4 ∧ x.set.length = 0 ∧ 0 ≤ x.mn ∧ x.mn ≤ 250 ∧ (x.mx = -1 ∨ (x.mn ≤ x.mx ∧ x.mx ≤ 250)))

set_option maxHeartbeats 1000000 in
theorem l1opOK_any (v : Value) (x : El) (w : World) (hv : IntsAt 0 w.heap.size w v x.set) :
    Calls Tryd.prog 50 #[.agg #[.int .i64 x.kind, v, .int .i64 x.mn, .int .i64 x.mx]] w fun e w' => RetB e (ElOk x) ∧ Below w.heap.size w w' := by
  obtain ⟨a, cap, rfl, hl, -, -⟩ := id hv
  unfold maxLen at hl
  obtain ⟨k, xs, mn, mx⟩ := x
  simp only at *
  by_cases h1 : k = 1
  · subst h1
    go_enter Tryd.func50, Tryd.ntmps50
    go_wp2_with fail
    refine (l1canon_any _ xs _ (by exact hv.below (below1 w _) (Nat.le_refl _))).mono ?_
    rintro e w1 ⟨hret, hb1⟩
    obtain ⟨hc1, hf1⟩ := bcell hb1
    simp only [sz_alloc] at hc1 hf1
    have hB : Below w.heap.size w w1 := (below1 w _).trans (hb1.mono (by rw [sz_alloc]; omega))
    rcases hret.cases with ⟨rfl, hcn⟩ | ⟨rfl, hcn⟩
    · by_cases h2 : mn = 0
      · by_cases h3 : mx = 0
        · go_wp2
          go_ret
          exact ⟨RetB.yes (Or.inl ⟨rfl, hcn, h2, h3⟩), hB⟩
        · have h3' : (mx == 0) = false := by simp [h3]
          go_wp2
          go_ret
          exact ⟨RetB.no (by rintro (⟨q1, q2, q3, q4⟩ | ⟨q1, q2, q3, q4⟩ | ⟨q1, q2, q3, q4, q5⟩) <;> simp only at * <;> omega), hB⟩
      · go_wp2
        go_ret
        exact ⟨RetB.no (by rintro (⟨q1, q2, q3, q4⟩ | ⟨q1, q2, q3, q4⟩ | ⟨q1, q2, q3, q4, q5⟩) <;> simp only at * <;> omega), hB⟩
    · go_wp2
      go_ret
      exact ⟨RetB.no (by rintro (⟨q1, q2, q3, q4⟩ | ⟨q1, q2, q3, q4⟩ | ⟨q1, q2, q3, q4, q5⟩) <;> simp only at * <;> first | exact hcn q2 | omega), hB⟩
  · by_cases hk : k < 0 ∨ 4 < k
    · rcases hk with hk | hk
      · go_enter Tryd.func50, Tryd.ntmps50
        go_wp2
        go_ret
        exact ⟨RetB.no (by rintro (⟨q1, q2, q3, q4⟩ | ⟨q1, q2, q3, q4⟩ | ⟨q1, q2, q3, q4, q5⟩) <;> simp only at * <;> omega), below1 w _⟩
      · have hk2 : ¬ k < 0 := by omega
        go_enter Tryd.func50, Tryd.ntmps50
        go_wp2
        go_ret
        exact ⟨RetB.no (by rintro (⟨q1, q2, q3, q4⟩ | ⟨q1, q2, q3, q4⟩ | ⟨q1, q2, q3, q4, q5⟩) <;> simp only at * <;> omega), below1 w _⟩
    · by_cases hlen : xs.length = 0
      · have hlen' : ((xs.length : Int) != 0) = false := by simp; exact List.eq_nil_of_length_eq_zero hlen
        have Hlen := hide hlen
        clear hlen
        by_cases h4 : k = 4
        · subst h4
          by_cases c1 : mn < 0
          · go_enter Tryd.func50, Tryd.ntmps50
            go_wp2
            go_ret
            exact ⟨RetB.no (by rintro (⟨q1, q2, q3, q4⟩ | ⟨q1, q2, q3, q4⟩ | ⟨q1, q2, q3, q4, q5⟩) <;> simp only at * <;> omega), below1 w _⟩
          · by_cases c2 : 250 < mn
            · go_enter Tryd.func50, Tryd.ntmps50
              go_wp2
              go_ret
              exact ⟨RetB.no (by rintro (⟨q1, q2, q3, q4⟩ | ⟨q1, q2, q3, q4⟩ | ⟨q1, q2, q3, q4, q5⟩) <;> simp only at * <;> omega), below1 w _⟩
            · by_cases c3 : mx = -1
              · have c3' : (mx == -1) = true := by simp [c3]
                have C3 := hide c3
                clear c3
                go_enter Tryd.func50, Tryd.ntmps50
                go_wp2
                go_ret
                exact ⟨RetB.yes (Or.inr (Or.inr ⟨rfl, unhide Hlen, by simp only; omega, by simp only; omega, Or.inl (unhide C3)⟩)), below1 w _⟩
              · have c3' : (mx == -1) = false := by simp [c3]
                by_cases c4 : mn ≤ mx
                · by_cases c5 : mx ≤ 250
                  · go_enter Tryd.func50, Tryd.ntmps50
                    go_wp2
                    go_ret
                    exact ⟨RetB.yes (Or.inr (Or.inr ⟨rfl, unhide Hlen, by simp only; omega, by simp only; omega, Or.inr ⟨c4, c5⟩⟩)), below1 w _⟩
                  · go_enter Tryd.func50, Tryd.ntmps50
                    go_wp2
                    go_ret
                    exact ⟨RetB.no (by rintro (⟨q1, q2, q3, q4⟩ | ⟨q1, q2, q3, q4⟩ | ⟨q1, q2, q3, q4, q5⟩) <;> simp only at * <;> omega), below1 w _⟩
                · go_enter Tryd.func50, Tryd.ntmps50
                  go_wp2
                  go_ret
                  exact ⟨RetB.no (by rintro (⟨q1, q2, q3, q4⟩ | ⟨q1, q2, q3, q4⟩ | ⟨q1, q2, q3, q4, q5⟩) <;> simp only at * <;> omega), below1 w _⟩
        · have hk3 : k = 0 ∨ k = 2 ∨ k = 3 := by omega
          clear hk h4 h1
          by_cases h2 : mn = 0
          · by_cases h3 : mx = 0
            · rcases hk3 with rfl | rfl | rfl
              all_goals
                go_enter Tryd.func50, Tryd.ntmps50
                go_wp2
                go_ret
                exact ⟨RetB.yes (Or.inr (Or.inl ⟨by simp, unhide Hlen, h2, h3⟩)), below1 w _⟩
            · have h3' : (mx == 0) = false := by simp [h3]
              rcases hk3 with rfl | rfl | rfl
              all_goals
                go_enter Tryd.func50, Tryd.ntmps50
                go_wp2
                go_ret
                exact ⟨RetB.no (by rintro (⟨q1, q2, q3, q4⟩ | ⟨q1, q2, q3, q4⟩ | ⟨q1, q2, q3, q4, q5⟩) <;> simp only at * <;> omega), below1 w _⟩
          · rcases hk3 with rfl | rfl | rfl
            all_goals
              go_enter Tryd.func50, Tryd.ntmps50
              go_wp2
              go_ret
              exact ⟨RetB.no (by rintro (⟨q1, q2, q3, q4⟩ | ⟨q1, q2, q3, q4⟩ | ⟨q1, q2, q3, q4, q5⟩) <;> simp only at * <;> omega), below1 w _⟩
      · have hlen' : ((xs.length : Int) != 0) = true := by simp; intro e; exact hlen (by rw [e]; rfl)
        have hk0 : ¬ k < 0 := by omega
        have hk4 : ¬ 4 < k := by omega
        go_enter Tryd.func50, Tryd.ntmps50
        go_wp2
        go_ret
        exact ⟨RetB.no (by rintro (⟨q1, q2, q3, q4⟩ | ⟨q1, q2, q3, q4⟩ | ⟨q1, q2, q3, q4, q5⟩) <;> simp only at * <;> omega), below1 w _⟩

end Go.Proofs.YtijejbdpagbmpaaDoor

namespace Go.Proofs.YtijejbdpagbmpaaDoor
open Go.RowKit

def lst (xs : List Int) (m : Nat) : Int := if m = 0 then 0 else xs[2 * m - 1]?.getD 0 + 2
def Pair2 (xs : List Int) (m : Nat) : Prop := lst xs m ≤ xs[2 * m]?.getD 0 ∧ xs[2 * m]?.getD 0 ≤ xs[2 * m + 1]?.getD 0 ∧ xs[2 * m + 1]?.getD 0 ≤ 255

theorem lst_succ (xs : List Int) (m : Nat) : lst xs (m + 1) = xs[2 * m + 1]?.getD 0 + 2 := by
  unfold lst; rw [if_neg (by omega)]; rfl

theorem lst_nn {xs : List Int} : ∀ m : Nat, (∀ j : Nat, j < m → Pair2 xs j) → 0 ≤ lst xs m ∧ lst xs m ≤ 257 := by
  intro m
  induction m with
  | zero => intro _; simp [lst]
  | succ m ih =>
    intro h
    have h1 := ih (fun j hj => h j (by omega))
    have h2 := h m (by omega)
    unfold Pair2 at h2
    rw [lst_succ]; omega

theorem canon_iff {xs : List Int} : Canon xs ↔ xs.length % 2 = 0 ∧ ∀ m : Nat, 2 * m < xs.length → Pair2 xs m := by
  constructor
  · rintro ⟨h1, h2, h3⟩
    refine ⟨h1, fun m hm => ?_⟩
    have a := h2 (2 * m) hm
    have b := h2 (2 * m + 1) (by omega)
    obtain ⟨c, d⟩ := h3 m hm
    refine ⟨?_, c, b.2⟩
    unfold lst
    split
    · exact a.1
    · have := d (by omega); omega
  · rintro ⟨h1, h2⟩
    have key : ∀ m : Nat, 2 * m < xs.length → 0 ≤ lst xs m := fun m hm => (lst_nn m (fun j hj => h2 j (by omega))).1
    refine ⟨h1, fun i hi => ?_, fun m hm => ?_⟩
    · have hm : 2 * (i / 2) < xs.length := by omega
      have a := key _ hm
      have b := h2 _ hm
      unfold Pair2 at b
      rcases Nat.mod_two_eq_zero_or_one i with e | e
      · rw [show 2 * (i / 2) = i by omega] at b; omega
      · rw [show 2 * (i / 2) + 1 = i by omega] at b; omega
    · have b := h2 _ hm
      unfold Pair2 at b
      refine ⟨b.2.1, fun h0 => ?_⟩
      have b1 := b.1
      unfold lst at b1
      rw [if_neg (by omega)] at b1
      omega

set_option maxHeartbeats 1000000 in
theorem canonical_any (v : Value) (xs : List Int) (w : World) (hv : IntsAt 0 w.heap.size w v xs) :
    Calls Tryd.prog 68 #[v] w fun e w' => RetB e (Canon xs) ∧ Below w.heap.size w w' := by
  rw [canon_iff]
  obtain ⟨a, cap, rfl, hl, hr, hc⟩ := hv
  unfold maxLen at hl
  by_cases hev : xs.length % 2 = 0
  · have hev' : ((xs.length : Int) % 2 != 0) = false := by simp; omega
    go_enter Tryd.func68, Tryd.ntmps68
    go_wp2
    go_loopw [3, 4] (fun l i wr => ∃ m : Nat, 2 * m ≤ xs.length ∧ i = .int .i64 (2 * m : Nat) ∧ l = .int .i64 (lst xs m) ∧ (∀ j : Nat, j < m → Pair2 xs j) ∧ Below w.heap.size w wr) (fun _ i _ => xs.length - (intOf i).toNat)
    case atStart => exact ⟨0, Nat.zero_le _, rfl, rfl, fun j hj => absurd hj (Nat.not_lt_zero _), Below.refl _ _⟩
    case round =>
      obtain ⟨m, hm, rfl, rfl, hpr, hb⟩ := hrel
      have hL := lst_nn m hpr
      have Hpr := hide hpr
      clear hpr
      by_cases hlt2 : 2 * m < xs.length
      · obtain ⟨b, off, rfl, -, hbn, hcell⟩ := hc (by omega)
        have hx : wr.cell? ⟨b, off + 2 * m, none⟩ = some (.int .i64 (xs[2 * m]?.getD 0)) := by rw [hb.cell (p := ⟨b, off + 2 * m, none⟩) hbn]; exact hcell _ hlt2
        have hy : wr.cell? ⟨b, off + (2 * m + 1), none⟩ = some (.int .i64 (xs[2 * m + 1]?.getD 0)) := by rw [hb.cell (p := ⟨b, off + (2 * m + 1), none⟩) hbn]; exact hcell _ (by omega)
        have hlt2' : (2 * (m : Int)) < (xs.length : Int) := by omega
        have hlt3' : (2 * (m : Int)) + 1 < (xs.length : Int) := by omega
        have hls := lst_succ xs m
        have hP : Hid (Pair2 xs m ↔ lst xs m ≤ xs[2 * m]?.getD 0 ∧ xs[2 * m]?.getD 0 ≤ xs[2 * m + 1]?.getD 0 ∧ xs[2 * m + 1]?.getD 0 ≤ 255) := Iff.rfl
        generalize lst xs m = L at *
        generalize xs[2 * m]?.getD 0 = x at *
        generalize xs[2 * m + 1]?.getD 0 = y at *
        have Hls := hide hls
        clear hls hcell
        by_cases g1 : x < L
        · go_wp2
          go_quiet (fail)
          go_wp2
          go_ret
          exact ⟨RetB.no (fun h => by have := (unhide hP).1 (h.2 m hlt2); omega), below_drewN hb _⟩
        · by_cases g2 : y < x
          · go_wp2
            go_quiet (fail)
            go_wp2
            go_ret
            exact ⟨RetB.no (fun h => by have := (unhide hP).1 (h.2 m hlt2); omega), below_drewN hb _⟩
          · by_cases g3 : 256 ≤ y
            · go_wp2
              go_quiet (fail)
              go_wp2
              go_ret
              exact ⟨RetB.no (fun h => by have := (unhide hP).1 (h.2 m hlt2); omega), below_drewN hb _⟩
            · go_wp2
              go_quiet (fail)
              go_wp2
              go_roundw
              case rel => exact ⟨m + 1, by omega, by congr 1, by rw [unhide Hls], fun j hj => by
                by_cases e : j = m
                · subst e; exact (unhide hP).2 ⟨by omega, by omega, by omega⟩
                · exact unhide Hpr j (by omega), below_drewN hb _⟩
              case measure => simp [intOf]; omega
      · go_wp2
        go_ret
        exact ⟨RetB.yes ⟨hev, fun j hj => unhide Hpr j (by omega)⟩, hb⟩
  · have hev' : ((xs.length : Int) % 2 != 0) = true := by simp; omega
    go_enter Tryd.func68, Tryd.ntmps68
    go_wp2
    go_ret
    exact ⟨RetB.no (fun hcn => hev hcn.1), Below.refl _ _⟩

def BdOk (mn mx : Int) : Prop := 0 ≤ mn ∧ mn ≤ 250 ∧ (mx = -1 ∨ (mn ≤ mx ∧ mx ≤ 250))

set_option maxHeartbeats 1000000 in
theorem validBounds_any (mn mx : Int) (w : World) : Calls Tryd.prog 69 #[.int .i64 mn, .int .i64 mx] w fun e w' => RetB e (BdOk mn mx) ∧ w' = w := by
  by_cases c1 : mn < 0
  · go_enter Tryd.func69, Tryd.ntmps69
    go_wp2
    go_ret
    exact ⟨RetB.no (by unfold BdOk; omega), rfl⟩
  · by_cases c2 : 250 < mn
    · go_enter Tryd.func69, Tryd.ntmps69
      go_wp2
      go_ret
      exact ⟨RetB.no (by unfold BdOk; omega), rfl⟩
    · by_cases c3 : mx = -1
      · have c3' : (mx == -1) = true := by simp [c3]
        have C3 := hide c3
        clear c3
        go_enter Tryd.func69, Tryd.ntmps69
        go_wp2
        go_ret
        exact ⟨RetB.yes ⟨by omega, by omega, Or.inl (unhide C3)⟩, rfl⟩
      · have c3' : (mx == -1) = false := by simp [c3]
        by_cases c4 : mn ≤ mx
        · by_cases c5 : mx ≤ 250
          · go_enter Tryd.func69, Tryd.ntmps69
            go_wp2
            go_ret
            exact ⟨RetB.yes ⟨by omega, by omega, Or.inr ⟨c4, c5⟩⟩, rfl⟩
          · go_enter Tryd.func69, Tryd.ntmps69
            go_wp2
            go_ret
            exact ⟨RetB.no (by unfold BdOk; omega), rfl⟩
        · go_enter Tryd.func69, Tryd.ntmps69
          go_wp2
          go_ret
          exact ⟨RetB.no (by unfold BdOk; omega), rfl⟩

def cnt (k : Int) : Int := if k = 4 then 1 else if k = 2 ∨ k = 3 then 2 else 0

set_option maxHeartbeats 1000000 in
theorem operandCount_any (k : Int) (w : World) : Calls Tryd.prog 59 #[.int .i64 k] w fun e w' => e = .returned (.int .i64 (cnt k)) ∧ w' = w := by
  by_cases h4 : k = 4
  · subst h4
    go_enter Tryd.func59, Tryd.ntmps59
    go_wp2
    go_ret
    exact ⟨rfl, rfl⟩
  · by_cases h2 : k = 2
    · subst h2
      go_enter Tryd.func59, Tryd.ntmps59
      go_wp2
      go_ret
      exact ⟨rfl, rfl⟩
    · by_cases h3 : k = 3
      · subst h3
        go_enter Tryd.func59, Tryd.ntmps59
        go_wp2
        go_ret
        exact ⟨rfl, rfl⟩
      · have e : cnt k = 0 := by unfold cnt; rw [if_neg h4, if_neg (by omega)]
        have b4 : (k == 4) = false := by simp [h4]
        have b2 : (k == 2) = false := by simp [h2]
        have b3 : (k == 3) = false := by simp [h3]
        have E := hide e
        clear e
        go_enter Tryd.func59, Tryd.ntmps59
        go_wp2
        go_ret
        exact ⟨ret_int (unhide E).symm, rfl⟩

end Go.Proofs.YtijejbdpagbmpaaDoor

namespace Go.Proofs.YtijejbdpagbmpaaDoor
open Go.RowKit

/-- Four words. -/
def words (a b c d : Int) : Array Value := #[.int .u64 a, .int .u64 b, .int .u64 c, .int .u64 d]

set_option maxHeartbeats 1000000 in
theorem with_any (a b c d lo hi : Int) (w : World) (h0 : 0 ≤ lo) (h1 : hi ≤ 255) :
    Calls Tryd.prog 75 #[.agg #[.int .u64 a, .int .u64 b, .int .u64 c, .int .u64 d], .int .i64 lo, .int .i64 hi] w fun e w' =>
      (∃ a' b' c' d', e = .returned (.agg #[.int .u64 a', .int .u64 b', .int .u64 c', .int .u64 d'])) ∧ Below w.heap.size w w' := by
  go_enter Tryd.func75, Tryd.ntmps75
  go_wp2
  go_loopw [7] (fun i wr => ∃ x : Int, 0 ≤ x ∧ i = .int .i64 x ∧ (∃ g : Nat → Int, wr.rowIs w.heap.size 68 4 (fun j => .int .u64 (g j))) ∧ (∃ g : Nat → Value, wr.rowIs (w.heap.size + 1) 68 4 g) ∧ Below w.heap.size w wr) (fun i _ => (hi + 1 - intOf i).toNat)
  case atStart =>
    refine ⟨lo, h0, rfl, ⟨fun j => if j = 0 then a else if j = 1 then b else if j = 2 then c else d, ?_⟩, ⟨fun _ => .int .u64 0, ?_⟩, below2 w _ _⟩
    · refine World.rowIs.alloc (World.rowIs.congr (World.rowIs_alloc w #[.int .u64 a, .int .u64 b, .int .u64 c, .int .u64 d] 68 (fun j => .int .u64 (if j = 0 then a else if j = 1 then b else if j = 2 then c else d)) ?_) (fun _ _ => rfl)) _
      intro i hi
      match i, hi with
      | 0, _ => rfl
      | 1, _ => rfl
      | 2, _ => rfl
      | 3, _ => rfl
    · have h := World.rowIs_alloc (w.alloc (.cells #[.int .u64 a, .int .u64 b, .int .u64 c, .int .u64 d] 68)) #[.int .u64 0, .int .u64 0, .int .u64 0, .int .u64 0] 68 (fun _ => .int .u64 0) ?_
      · rw [sz_alloc] at h; exact h
      · intro i hi
        match i, hi with
        | 0, _ => rfl
        | 1, _ => rfl
        | 2, _ => rfl
        | 3, _ => rfl
  case round =>
    obtain ⟨x, hx0, rfl, ⟨g, hrow⟩, ⟨g2, hrow2⟩, hb⟩ := hrel
    obtain ⟨k, rfl⟩ := Int.eq_ofNat_of_zero_le hx0
    by_cases hlt : (k : Int) ≤ hi
    · have hk : k ≤ 255 := by omega
      have hq : k / 64 < 4 := by omega
      have c0 := hrow.cell hq
      have f0 := hrow.frozen (k / 64)
      have hq' : ((k / 64 : Nat) : Int) < 4 := by omega
      have hq2 : (k : Int) / 64 < 4 := by omega
      have hq3 : 0 ≤ (k : Int) / 64 := by omega
      have hrow' := hide hrow
      have hrow2' := hide hrow2
      clear hrow hrow2
      go_wp2
      go_region
      go_wp2
      generalize (bits BinOp.or IntKind.u64 (g (k / 64)) (IntKind.u64.wrap (2 ^ (k % 64)))) = z
      refine ⟨⟨(k : Int) + 1, by omega, rfl, ⟨fun j => if j = k / 64 then z else g j, ?_⟩, ⟨g2, ?_⟩, ?_⟩, by simp [intOf]; omega⟩
      · exact (((unhide hrow').set (k / 64) _).congr (fun j _ => by by_cases e : j = k / 64 <;> simp [e])).drew
      · exact ((unhide hrow2').setOther (by show w.heap.size + 1 ≠ w.heap.size; omega) _).drew
      · exact (bput hb (Nat.le_refl _) _).drew
    · have c0 := hrow.cell (i := 0) (by omega)
      have c1 := hrow.cell (i := 1) (by omega)
      have c2 := hrow.cell (i := 2) (by omega)
      have c3 := hrow.cell (i := 3) (by omega)
      have d0 := hrow2.cell (i := 0) (by omega)
      have d1 := hrow2.cell (i := 1) (by omega)
      have d2 := hrow2.cell (i := 2) (by omega)
      have d3 := hrow2.cell (i := 3) (by omega)
      have f0 := hrow2.frozen 0
      have f1 := hrow2.frozen 1
      have f2 := hrow2.frozen 2
      have f3 := hrow2.frozen 3
      clear hrow hrow2
      go_wp2
      refine bodyPost_ret (v := .agg #[.int .u64 (g 0), .int .u64 (g 1), .int .u64 (g 2), .int .u64 (g 3)]) (by simp [results, Tryd.results75, go_sem, d0, d1, d2, d3]) rfl ⟨⟨_, _, _, _, rfl⟩, ?_⟩
      exact bput (bput (bput (bput hb (by omega) _) (by omega) _) (by omega) _) (by omega) _

theorem words_step {w1 : World} {N : Nat} {g : Nat → Int} (h : w1.rowIs N 68 4 (fun j => .int .u64 (g j))) (a b c d : Int) :
    ∃ g' : Nat → Int, ((((w1.setCell ⟨N, 0, none⟩ (.int .u64 a)).setCell ⟨N, 1, none⟩ (.int .u64 b)).setCell ⟨N, 2, none⟩ (.int .u64 c)).setCell ⟨N, 3, none⟩ (.int .u64 d)).rowIs N 68 4 (fun j => .int .u64 (g' j)) := by
  refine ⟨fun j => if j = 3 then d else if j = 2 then c else if j = 1 then b else if j = 0 then a else g j, ((((h.set 0 _).set 1 _).set 2 _).set 3 _).congr ?_⟩
  intro j hj
  by_cases e3 : j = 3
  · simp [e3]
  · by_cases e2 : j = 2
    · simp [e2]
    · by_cases e1 : j = 1
      · simp [e1]
      · by_cases e0 : j = 0
        · simp [e0]
        · simp [e0, e1, e2, e3]

set_option maxHeartbeats 2000000 in
theorem setOf_any (v : Value) (xs : List Int) (w : World) (hv : IntsAt 0 w.heap.size w v xs) (hcn : Canon xs) :
    Calls Tryd.prog 70 #[v] w fun e w' =>
      (∃ a' b' c' d', e = .returned (.agg #[.int .u64 a', .int .u64 b', .int .u64 c', .int .u64 d'])) ∧ Below w.heap.size w w' := by
  obtain ⟨a, cap, rfl, hl, hr, hc⟩ := hv
  unfold maxLen at hl
  have Hcn := hide hcn
  clear hcn
  go_enter Tryd.func70, Tryd.ntmps70
  go_wp2
  go_loopw [4] (fun i wr => ∃ p : Nat, p ≤ xs.length ∧ p % 2 = 0 ∧ i = .int .i64 p ∧ (∃ g : Nat → Value, wr.rowIs w.heap.size 68 4 g) ∧ (∃ g : Nat → Int, wr.rowIs (w.heap.size + 1) 68 4 (fun j => .int .u64 (g j))) ∧ Below w.heap.size w wr) (fun i _ => xs.length - (intOf i).toNat)
  case atStart =>
    refine ⟨0, Nat.zero_le _, rfl, rfl, ⟨fun _ => .int .u64 0, ?_⟩, ⟨fun _ => 0, ?_⟩, below2 w _ _⟩
    · refine World.rowIs.alloc (World.rowIs.congr (World.rowIs_alloc w #[.int .u64 0, .int .u64 0, .int .u64 0, .int .u64 0] 68 (fun _ => .int .u64 0) ?_) (fun _ _ => rfl)) _
      intro i hi
      match i, hi with
      | 0, _ => rfl
      | 1, _ => rfl
      | 2, _ => rfl
      | 3, _ => rfl
    · have h := World.rowIs_alloc (w.alloc (.cells #[.int .u64 0, .int .u64 0, .int .u64 0, .int .u64 0] 68)) #[.int .u64 0, .int .u64 0, .int .u64 0, .int .u64 0] 68 (fun _ => .int .u64 0) ?_
      · rw [sz_alloc] at h; exact h
      · intro i hi
        match i, hi with
        | 0, _ => rfl
        | 1, _ => rfl
        | 2, _ => rfl
        | 3, _ => rfl
  case round =>
    obtain ⟨p, hm, hp2, rfl, ⟨g2, hrow2⟩, ⟨g, hrow⟩, hb⟩ := hrel
    have hev := (unhide Hcn).1
    by_cases hlt2 : p < xs.length
    · obtain ⟨b, off, rfl, -, hbn, hcell⟩ := hc (by omega)
      have hx : wr.cell? ⟨b, off + p, none⟩ = some (.int .i64 (xs[p]?.getD 0)) := by rw [hb.cell (p := ⟨b, off + p, none⟩) hbn]; exact hcell _ hlt2
      have hy : wr.cell? ⟨b, off + (p + 1), none⟩ = some (.int .i64 (xs[p + 1]?.getD 0)) := by rw [hb.cell (p := ⟨b, off + (p + 1), none⟩) hbn]; exact hcell _ (by omega)
      have hlt2' : (p : Int) < (xs.length : Int) := by omega
      have hlt3' : (p : Int) + 1 < (xs.length : Int) := by omega
      have bx := ((unhide Hcn).2.1 (p) hlt2).1
      have byy := ((unhide Hcn).2.1 (p + 1) (by omega)).2
      generalize xs[p]?.getD 0 = x at *
      generalize xs[p + 1]?.getD 0 = y at *
      have c0 := hrow.cell (i := 0) (by omega)
      have c1 := hrow.cell (i := 1) (by omega)
      have c2 := hrow.cell (i := 2) (by omega)
      have c3 := hrow.cell (i := 3) (by omega)
      have hN := hrow.lt
      have f0 := hrow.frozen 0
      have f1 := hrow.frozen 1
      have f2 := hrow.frozen 2
      have f3 := hrow.frozen 3
      have hrow' := hide hrow
      have hrow2' := hide hrow2
      clear hrow hrow2 hcell
      go_wp2
      have hw2 : IntKind.i64.wrap ((p : Int) + 1) = (p : Int) + 1 := by rw [IntKind.wrap_i64]; omega
      have hw1 : wrap64 ((p : Int) + 1) = (p : Int) + 1 := by unfold wrap64; omega
      go_region_with (go_at_call 75; refine (with_any _ _ _ _ x y _ bx byy).mono ?_; rintro e w1 ⟨⟨a', b', c', d', rfl⟩, hb1⟩; have hb2 : Below wr.heap.size wr w1 := ⟨hb1.os, hb1.tape, hb1.output, hb1.size, hb1.block⟩; clear hb1; have hc1 := (bcell hb2).1; have hf1 := (bcell hb2).2)
      all_goals
        clear hc1 hf1 c0 c1 c2 c3 f0 f1 f2 f3 hx hy
        go_wp2
        have hr1 := (unhide hrow').of_block (hb2.block _ hN)
        have hr2 := (unhide hrow2').of_block (hb2.block _ (unhide hrow2').lt)
        refine ⟨⟨p + 2, by omega, by omega, by go_num, ⟨g2, ?_⟩, words_step hr1 _ _ _ _, ?_⟩, by simp [intOf]; omega⟩
        · exact (((hr2.setOther (by show w.heap.size ≠ w.heap.size + 1; omega) _).setOther (by show w.heap.size ≠ w.heap.size + 1; omega) _).setOther (by show w.heap.size ≠ w.heap.size + 1; omega) _).setOther (by show w.heap.size ≠ w.heap.size + 1; omega) _
        · exact bput (bput (bput (bput (hb.trans (hb2.mono hb.size)) (by omega) _) (by omega) _) (by omega) _) (by omega) _
    · have c0 := hrow.cell (i := 0) (by omega)
      have c1 := hrow.cell (i := 1) (by omega)
      have c2 := hrow.cell (i := 2) (by omega)
      have c3 := hrow.cell (i := 3) (by omega)
      have d0 := hrow2.cell (i := 0) (by omega)
      have d1 := hrow2.cell (i := 1) (by omega)
      have d2 := hrow2.cell (i := 2) (by omega)
      have d3 := hrow2.cell (i := 3) (by omega)
      have f0 := hrow2.frozen 0
      have f1 := hrow2.frozen 1
      have f2 := hrow2.frozen 2
      have f3 := hrow2.frozen 3
      clear hrow hrow2
      go_wp2
      refine bodyPost_ret (v := .agg #[.int .u64 (g 0), .int .u64 (g 1), .int .u64 (g 2), .int .u64 (g 3)]) (by simp [results, Tryd.results70, go_sem, d0, d1, d2, d3]) rfl ⟨⟨_, _, _, _, rfl⟩, ?_⟩
      exact bput (bput (bput (bput hb (by omega) _) (by omega) _) (by omega) _) (by omega) _

end Go.Proofs.YtijejbdpagbmpaaDoor
