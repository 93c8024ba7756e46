import Derived.Test.YtfdkdjngeomcdaaDoorP1
import Derived.Deep.QuietTactic
import Derived.BigQuiet
import Derived.WalkSmall
import Derived.RegionTactic
import Derived.BigRegion
import Derived.Deep.RegionWith
import Derived.Deep.OwnRows
import Derived.Laws.Bits64b
namespace Go.Proofs.YtfdkdjngeomcdaaDoor
open Go.RowKit

/-- A set of bytes as a canonical list of ranges. -/
def PairOk (xs : List Int) (i : Nat) : Prop := xs[i]?.getD 0 ≤ xs[i + 1]?.getD 0 ∧ (0 < i → 2 ≤ xs[i]?.getD 0 - xs[i - 1]?.getD 0)
def Canon (xs : List Int) : Prop :=
  xs.length % 2 = 0 ∧ (∀ i : Nat, i < xs.length → 0 ≤ xs[i]?.getD 0 ∧ xs[i]?.getD 0 ≤ 255) ∧ ∀ m : Nat, 2 * m < xs.length → PairOk xs (2 * m)

set_option maxHeartbeats 1000000 in
theorem l1canon_any (v : Value) (xs : List Int) (w : World) (hv : IntsAt 0 w.heap.size w v xs) :
    Calls Tryd.prog 59 #[v] w fun e w' => RetB e (Canon xs) ∧ Below w.heap.size w w' := by
  obtain ⟨a, cap, rfl, hl, hr, hc⟩ := hv
  unfold maxLen at hl
  by_cases hev : xs.length % 2 = 0
  · have hev' : ((xs.length : Int) % 2 != 0) = false := by simp; omega
    go_enter Tryd.func59, Tryd.ntmps59
    go_wp2
    go_loop [3] (fun i => ∃ k : Nat, k ≤ xs.length ∧ i = .int .i64 k ∧ ∀ j : Nat, j < k → 0 ≤ xs[j]?.getD 0 ∧ xs[j]?.getD 0 ≤ 255) (fun i => xs.length - (intOf i).toNat)
    case atStart => exact ⟨0, Nat.zero_le _, rfl, fun j hj => absurd hj (Nat.not_lt_zero _)⟩
    case round =>
      obtain ⟨k, hk, rfl, hin⟩ := hrel
      by_cases hlt : k < xs.length
      · obtain ⟨b, off, rfl, -, hbn, hcell⟩ := hc (by omega)
        have hx := hcell k hlt
        have hlt' : (k : Int) < (xs.length : Int) := by omega
        have Hin := hide hin
        clear hin
        generalize hX : xs[k]?.getD 0 = x at *
        have HX := hide hX
        clear hX hcell
        by_cases h1 : x < 0
        · go_wp2
          go_ret
          exact ⟨RetB.no (by intro hcn; have := (hcn.2.1 k hlt).1; rw [unhide HX] at this; omega), Below.refl _ _⟩
        · by_cases h2 : 255 < x
          · go_wp2
            go_ret
            exact ⟨RetB.no (by intro hcn; have := (hcn.2.1 k hlt).2; rw [unhide HX] at this; omega), Below.refl _ _⟩
          · go_wp2
            go_round
            case rel => exact ⟨k + 1, by omega, by go_num, fun j hj => by
              by_cases e : j = k
              · subst e; rw [unhide HX]; omega
              · exact unhide Hin j (by omega)⟩
            case measure => simp [intOf]; omega
      · obtain rfl : k = xs.length := by omega
        have Hin := hide hin
        clear hin
        go_wp2
        go_loopw [4] (fun i wr => ∃ m : Nat, 2 * m ≤ xs.length ∧ i = .int .i64 (2 * m : Nat) ∧ (∀ j : Nat, j < m → PairOk xs (2 * j)) ∧ Below w.heap.size w wr) (fun i _ => xs.length - (intOf i).toNat)
        case atStart => exact ⟨0, Nat.zero_le _, rfl, fun j hj => absurd hj (Nat.not_lt_zero _), Below.refl _ _⟩
        case round =>
          obtain ⟨m, hm, rfl, hpr, hb⟩ := hrel
          have Hpr := hide hpr
          clear hpr
          by_cases hlt2 : 2 * m < xs.length
          · obtain ⟨b, off, rfl, -, hbn, hcell⟩ := hc (by omega)
            have hx : wr.cell? ⟨b, off + 2 * m, none⟩ = some (.int .i64 (xs[2 * m]?.getD 0)) := by rw [hb.cell (p := ⟨b, off + 2 * m, none⟩) hbn]; exact hcell _ hlt2
            have hy : wr.cell? ⟨b, off + (2 * m + 1), none⟩ = some (.int .i64 (xs[2 * m + 1]?.getD 0)) := by rw [hb.cell (p := ⟨b, off + (2 * m + 1), none⟩) hbn]; exact hcell _ (by omega)
            have hlt2' : (2 * (m : Int)) < (xs.length : Int) := by omega
            have hlt3' : (2 * (m : Int)) + 1 < (xs.length : Int) := by omega
            have bx := unhide Hin (2 * m) hlt2
            have byy := unhide Hin (2 * m + 1) (by omega)
            have e1 : ((2 * m : Nat) : Int) = 2 * (m : Int) := by omega
            generalize hX : xs[2 * m]?.getD 0 = x at *
            generalize hY : xs[2 * m + 1]?.getD 0 = y at *
            have HX := hide hX
            have HY := hide hY
            clear hX hY
            by_cases hgt : y < x
            · go_wp2
              go_quiet (fail)
              go_wp2
              go_ret
              exact ⟨RetB.no (by intro hcn; have := (hcn.2.2 m hlt2).1; rw [unhide HX, unhide HY] at this; omega), below_drewN hb _⟩
            · go_wp2
              go_quiet (fail)
              go_wp2
              by_cases hmp : 0 < m
              · have hmp' : 0 < 2 * (m : Int) := by omega
                have hz : wr.cell? ⟨b, off + (2 * m - 1), none⟩ = some (.int .i64 (xs[2 * m - 1]?.getD 0)) := by rw [hb.cell (p := ⟨b, off + (2 * m - 1), none⟩) hbn]; exact hcell _ (by omega)
                have bz := unhide Hin (2 * m - 1) (by omega)
                have hz1 : (2 * (m : Int) - 1).toNat = 2 * m - 1 := by omega
                have hz2 : 0 ≤ 2 * (m : Int) - 1 := by omega
                have hz3 : 2 * (m : Int) - 1 < (xs.length : Int) := by omega
                generalize hZ : xs[2 * m - 1]?.getD 0 = z at *
                have HZ := hide hZ
                clear hZ
                by_cases hdd : x - z < 2
                · go_quiet (fail)
                  go_wp2
                  go_ret
                  exact ⟨RetB.no (by intro hcn; have := (hcn.2.2 m hlt2).2 (by omega); rw [unhide HX, unhide HZ] at this; omega), below_drewN (below_drewN hb _) _⟩
                · go_quiet (fail)
                  go_wp2
                  go_roundw
                  case rel => exact ⟨m + 1, by omega, by congr 1, fun j hj => by
                    by_cases e : j = m
                    · subst e; exact ⟨by rw [unhide HX, unhide HY]; omega, fun _ => by rw [unhide HX, unhide HZ]; omega⟩
                    · exact unhide Hpr j (by omega), below_drewN hb _⟩
                  case measure => simp [intOf]; omega
              · have hmp' : decide (0 < 2 * (m : Int)) = false := by simp; omega
                go_quiet (fail)
                go_wp2
                go_roundw
                case rel => exact ⟨m + 1, by omega, by congr 1, fun j hj => by
                  by_cases e : j = m
                  · subst e; exact ⟨by rw [unhide HX, unhide HY]; omega, fun h => absurd h (by omega)⟩
                  · exact unhide Hpr j (by omega), below_drewN hb _⟩
                case measure => simp [intOf]; omega
          · go_wp2
            go_ret
            exact ⟨RetB.yes ⟨hev, unhide Hin, fun j hj => unhide Hpr j (by omega)⟩, hb⟩
  · have hev' : ((xs.length : Int) % 2 != 0) = true := by simp; omega
    go_enter Tryd.func59, Tryd.ntmps59
    go_wp2
    go_ret
    exact ⟨RetB.no (fun hcn => hev hcn.1), Below.refl _ _⟩

end Go.Proofs.YtfdkdjngeomcdaaDoor

namespace Go.Proofs.YtfdkdjngeomcdaaDoor
open Go.RowKit

/-- An element that a valid tree may hold. -/
def ElOk (x : El) : Prop :=
  (x.kind = 1 ∧ Canon x.set ∧ x.mn = 0 ∧ x.mx = 0) ∨ ((x.kind = 0 ∨ x.kind = 2 ∨ x.kind = 3) ∧ x.set.length = 0 ∧ x.mn = 0 ∧ x.mx = 0) ∨
  (x.kind = 4 ∧ x.set.length = 0 ∧ 0 ≤ x.mn ∧ x.mn ≤ 250 ∧ (x.mx = -1 ∨ (x.mn ≤ x.mx ∧ x.mx ≤ 250)))

set_option maxHeartbeats 1000000 in
theorem l1opOK_any (v : Value) (x : El) (w : World) (hv : IntsAt 0 w.heap.size w v x.set) :
    Calls Tryd.prog 36 #[.agg #[.int .i64 x.kind, v, .int .i64 x.mn, .int .i64 x.mx]] w fun e w' => RetB e (ElOk x) ∧ Below w.heap.size w w' := by
  obtain ⟨a, cap, rfl, hl, -, -⟩ := id hv
  unfold maxLen at hl
  obtain ⟨k, xs, mn, mx⟩ := x
  simp only at *
  by_cases h1 : k = 1
  · subst h1
    go_enter Tryd.func36, Tryd.ntmps36
    go_wp2_with fail
    refine (l1canon_any _ xs _ (by exact hv.below (below1 w _) (Nat.le_refl _))).mono ?_
    rintro e w1 ⟨hret, hb1⟩
    obtain ⟨hc1, hf1⟩ := bcell hb1
    simp only [sz_alloc] at hc1 hf1
    have hB : Below w.heap.size w w1 := (below1 w _).trans (hb1.mono (by rw [sz_alloc]; omega))
    rcases hret.cases with ⟨rfl, hcn⟩ | ⟨rfl, hcn⟩
    · by_cases h2 : mn = 0
      · by_cases h3 : mx = 0
        · go_wp2
          go_ret
          exact ⟨RetB.yes (Or.inl ⟨rfl, hcn, h2, h3⟩), hB⟩
        · have h3' : (mx == 0) = false := by simp [h3]
          go_wp2
          go_ret
          exact ⟨RetB.no (by rintro (⟨q1, q2, q3, q4⟩ | ⟨q1, q2, q3, q4⟩ | ⟨q1, q2, q3, q4, q5⟩) <;> simp only at * <;> omega), hB⟩
      · go_wp2
        go_ret
        exact ⟨RetB.no (by rintro (⟨q1, q2, q3, q4⟩ | ⟨q1, q2, q3, q4⟩ | ⟨q1, q2, q3, q4, q5⟩) <;> simp only at * <;> omega), hB⟩
    · go_wp2
      go_ret
      exact ⟨RetB.no (by rintro (⟨q1, q2, q3, q4⟩ | ⟨q1, q2, q3, q4⟩ | ⟨q1, q2, q3, q4, q5⟩) <;> simp only at * <;> first | exact hcn q2 | omega), hB⟩
  · by_cases hk : k < 0 ∨ 4 < k
    · rcases hk with hk | hk
      · go_enter Tryd.func36, Tryd.ntmps36
        go_wp2
        go_ret
        exact ⟨RetB.no (by rintro (⟨q1, q2, q3, q4⟩ | ⟨q1, q2, q3, q4⟩ | ⟨q1, q2, q3, q4, q5⟩) <;> simp only at * <;> omega), below1 w _⟩
      · have hk2 : ¬ k < 0 := by omega
        go_enter Tryd.func36, Tryd.ntmps36
        go_wp2
        go_ret
        exact ⟨RetB.no (by rintro (⟨q1, q2, q3, q4⟩ | ⟨q1, q2, q3, q4⟩ | ⟨q1, q2, q3, q4, q5⟩) <;> simp only at * <;> omega), below1 w _⟩
    · by_cases hlen : xs.length = 0
      · have hlen' : ((xs.length : Int) != 0) = false := by simp; exact List.eq_nil_of_length_eq_zero hlen
        have Hlen := hide hlen
        clear hlen
        by_cases h4 : k = 4
        · subst h4
          by_cases c1 : mn < 0
          · go_enter Tryd.func36, Tryd.ntmps36
            go_wp2
            go_ret
            exact ⟨RetB.no (by rintro (⟨q1, q2, q3, q4⟩ | ⟨q1, q2, q3, q4⟩ | ⟨q1, q2, q3, q4, q5⟩) <;> simp only at * <;> omega), below1 w _⟩
          · by_cases c2 : 250 < mn
            · go_enter Tryd.func36, Tryd.ntmps36
              go_wp2
              go_ret
              exact ⟨RetB.no (by rintro (⟨q1, q2, q3, q4⟩ | ⟨q1, q2, q3, q4⟩ | ⟨q1, q2, q3, q4, q5⟩) <;> simp only at * <;> omega), below1 w _⟩
            · by_cases c3 : mx = -1
              · have c3' : (mx == -1) = true := by simp [c3]
                have C3 := hide c3
                clear c3
                go_enter Tryd.func36, Tryd.ntmps36
                go_wp2
                go_ret
                exact ⟨RetB.yes (Or.inr (Or.inr ⟨rfl, unhide Hlen, by simp only; omega, by simp only; omega, Or.inl (unhide C3)⟩)), below1 w _⟩
              · have c3' : (mx == -1) = false := by simp [c3]
                by_cases c4 : mn ≤ mx
                · by_cases c5 : mx ≤ 250
                  · go_enter Tryd.func36, Tryd.ntmps36
                    go_wp2
                    go_ret
                    exact ⟨RetB.yes (Or.inr (Or.inr ⟨rfl, unhide Hlen, by simp only; omega, by simp only; omega, Or.inr ⟨c4, c5⟩⟩)), below1 w _⟩
                  · go_enter Tryd.func36, Tryd.ntmps36
                    go_wp2
                    go_ret
                    exact ⟨RetB.no (by rintro (⟨q1, q2, q3, q4⟩ | ⟨q1, q2, q3, q4⟩ | ⟨q1, q2, q3, q4, q5⟩) <;> simp only at * <;> omega), below1 w _⟩
                · go_enter Tryd.func36, Tryd.ntmps36
                  go_wp2
                  go_ret
                  exact ⟨RetB.no (by rintro (⟨q1, q2, q3, q4⟩ | ⟨q1, q2, q3, q4⟩ | ⟨q1, q2, q3, q4, q5⟩) <;> simp only at * <;> omega), below1 w _⟩
        · have hk3 : k = 0 ∨ k = 2 ∨ k = 3 := by omega
          clear hk h4 h1
          by_cases h2 : mn = 0
          · by_cases h3 : mx = 0
            · rcases hk3 with rfl | rfl | rfl
              all_goals
                go_enter Tryd.func36, Tryd.ntmps36
                go_wp2
                go_ret
                exact ⟨RetB.yes (Or.inr (Or.inl ⟨by simp, unhide Hlen, h2, h3⟩)), below1 w _⟩
            · have h3' : (mx == 0) = false := by simp [h3]
              rcases hk3 with rfl | rfl | rfl
              all_goals
                go_enter Tryd.func36, Tryd.ntmps36
                go_wp2
                go_ret
                exact ⟨RetB.no (by rintro (⟨q1, q2, q3, q4⟩ | ⟨q1, q2, q3, q4⟩ | ⟨q1, q2, q3, q4, q5⟩) <;> simp only at * <;> omega), below1 w _⟩
          · rcases hk3 with rfl | rfl | rfl
            all_goals
              go_enter Tryd.func36, Tryd.ntmps36
              go_wp2
              go_ret
              exact ⟨RetB.no (by rintro (⟨q1, q2, q3, q4⟩ | ⟨q1, q2, q3, q4⟩ | ⟨q1, q2, q3, q4, q5⟩) <;> simp only at * <;> omega), below1 w _⟩
      · have hlen' : ((xs.length : Int) != 0) = true := by simp; intro e; exact hlen (by rw [e]; rfl)
        have hk0 : ¬ k < 0 := by omega
        have hk4 : ¬ 4 < k := by omega
        go_enter Tryd.func36, Tryd.ntmps36
        go_wp2
        go_ret
        exact ⟨RetB.no (by rintro (⟨q1, q2, q3, q4⟩ | ⟨q1, q2, q3, q4⟩ | ⟨q1, q2, q3, q4, q5⟩) <;> simp only at * <;> omega), below1 w _⟩

end Go.Proofs.YtfdkdjngeomcdaaDoor

namespace Go.Proofs.YtfdkdjngeomcdaaDoor
open Go.RowKit

def lst (xs : List Int) (m : Nat) : Int := if m = 0 then 0 else xs[2 * m - 1]?.getD 0 + 2
def Pair2 (xs : List Int) (m : Nat) : Prop := lst xs m ≤ xs[2 * m]?.getD 0 ∧ xs[2 * m]?.getD 0 ≤ xs[2 * m + 1]?.getD 0 ∧ xs[2 * m + 1]?.getD 0 ≤ 255

theorem lst_succ (xs : List Int) (m : Nat) : lst xs (m + 1) = xs[2 * m + 1]?.getD 0 + 2 := by
  unfold lst; rw [if_neg (by omega)]; rfl

theorem lst_nn {xs : List Int} : ∀ m : Nat, (∀ j : Nat, j < m → Pair2 xs j) → 0 ≤ lst xs m ∧ lst xs m ≤ 257 := by
  intro m
  induction m with
  | zero => intro _; simp [lst]
  | succ m ih =>
    intro h
    have h1 := ih (fun j hj => h j (by omega))
    have h2 := h m (by omega)
    unfold Pair2 at h2
    rw [lst_succ]; omega

theorem canon_iff {xs : List Int} : Canon xs ↔ xs.length % 2 = 0 ∧ ∀ m : Nat, 2 * m < xs.length → Pair2 xs m := by
  constructor
  · rintro ⟨h1, h2, h3⟩
    refine ⟨h1, fun m hm => ?_⟩
    have a := h2 (2 * m) hm
    have b := h2 (2 * m + 1) (by omega)
    obtain ⟨c, d⟩ := h3 m hm
    refine ⟨?_, c, b.2⟩
    unfold lst
    split
    · exact a.1
    · have := d (by omega); omega
  · rintro ⟨h1, h2⟩
    have key : ∀ m : Nat, 2 * m < xs.length → 0 ≤ lst xs m := fun m hm => (lst_nn m (fun j hj => h2 j (by omega))).1
    refine ⟨h1, fun i hi => ?_, fun m hm => ?_⟩
    · have hm : 2 * (i / 2) < xs.length := by omega
      have a := key _ hm
      have b := h2 _ hm
      unfold Pair2 at b
      rcases Nat.mod_two_eq_zero_or_one i with e | e
      · rw [show 2 * (i / 2) = i by omega] at b; omega
      · rw [show 2 * (i / 2) + 1 = i by omega] at b; omega
    · have b := h2 _ hm
      unfold Pair2 at b
      refine ⟨b.2.1, fun h0 => ?_⟩
      have b1 := b.1
      unfold lst at b1
      rw [if_neg (by omega)] at b1
      omega

set_option maxHeartbeats 1000000 in
theorem canonical_any (v : Value) (xs : List Int) (w : World) (hv : IntsAt 0 w.heap.size w v xs) :
    Calls Tryd.prog 60 #[v] w fun e w' => RetB e (Canon xs) ∧ Below w.heap.size w w' := by
  rw [canon_iff]
  obtain ⟨a, cap, rfl, hl, hr, hc⟩ := hv
  unfold maxLen at hl
  by_cases hev : xs.length % 2 = 0
  · have hev' : ((xs.length : Int) % 2 != 0) = false := by simp; omega
    go_enter Tryd.func60, Tryd.ntmps60
    go_wp2
    go_loopw [3, 4] (fun l i wr => ∃ m : Nat, 2 * m ≤ xs.length ∧ i = .int .i64 (2 * m : Nat) ∧ l = .int .i64 (lst xs m) ∧ (∀ j : Nat, j < m → Pair2 xs j) ∧ Below w.heap.size w wr) (fun _ i _ => xs.length - (intOf i).toNat)
    case atStart => exact ⟨0, Nat.zero_le _, rfl, rfl, fun j hj => absurd hj (Nat.not_lt_zero _), Below.refl _ _⟩
    case round =>
      obtain ⟨m, hm, rfl, rfl, hpr, hb⟩ := hrel
      have hL := lst_nn m hpr
      have Hpr := hide hpr
      clear hpr
      by_cases hlt2 : 2 * m < xs.length
      · obtain ⟨b, off, rfl, -, hbn, hcell⟩ := hc (by omega)
        have hx : wr.cell? ⟨b, off + 2 * m, none⟩ = some (.int .i64 (xs[2 * m]?.getD 0)) := by rw [hb.cell (p := ⟨b, off + 2 * m, none⟩) hbn]; exact hcell _ hlt2
        have hy : wr.cell? ⟨b, off + (2 * m + 1), none⟩ = some (.int .i64 (xs[2 * m + 1]?.getD 0)) := by rw [hb.cell (p := ⟨b, off + (2 * m + 1), none⟩) hbn]; exact hcell _ (by omega)
        have hlt2' : (2 * (m : Int)) < (xs.length : Int) := by omega
        have hlt3' : (2 * (m : Int)) + 1 < (xs.length : Int) := by omega
        have hls := lst_succ xs m
        have hP : Hid (Pair2 xs m ↔ lst xs m ≤ xs[2 * m]?.getD 0 ∧ xs[2 * m]?.getD 0 ≤ xs[2 * m + 1]?.getD 0 ∧ xs[2 * m + 1]?.getD 0 ≤ 255) := Iff.rfl
        generalize lst xs m = L at *
        generalize xs[2 * m]?.getD 0 = x at *
        generalize xs[2 * m + 1]?.getD 0 = y at *
        have Hls := hide hls
        clear hls hcell
        by_cases g1 : x < L
        · go_wp2
          go_quiet (fail)
          go_wp2
          go_ret
          exact ⟨RetB.no (fun h => by have := (unhide hP).1 (h.2 m hlt2); omega), below_drewN hb _⟩
        · by_cases g2 : y < x
          · go_wp2
            go_quiet (fail)
            go_wp2
            go_ret
            exact ⟨RetB.no (fun h => by have := (unhide hP).1 (h.2 m hlt2); omega), below_drewN hb _⟩
          · by_cases g3 : 256 ≤ y
            · go_wp2
              go_quiet (fail)
              go_wp2
              go_ret
              exact ⟨RetB.no (fun h => by have := (unhide hP).1 (h.2 m hlt2); omega), below_drewN hb _⟩
            · go_wp2
              go_quiet (fail)
              go_wp2
              go_roundw
              case rel => exact ⟨m + 1, by omega, by congr 1, by rw [unhide Hls], fun j hj => by
                by_cases e : j = m
                · subst e; exact (unhide hP).2 ⟨by omega, by omega, by omega⟩
                · exact unhide Hpr j (by omega), below_drewN hb _⟩
              case measure => simp [intOf]; omega
      · go_wp2
        go_ret
        exact ⟨RetB.yes ⟨hev, fun j hj => unhide Hpr j (by omega)⟩, hb⟩
  · have hev' : ((xs.length : Int) % 2 != 0) = true := by simp; omega
    go_enter Tryd.func60, Tryd.ntmps60
    go_wp2
    go_ret
    exact ⟨RetB.no (fun hcn => hev hcn.1), Below.refl _ _⟩

def BdOk (mn mx : Int) : Prop := 0 ≤ mn ∧ mn ≤ 250 ∧ (mx = -1 ∨ (mn ≤ mx ∧ mx ≤ 250))

set_option maxHeartbeats 1000000 in
theorem validBounds_any (mn mx : Int) (w : World) : Calls Tryd.prog 61 #[.int .i64 mn, .int .i64 mx] w fun e w' => RetB e (BdOk mn mx) ∧ w' = w := by
  by_cases c1 : mn < 0
  · go_enter Tryd.func61, Tryd.ntmps61
    go_wp2
    go_ret
    exact ⟨RetB.no (by unfold BdOk; omega), rfl⟩
  · by_cases c2 : 250 < mn
    · go_enter Tryd.func61, Tryd.ntmps61
      go_wp2
      go_ret
      exact ⟨RetB.no (by unfold BdOk; omega), rfl⟩
    · by_cases c3 : mx = -1
      · have c3' : (mx == -1) = true := by simp [c3]
        have C3 := hide c3
        clear c3
        go_enter Tryd.func61, Tryd.ntmps61
        go_wp2
        go_ret
        exact ⟨RetB.yes ⟨by omega, by omega, Or.inl (unhide C3)⟩, rfl⟩
      · have c3' : (mx == -1) = false := by simp [c3]
        by_cases c4 : mn ≤ mx
        · by_cases c5 : mx ≤ 250
          · go_enter Tryd.func61, Tryd.ntmps61
            go_wp2
            go_ret
            exact ⟨RetB.yes ⟨by omega, by omega, Or.inr ⟨c4, c5⟩⟩, rfl⟩
          · go_enter Tryd.func61, Tryd.ntmps61
            go_wp2
            go_ret
            exact ⟨RetB.no (by unfold BdOk; omega), rfl⟩
        · go_enter Tryd.func61, Tryd.ntmps61
          go_wp2
          go_ret
          exact ⟨RetB.no (by unfold BdOk; omega), rfl⟩

def cnt (k : Int) : Int := if k = 4 then 1 else if k = 2 ∨ k = 3 then 2 else 0

set_option maxHeartbeats 1000000 in
theorem operandCount_any (k : Int) (w : World) : Calls Tryd.prog 44 #[.int .i64 k] w fun e w' => e = .returned (.int .i64 (cnt k)) ∧ w' = w := by
  by_cases h4 : k = 4
  · subst h4
    go_enter Tryd.func44, Tryd.ntmps44
    go_wp2
    go_ret
    exact ⟨rfl, rfl⟩
  · by_cases h2 : k = 2
    · subst h2
      go_enter Tryd.func44, Tryd.ntmps44
      go_wp2
      go_ret
      exact ⟨rfl, rfl⟩
    · by_cases h3 : k = 3
      · subst h3
        go_enter Tryd.func44, Tryd.ntmps44
        go_wp2
        go_ret
        exact ⟨rfl, rfl⟩
      · have e : cnt k = 0 := by unfold cnt; rw [if_neg h4, if_neg (by omega)]
        have b4 : (k == 4) = false := by simp [h4]
        have b2 : (k == 2) = false := by simp [h2]
        have b3 : (k == 3) = false := by simp [h3]
        have E := hide e
        clear e
        go_enter Tryd.func44, Tryd.ntmps44
        go_wp2
        go_ret
        exact ⟨ret_int (unhide E).symm, rfl⟩

end Go.Proofs.YtfdkdjngeomcdaaDoor

namespace Go.Proofs.YtfdkdjngeomcdaaDoor
open Go.RowKit

/-- Four words. -/
def words (a b c d : Int) : Array Value := #[.int .u64 a, .int .u64 b, .int .u64 c, .int .u64 d]

set_option maxHeartbeats 1000000 in
theorem with_any (a b c d lo hi : Int) (w : World) (h0 : 0 ≤ lo) (h1 : hi ≤ 255) :
    Calls Tryd.prog 67 #[.agg #[.int .u64 a, .int .u64 b, .int .u64 c, .int .u64 d], .int .i64 lo, .int .i64 hi] w fun e w' =>
      (∃ a' b' c' d', e = .returned (.agg #[.int .u64 a', .int .u64 b', .int .u64 c', .int .u64 d'])) ∧ Below w.heap.size w w' := by
  go_enter Tryd.func67, Tryd.ntmps67
  go_wp2
  go_loopw [7] (fun i wr => ∃ x : Int, 0 ≤ x ∧ i = .int .i64 x ∧ (∃ g : Nat → Int, wr.rowIs w.heap.size 64 4 (fun j => .int .u64 (g j))) ∧ (∃ g : Nat → Value, wr.rowIs (w.heap.size + 1) 64 4 g) ∧ Below w.heap.size w wr) (fun i _ => (hi + 1 - intOf i).toNat)
  case atStart =>
    refine ⟨lo, h0, rfl, ⟨fun j => if j = 0 then a else if j = 1 then b else if j = 2 then c else d, ?_⟩, ⟨fun _ => .int .u64 0, ?_⟩, below2 w _ _⟩
    · refine World.rowIs.alloc (World.rowIs.congr (World.rowIs_alloc w #[.int .u64 a, .int .u64 b, .int .u64 c, .int .u64 d] 64 (fun j => .int .u64 (if j = 0 then a else if j = 1 then b else if j = 2 then c else d)) ?_) (fun _ _ => rfl)) _
      intro i hi
      match i, hi with
      | 0, _ => rfl
      | 1, _ => rfl
      | 2, _ => rfl
      | 3, _ => rfl
    · have h := World.rowIs_alloc (w.alloc (.cells #[.int .u64 a, .int .u64 b, .int .u64 c, .int .u64 d] 64)) #[.int .u64 0, .int .u64 0, .int .u64 0, .int .u64 0] 64 (fun _ => .int .u64 0) ?_
      · rw [sz_alloc] at h; exact h
      · intro i hi
        match i, hi with
        | 0, _ => rfl
        | 1, _ => rfl
        | 2, _ => rfl
        | 3, _ => rfl
  case round =>
    obtain ⟨x, hx0, rfl, ⟨g, hrow⟩, ⟨g2, hrow2⟩, hb⟩ := hrel
    obtain ⟨k, rfl⟩ := Int.eq_ofNat_of_zero_le hx0
    by_cases hlt : (k : Int) ≤ hi
    · have hk : k ≤ 255 := by omega
      have hq : k / 64 < 4 := by omega
      have c0 := hrow.cell hq
      have f0 := hrow.frozen (k / 64)
      have hq' : ((k / 64 : Nat) : Int) < 4 := by omega
      have hq2 : (k : Int) / 64 < 4 := by omega
      have hq3 : 0 ≤ (k : Int) / 64 := by omega
      have hrow' := hide hrow
      have hrow2' := hide hrow2
      clear hrow hrow2
      go_wp2
      go_region
      go_wp2
      generalize (bits BinOp.or IntKind.u64 (g (k / 64)) (IntKind.u64.wrap (2 ^ (k % 64)))) = z
      refine ⟨⟨(k : Int) + 1, by omega, rfl, ⟨fun j => if j = k / 64 then z else g j, ?_⟩, ⟨g2, ?_⟩, ?_⟩, by simp [intOf]; omega⟩
      · exact (((unhide hrow').set (k / 64) _).congr (fun j _ => by by_cases e : j = k / 64 <;> simp [e])).drew
      · exact ((unhide hrow2').setOther (by show w.heap.size + 1 ≠ w.heap.size; omega) _).drew
      · exact (bput hb (Nat.le_refl _) _).drew
    · have c0 := hrow.cell (i := 0) (by omega)
      have c1 := hrow.cell (i := 1) (by omega)
      have c2 := hrow.cell (i := 2) (by omega)
      have c3 := hrow.cell (i := 3) (by omega)
      have d0 := hrow2.cell (i := 0) (by omega)
      have d1 := hrow2.cell (i := 1) (by omega)
      have d2 := hrow2.cell (i := 2) (by omega)
      have d3 := hrow2.cell (i := 3) (by omega)
      have f0 := hrow2.frozen 0
      have f1 := hrow2.frozen 1
      have f2 := hrow2.frozen 2
      have f3 := hrow2.frozen 3
      clear hrow hrow2
      go_wp2
      refine bodyPost_ret (v := .agg #[.int .u64 (g 0), .int .u64 (g 1), .int .u64 (g 2), .int .u64 (g 3)]) (by simp [results, Tryd.results67, go_sem, d0, d1, d2, d3]) rfl ⟨⟨_, _, _, _, rfl⟩, ?_⟩
      exact bput (bput (bput (bput hb (by omega) _) (by omega) _) (by omega) _) (by omega) _

theorem words_step {w1 : World} {N : Nat} {g : Nat → Int} (h : w1.rowIs N 64 4 (fun j => .int .u64 (g j))) (a b c d : Int) :
    ∃ g' : Nat → Int, ((((w1.setCell ⟨N, 0, none⟩ (.int .u64 a)).setCell ⟨N, 1, none⟩ (.int .u64 b)).setCell ⟨N, 2, none⟩ (.int .u64 c)).setCell ⟨N, 3, none⟩ (.int .u64 d)).rowIs N 64 4 (fun j => .int .u64 (g' j)) := by
  refine ⟨fun j => if j = 3 then d else if j = 2 then c else if j = 1 then b else if j = 0 then a else g j, ((((h.set 0 _).set 1 _).set 2 _).set 3 _).congr ?_⟩
  intro j hj
  by_cases e3 : j = 3
  · simp [e3]
  · by_cases e2 : j = 2
    · simp [e2]
    · by_cases e1 : j = 1
      · simp [e1]
      · by_cases e0 : j = 0
        · simp [e0]
        · simp [e0, e1, e2, e3]

set_option maxHeartbeats 2000000 in
theorem setOf_any (v : Value) (xs : List Int) (w : World) (hv : IntsAt 0 w.heap.size w v xs) (hcn : Canon xs) :
    Calls Tryd.prog 62 #[v] w fun e w' =>
      (∃ a' b' c' d', e = .returned (.agg #[.int .u64 a', .int .u64 b', .int .u64 c', .int .u64 d'])) ∧ Below w.heap.size w w' := by
  obtain ⟨a, cap, rfl, hl, hr, hc⟩ := hv
  unfold maxLen at hl
  have Hcn := hide hcn
  clear hcn
  go_enter Tryd.func62, Tryd.ntmps62
  go_wp2
  go_loopw [4] (fun i wr => ∃ p : Nat, p ≤ xs.length ∧ p % 2 = 0 ∧ i = .int .i64 p ∧ (∃ g : Nat → Value, wr.rowIs w.heap.size 64 4 g) ∧ (∃ g : Nat → Int, wr.rowIs (w.heap.size + 1) 64 4 (fun j => .int .u64 (g j))) ∧ Below w.heap.size w wr) (fun i _ => xs.length - (intOf i).toNat)
  case atStart =>
    refine ⟨0, Nat.zero_le _, rfl, rfl, ⟨fun _ => .int .u64 0, ?_⟩, ⟨fun _ => 0, ?_⟩, below2 w _ _⟩
    · refine World.rowIs.alloc (World.rowIs.congr (World.rowIs_alloc w #[.int .u64 0, .int .u64 0, .int .u64 0, .int .u64 0] 64 (fun _ => .int .u64 0) ?_) (fun _ _ => rfl)) _
      intro i hi
      match i, hi with
      | 0, _ => rfl
      | 1, _ => rfl
      | 2, _ => rfl
      | 3, _ => rfl
    · have h := World.rowIs_alloc (w.alloc (.cells #[.int .u64 0, .int .u64 0, .int .u64 0, .int .u64 0] 64)) #[.int .u64 0, .int .u64 0, .int .u64 0, .int .u64 0] 64 (fun _ => .int .u64 0) ?_
      · rw [sz_alloc] at h; exact h
      · intro i hi
        match i, hi with
        | 0, _ => rfl
        | 1, _ => rfl
        | 2, _ => rfl
        | 3, _ => rfl
  case round =>
    obtain ⟨p, hm, hp2, rfl, ⟨g2, hrow2⟩, ⟨g, hrow⟩, hb⟩ := hrel
    have hev := (unhide Hcn).1
    by_cases hlt2 : p < xs.length
    · obtain ⟨b, off, rfl, -, hbn, hcell⟩ := hc (by omega)
      have hx : wr.cell? ⟨b, off + p, none⟩ = some (.int .i64 (xs[p]?.getD 0)) := by rw [hb.cell (p := ⟨b, off + p, none⟩) hbn]; exact hcell _ hlt2
      have hy : wr.cell? ⟨b, off + (p + 1), none⟩ = some (.int .i64 (xs[p + 1]?.getD 0)) := by rw [hb.cell (p := ⟨b, off + (p + 1), none⟩) hbn]; exact hcell _ (by omega)
      have hlt2' : (p : Int) < (xs.length : Int) := by omega
      have hlt3' : (p : Int) + 1 < (xs.length : Int) := by omega
      have bx := ((unhide Hcn).2.1 (p) hlt2).1
      have byy := ((unhide Hcn).2.1 (p + 1) (by omega)).2
      generalize xs[p]?.getD 0 = x at *
      generalize xs[p + 1]?.getD 0 = y at *
      have c0 := hrow.cell (i := 0) (by omega)
      have c1 := hrow.cell (i := 1) (by omega)
      have c2 := hrow.cell (i := 2) (by omega)
      have c3 := hrow.cell (i := 3) (by omega)
      have hN := hrow.lt
      have f0 := hrow.frozen 0
      have f1 := hrow.frozen 1
      have f2 := hrow.frozen 2
      have f3 := hrow.frozen 3
      have hrow' := hide hrow
      have hrow2' := hide hrow2
      clear hrow hrow2 hcell
      go_wp2
      have hw2 : IntKind.i64.wrap ((p : Int) + 1) = (p : Int) + 1 := by rw [IntKind.wrap_i64]; omega
      have hw1 : wrap64 ((p : Int) + 1) = (p : Int) + 1 := by unfold wrap64; omega
      go_region_with (go_at_call 67; refine (with_any _ _ _ _ x y _ bx byy).mono ?_; rintro e w1 ⟨⟨a', b', c', d', rfl⟩, hb1⟩; have hb2 : Below wr.heap.size wr w1 := ⟨hb1.os, hb1.tape, hb1.output, hb1.size, hb1.block⟩; clear hb1; have hc1 := (bcell hb2).1; have hf1 := (bcell hb2).2)
      all_goals
        clear hc1 hf1 c0 c1 c2 c3 f0 f1 f2 f3 hx hy
        go_wp2
        have hr1 := (unhide hrow').of_block (hb2.block _ hN)
        have hr2 := (unhide hrow2').of_block (hb2.block _ (unhide hrow2').lt)
        refine ⟨⟨p + 2, by omega, by omega, by go_num, ⟨g2, ?_⟩, words_step hr1 _ _ _ _, ?_⟩, by simp [intOf]; omega⟩
        · exact (((hr2.setOther (by show w.heap.size ≠ w.heap.size + 1; omega) _).setOther (by show w.heap.size ≠ w.heap.size + 1; omega) _).setOther (by show w.heap.size ≠ w.heap.size + 1; omega) _).setOther (by show w.heap.size ≠ w.heap.size + 1; omega) _
        · exact bput (bput (bput (bput (hb.trans (hb2.mono hb.size)) (by omega) _) (by omega) _) (by omega) _) (by omega) _
    · have c0 := hrow.cell (i := 0) (by omega)
      have c1 := hrow.cell (i := 1) (by omega)
      have c2 := hrow.cell (i := 2) (by omega)
      have c3 := hrow.cell (i := 3) (by omega)
      have d0 := hrow2.cell (i := 0) (by omega)
      have d1 := hrow2.cell (i := 1) (by omega)
      have d2 := hrow2.cell (i := 2) (by omega)
      have d3 := hrow2.cell (i := 3) (by omega)
      have f0 := hrow2.frozen 0
      have f1 := hrow2.frozen 1
      have f2 := hrow2.frozen 2
      have f3 := hrow2.frozen 3
      clear hrow hrow2
      go_wp2
      refine bodyPost_ret (v := .agg #[.int .u64 (g 0), .int .u64 (g 1), .int .u64 (g 2), .int .u64 (g 3)]) (by simp [results, Tryd.results62, go_sem, d0, d1, d2, d3]) rfl ⟨⟨_, _, _, _, rfl⟩, ?_⟩
      exact bput (bput (bput (bput hb (by omega) _) (by omega) _) (by omega) _) (by omega) _

end Go.Proofs.YtfdkdjngeomcdaaDoor

namespace Go.Proofs.YtfdkdjngeomcdaaDoor
open Go.RowKit

/-- Four words, as numbers. -/
def ws4 (g : Nat → Nat) : Value := .agg #[.int .u64 (g 0 : Nat), .int .u64 (g 1 : Nat), .int .u64 (g 2 : Nat), .int .u64 (g 3 : Nat)]
/-- Is the byte b in the set? -/
def Bt (g : Nat → Nat) (b : Nat) : Bool := (g (b / 64)).testBit (b % 64)
def Fit (g : Nat → Nat) : Prop := ∀ j : Nat, g j < 18446744073709551616

theorem or_bit (a i : Nat) (ha : a < 18446744073709551616) (hi : i < 64) : bits .or .u64 (a : Int) (IntKind.u64.wrap (2 ^ i)) = ((a ||| 2 ^ i : Nat) : Int) := by
  have h1 : (2 : Nat) ^ i < 2 ^ 64 := Nat.pow_lt_pow_right (by omega) hi
  have h2 : IntKind.u64.wrap ((2 : Int) ^ i) = ((2 ^ i : Nat) : Int) := by
    rw [IntKind.wrap_u64, Int.natCast_pow]
    have : ((2 ^ i : Nat) : Int) < 18446744073709551616 := by omega
    rw [Int.natCast_pow] at this
    have h0 : (0 : Int) ≤ (2 : Int) ^ i := Int.pow_nonneg (by omega)
    exact Int.emod_eq_of_lt h0 this
  rw [h2]
  exact bits_or_u64_nat a (2 ^ i) ha (by omega)
theorem or_lt (a i : Nat) (ha : a < 18446744073709551616) (hi : i < 64) : a ||| 2 ^ i < 18446744073709551616 := by
  have h1 : (2 : Nat) ^ i < 2 ^ 64 := Nat.pow_lt_pow_right (by omega) hi
  have : a ||| 2 ^ i < 2 ^ 64 := Nat.or_lt_two_pow (by omega) h1
  omega

theorem bt_put (g : Nat → Nat) (k b : Nat) : Bt (fun j => if j = k / 64 then g (k / 64) ||| 2 ^ (k % 64) else g j) b = (Bt g b || decide (b = k)) := by
  unfold Bt
  by_cases e : b / 64 = k / 64
  · simp only [e, if_true, Nat.testBit_or, Nat.testBit_two_pow]
    congr 1
    by_cases e2 : k % 64 = b % 64
    · have : b = k := by omega
      simp [e2, this]
    · have : b ≠ k := fun h => e2 (by rw [h])
      simp [e2, this]
  · have : b ≠ k := fun h => e (by rw [h])
    simp [e, this]

theorem four_row (w : World) (t : TypeId) (g : Nat → Nat) : (w.alloc (.cells #[.int .u64 (g 0 : Nat), .int .u64 (g 1 : Nat), .int .u64 (g 2 : Nat), .int .u64 (g 3 : Nat)] t)).rowIs w.heap.size t 4 (fun j => .int .u64 (g j : Nat)) := by
  refine World.rowIs_alloc w #[.int .u64 (g 0 : Nat), .int .u64 (g 1 : Nat), .int .u64 (g 2 : Nat), .int .u64 (g 3 : Nat)] t (fun j => .int .u64 (g j : Nat)) ?_
  intro i hi
  match i, hi with
  | 0, _ => rfl
  | 1, _ => rfl
  | 2, _ => rfl
  | 3, _ => rfl
theorem zero_row (w : World) (t : TypeId) : (w.alloc (.cells #[.int .u64 0, .int .u64 0, .int .u64 0, .int .u64 0] t)).rowIs w.heap.size t 4 (fun j => .int .u64 ((fun _ => 0 : Nat → Nat) j : Nat)) := four_row w t (fun _ => 0)

set_option maxHeartbeats 1000000 in
theorem with_w (g : Nat → Nat) (lo hi : Int) (w : World) (hg : Fit g) (h0 : 0 ≤ lo) (h1 : hi ≤ 255) (h2 : lo ≤ hi) :
    Calls Tryd.prog 67 #[ws4 g, .int .i64 lo, .int .i64 hi] w fun e w' =>
      ∃ g' : Nat → Nat, e = .returned (ws4 g') ∧ Fit g' ∧ (∀ b : Nat, Bt g' b = (Bt g b || decide (lo ≤ (b : Int) ∧ (b : Int) ≤ hi))) ∧ Below w.heap.size w w' := by
  unfold ws4
  have Hg := hide hg
  clear hg
  go_enter Tryd.func67, Tryd.ntmps67
  go_wp2
  go_loopw [7] (fun i wr => ∃ x : Int, lo ≤ x ∧ x ≤ hi + 1 ∧ i = .int .i64 x ∧ (∃ q : Nat → Nat, wr.rowIs w.heap.size 64 4 (fun j => .int .u64 (q j : Nat)) ∧ Fit q ∧ ∀ b : Nat, Bt q b = (Bt g b || decide (lo ≤ (b : Int) ∧ (b : Int) < x))) ∧ (∃ g : Nat → Value, wr.rowIs (w.heap.size + 1) 64 4 g) ∧ Below w.heap.size w wr) (fun i _ => (hi + 1 - intOf i).toNat)
  case atStart =>
    refine ⟨lo, Int.le_refl _, by omega, rfl, ⟨g, (four_row w _ g).alloc _, unhide Hg, fun b => ?_⟩, ⟨fun j => .int .u64 ((fun _ => 0 : Nat → Nat) j : Nat), ?_⟩, below2 w _ _⟩
    · have : ¬ (lo ≤ (b : Int) ∧ (b : Int) < lo) := by omega
      simp [this]
    · have h := zero_row (w.alloc (.cells #[.int .u64 (g 0 : Nat), .int .u64 (g 1 : Nat), .int .u64 (g 2 : Nat), .int .u64 (g 3 : Nat)] 64)) 64
      rw [sz_alloc] at h; exact h
  case round =>
    obtain ⟨x, hx0, hx1, rfl, ⟨q, hrow, hfit, hbt⟩, ⟨g2, hrow2⟩, hb⟩ := hrel
    obtain ⟨k, rfl⟩ := Int.eq_ofNat_of_zero_le (show 0 ≤ x by omega)
    have Hbt := hide hbt
    have Hfit := hide hfit
    have hfk := hfit (k / 64)
    clear hbt hfit
    by_cases hlt : (k : Int) ≤ hi
    · have hk : k ≤ 255 := by omega
      have hq : k / 64 < 4 := by omega
      have c0 := hrow.cell hq
      have f0 := hrow.frozen (k / 64)
      have hq' : ((k / 64 : Nat) : Int) < 4 := by omega
      have hq2 : (k : Int) / 64 < 4 := by omega
      have hq3 : 0 ≤ (k : Int) / 64 := by omega
      have hrow' := hide hrow
      have hrow2' := hide hrow2
      have hor := or_bit (q (k / 64)) (k % 64) hfk (by omega)
      have hlt64 := or_lt (q (k / 64)) (k % 64) hfk (by omega)
      have Hor := hide hor
      clear hrow hrow2 hor
      go_wp2
      go_region
      go_wp2
      rw [unhide Hor]
      refine ⟨⟨(k : Int) + 1, by omega, by omega, rfl, ⟨fun j => if j = k / 64 then q (k / 64) ||| 2 ^ (k % 64) else q j, ?_, ?_, ?_⟩, ⟨g2, ?_⟩, ?_⟩, by simp [intOf]; omega⟩
      · exact (((unhide hrow').set (k / 64) _).congr (fun j _ => by by_cases e : j = k / 64 <;> simp [e])).drew
      · intro j
        by_cases e : j = k / 64
        · simp only [e, if_true]; exact hlt64
        · simp only [e, if_false]; exact unhide Hfit j
      · intro b
        rw [bt_put, unhide Hbt b, Bool.or_assoc]
        congr 1
        rw [← Bool.decide_or]
        exact decide_eq_decide.2 (by omega)
      · exact ((unhide hrow2').setOther (by show w.heap.size + 1 ≠ w.heap.size; omega) _).drew
      · exact (bput hb (Nat.le_refl _) _).drew
    · have c0 := hrow.cell (i := 0) (by omega)
      have c1 := hrow.cell (i := 1) (by omega)
      have c2 := hrow.cell (i := 2) (by omega)
      have c3 := hrow.cell (i := 3) (by omega)
      have d0 := hrow2.cell (i := 0) (by omega)
      have d1 := hrow2.cell (i := 1) (by omega)
      have d2 := hrow2.cell (i := 2) (by omega)
      have d3 := hrow2.cell (i := 3) (by omega)
      have f0 := hrow2.frozen 0
      have f1 := hrow2.frozen 1
      have f2 := hrow2.frozen 2
      have f3 := hrow2.frozen 3
      clear hrow hrow2
      go_wp2
      refine bodyPost_ret (v := .agg #[.int .u64 (q 0 : Nat), .int .u64 (q 1 : Nat), .int .u64 (q 2 : Nat), .int .u64 (q 3 : Nat)]) (by simp [results, Tryd.results67, go_sem, d0, d1, d2, d3]) rfl ⟨q, rfl, unhide Hfit, fun b => ?_, ?_⟩
      · rw [unhide Hbt b]
        congr 1
        rw [Bool.eq_iff_iff]
        simp only [Bool.and_eq_true, decide_eq_true_eq]
        omega
      · exact bput (bput (bput (bput hb (by omega) _) (by omega) _) (by omega) _) (by omega) _

end Go.Proofs.YtfdkdjngeomcdaaDoor
