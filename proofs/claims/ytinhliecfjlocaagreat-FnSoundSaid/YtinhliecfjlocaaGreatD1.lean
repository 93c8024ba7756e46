import Derived.Test.YtinhliecfjlocaaGreatC2
namespace Go.Proofs.YtinhliecfjlocaaGreat
open Go.RowKit
def lst (xs : List Int) (m : Nat) : Int := if m = 0 then 0 else xs[2 * m - 1]?.getD 0 + 2
def Pair2 (xs : List Int) (m : Nat) : Prop := lst xs m ≤ xs[2 * m]?.getD 0 ∧ xs[2 * m]?.getD 0 ≤ xs[2 * m + 1]?.getD 0 ∧ xs[2 * m + 1]?.getD 0 ≤ 255
theorem lst_succ (xs : List Int) (m : Nat) : lst xs (m + 1) = xs[2 * m + 1]?.getD 0 + 2 := by
  unfold lst; rw [if_neg (by omega)]; rfl
theorem lst_nn {xs : List Int} : ∀ m : Nat, (∀ j : Nat, j < m → Pair2 xs j) → 0 ≤ lst xs m ∧ lst xs m ≤ 257 := by
  intro m
  induction m with
  | zero => intro _; simp [lst]
  | succ m ih =>
    intro h
    have h1 := ih (fun j hj => h j (by omega))
    have h2 := h m (by omega)
    unfold Pair2 at h2
    rw [lst_succ]; omega
theorem canon_iff {xs : List Int} : Canon xs ↔ xs.length % 2 = 0 ∧ ∀ m : Nat, 2 * m < xs.length → Pair2 xs m := by
  constructor
  · rintro ⟨h1, h2, h3⟩
    refine ⟨h1, fun m hm => ?_⟩
    have a := h2 (2 * m) hm
    have b := h2 (2 * m + 1) (by omega)
    obtain ⟨c, d⟩ := h3 m hm
    refine ⟨?_, c, b.2⟩
    unfold lst
    split
    · exact a.1
    · have := d (by omega); omega
  · rintro ⟨h1, h2⟩
    have key : ∀ m : Nat, 2 * m < xs.length → 0 ≤ lst xs m := fun m hm => (lst_nn m (fun j hj => h2 j (by omega))).1
    refine ⟨h1, fun i hi => ?_, fun m hm => ?_⟩
    · have hm : 2 * (i / 2) < xs.length := by omega
      have a := key _ hm
      have b := h2 _ hm
      unfold Pair2 at b
      rcases Nat.mod_two_eq_zero_or_one i with e | e
      · rw [show 2 * (i / 2) = i by omega] at b; omega
      · rw [show 2 * (i / 2) + 1 = i by omega] at b; omega
    · have b := h2 _ hm
      unfold Pair2 at b
      refine ⟨b.2.1, fun h0 => ?_⟩
      have b1 := b.1
      unfold lst at b1
      rw [if_neg (by omega)] at b1
      omega
set_option maxHeartbeats 1000000 in
theorem canonical_any (v : Value) (xs : List Int) (w : World) (hv : IntsAt 0 w.heap.size w v xs) :
    Calls Tryz.prog 99 #[v] w fun e w' => RetB e (Canon xs) ∧ Below w.heap.size w w' := by
  rw [canon_iff]
  obtain ⟨a, cap, rfl, hl, hr, hc⟩ := hv
  unfold maxLen at hl
  by_cases hev : xs.length % 2 = 0
  · have hev' : ((xs.length : Int) % 2 != 0) = false := by simp; omega
    go_enter Tryz.func99, Tryz.ntmps99
    go_wp2
    go_loopw [3, 4] (fun l i wr => ∃ m : Nat, 2 * m ≤ xs.length ∧ i = .int .i64 (2 * m : Nat) ∧ l = .int .i64 (lst xs m) ∧ (∀ j : Nat, j < m → Pair2 xs j) ∧ Below w.heap.size w wr) (fun _ i _ => xs.length - (intOf i).toNat)
    case atStart => exact ⟨0, Nat.zero_le _, rfl, rfl, fun j hj => absurd hj (Nat.not_lt_zero _), Below.refl _ _⟩
    case round =>
      obtain ⟨m, hm, rfl, rfl, hpr, hb⟩ := hrel
      have hL := lst_nn m hpr
      have Hpr := hide hpr
      clear hpr
      by_cases hlt2 : 2 * m < xs.length
      · obtain ⟨b, off, rfl, -, hbn, hcell⟩ := hc (by omega)
        have hx : wr.cell? ⟨b, off + 2 * m, none⟩ = some (.int .i64 (xs[2 * m]?.getD 0)) := by rw [hb.cell (p := ⟨b, off + 2 * m, none⟩) hbn]; exact hcell _ hlt2
        have hy : wr.cell? ⟨b, off + (2 * m + 1), none⟩ = some (.int .i64 (xs[2 * m + 1]?.getD 0)) := by rw [hb.cell (p := ⟨b, off + (2 * m + 1), none⟩) hbn]; exact hcell _ (by omega)
        have hlt2' : (2 * (m : Int)) < (xs.length : Int) := by omega
        have hlt3' : (2 * (m : Int)) + 1 < (xs.length : Int) := by omega
        have hls := lst_succ xs m
        have hP : Hid (Pair2 xs m ↔ lst xs m ≤ xs[2 * m]?.getD 0 ∧ xs[2 * m]?.getD 0 ≤ xs[2 * m + 1]?.getD 0 ∧ xs[2 * m + 1]?.getD 0 ≤ 255) := Iff.rfl
        generalize lst xs m = L at *
        generalize xs[2 * m]?.getD 0 = x at *
        generalize xs[2 * m + 1]?.getD 0 = y at *
        have Hls := hide hls
        clear hls hcell
        by_cases g1 : x < L
        · go_wp2
          go_quiet (fail)
          go_wp2
          go_ret
          exact ⟨RetB.no (fun h => by have := (unhide hP).1 (h.2 m hlt2); omega), below_drewN hb _⟩
        · by_cases g2 : y < x
          · go_wp2
            go_quiet (fail)
            go_wp2
            go_ret
            exact ⟨RetB.no (fun h => by have := (unhide hP).1 (h.2 m hlt2); omega), below_drewN hb _⟩
          · by_cases g3 : 256 ≤ y
            · go_wp2
              go_quiet (fail)
              go_wp2
              go_ret
              exact ⟨RetB.no (fun h => by have := (unhide hP).1 (h.2 m hlt2); omega), below_drewN hb _⟩
            · go_wp2
              go_quiet (fail)
              go_wp2
              go_roundw
              case rel => exact ⟨m + 1, by omega, by congr 1, by rw [unhide Hls], fun j hj => by
                by_cases e : j = m
                · subst e; exact (unhide hP).2 ⟨by omega, by omega, by omega⟩
                · exact unhide Hpr j (by omega), below_drewN hb _⟩
              case measure => simp [intOf]; omega
      · go_wp2
        go_ret
        exact ⟨RetB.yes ⟨hev, fun j hj => unhide Hpr j (by omega)⟩, hb⟩
  · have hev' : ((xs.length : Int) % 2 != 0) = true := by simp; omega
    go_enter Tryz.func99, Tryz.ntmps99
    go_wp2
    go_ret
    exact ⟨RetB.no (fun hcn => hev hcn.1), Below.refl _ _⟩
def BdOk (mn mx : Int) : Prop := 0 ≤ mn ∧ mn ≤ 250 ∧ (mx = -1 ∨ (mn ≤ mx ∧ mx ≤ 250))
set_option maxHeartbeats 1000000 in
theorem validBounds_any (mn mx : Int) (w : World) : Calls Tryz.prog 100 #[.int .i64 mn, .int .i64 mx] w fun e w' => RetB e (BdOk mn mx) ∧ w' = w := by
  by_cases c1 : mn < 0
  · go_enter Tryz.func100, Tryz.ntmps100
    go_wp2
    go_ret
    exact ⟨RetB.no (by unfold BdOk; omega), rfl⟩
  · by_cases c2 : 250 < mn
    · go_enter Tryz.func100, Tryz.ntmps100
      go_wp2
      go_ret
      exact ⟨RetB.no (by unfold BdOk; omega), rfl⟩
    · by_cases c3 : mx = -1
      · have c3' : (mx == -1) = true := by simp [c3]
        have C3 := hide c3
        clear c3
        go_enter Tryz.func100, Tryz.ntmps100
        go_wp2
        go_ret
        exact ⟨RetB.yes ⟨by omega, by omega, Or.inl (unhide C3)⟩, rfl⟩
      · have c3' : (mx == -1) = false := by simp [c3]
        by_cases c4 : mn ≤ mx
        · by_cases c5 : mx ≤ 250
          · go_enter Tryz.func100, Tryz.ntmps100
            go_wp2
            go_ret
            exact ⟨RetB.yes ⟨by omega, by omega, Or.inr ⟨c4, c5⟩⟩, rfl⟩
          · go_enter Tryz.func100, Tryz.ntmps100
            go_wp2
            go_ret
            exact ⟨RetB.no (by unfold BdOk; omega), rfl⟩
        · go_enter Tryz.func100, Tryz.ntmps100
          go_wp2
          go_ret
          exact ⟨RetB.no (by unfold BdOk; omega), rfl⟩
def cnt (k : Int) : Int := if k = 4 then 1 else if k = 2 ∨ k = 3 then 2 else 0
set_option maxHeartbeats 1000000 in
theorem operandCount_any (k : Int) (w : World) : Calls Tryz.prog 76 #[.int .i64 k] w fun e w' => e = .returned (.int .i64 (cnt k)) ∧ w' = w := by
  by_cases h4 : k = 4
  · subst h4
    go_enter Tryz.func76, Tryz.ntmps76
    go_wp2
    go_ret
    exact ⟨rfl, rfl⟩
  · by_cases h2 : k = 2
    · subst h2
      go_enter Tryz.func76, Tryz.ntmps76
      go_wp2
      go_ret
      exact ⟨rfl, rfl⟩
    · by_cases h3 : k = 3
      · subst h3
        go_enter Tryz.func76, Tryz.ntmps76
        go_wp2
        go_ret
        exact ⟨rfl, rfl⟩
      · have e : cnt k = 0 := by unfold cnt; rw [if_neg h4, if_neg (by omega)]
        have b4 : (k == 4) = false := by simp [h4]
        have b2 : (k == 2) = false := by simp [h2]
        have b3 : (k == 3) = false := by simp [h3]
        have E := hide e
        clear e
        go_enter Tryz.func76, Tryz.ntmps76
        go_wp2
        go_ret
        exact ⟨ret_int (unhide E).symm, rfl⟩
end Go.Proofs.YtinhliecfjlocaaGreat
