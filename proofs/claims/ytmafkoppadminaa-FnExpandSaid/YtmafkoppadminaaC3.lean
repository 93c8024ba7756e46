import Derived.Test.YtmafkoppadminaaB0
namespace Go.Proofs.Ytmafkoppadminaa
open Go.RowKit
def wt (x : El) : Int := if x.kind = 0 ∨ x.kind = 1 then 1 else if x.kind = 2 ∨ x.kind = 3 then -1 else 0
def wsum : List El → Int
  | [] => 0
  | x :: r => wt x + wsum r
theorem wsum_append (a b : List El) : wsum (a ++ b) = wsum a + wsum b := by
  induction a with
  | nil => simp [wsum]
  | cons x r ih => simp [wsum, ih]; omega
theorem wt_le (x : El) : wt x ≤ 1 := by unfold wt; split <;> (try split) <;> omega
theorem wt_ge (x : El) : -1 ≤ wt x := by unfold wt; split <;> (try split) <;> omega
theorem wsum_bd (l : List El) : -(l.length : Int) ≤ wsum l ∧ wsum l ≤ l.length := by
  induction l with
  | nil => simp [wsum]
  | cons x r ih => have := wt_le x; have := wt_ge x; simp [wsum]; omega
theorem drop_getD {xs : List El} {k : Nat} (h : k < xs.length) : xs.drop k = xs[k]?.getD dE :: xs.drop (k + 1) := by
  rw [List.drop_eq_getElem_cons h]; simp [h]
theorem wsum_drop {xs : List El} {k : Nat} (h : k < xs.length) : wsum (xs.drop k) = wt (xs[k]?.getD dE) + wsum (xs.drop (k + 1)) := by
  rw [drop_getD h]; rfl
def Shape (xs : List El) : Prop := wsum xs = 1 ∧ ∀ k : Nat, 0 < k → k ≤ xs.length → wsum (xs.drop k) ≤ 0
set_option maxHeartbeats 1000000 in
theorem l1shape_any (v : Value) (xs : List El) (w : World) (hv : ElsAt 0 w.heap.size w v xs) (hlen : xs.length ≤ 1048576) :
    Calls Try.prog 25 #[v] w fun e w' => RetB e (Shape xs) ∧ w' = w := by
  obtain ⟨a, cap, rfl, hl, hc⟩ := hv
  go_enter Try.func25, Try.ntmps25
  go_wp2
  go_loop [3, 4] (fun n i => ∃ k : Nat, k ≤ xs.length ∧ i = .int .i64 ((k : Int) - 1) ∧ n = .int .i64 (1 - wsum (xs.drop k)) ∧ wsum (xs.drop k) ≤ 1 ∧ ∀ j : Nat, k < j → j ≤ xs.length → wsum (xs.drop j) ≤ 0) (fun _ i => (intOf i + 1).toNat)
  case atStart => exact ⟨xs.length, Nat.le_refl _, rfl, by simp [wsum], by simp [wsum], fun j h1 h2 => absurd h2 (by omega)⟩
  case round =>
    obtain ⟨k, hk, rfl, rfl, hle, hin⟩ := hrel
    have Hin := hide hin
    clear hin
    cases k with
    | zero =>
      go_wp2
      go_ret
      refine ⟨RetB.of ⟨fun h => ⟨?_, fun j h1 h2 => unhide Hin j h1 h2⟩, fun h => ?_⟩, rfl⟩
      · have := beq_iff_eq.1 h; omega
      · have := h.1; exact beq_iff_eq.2 (by omega)
    | succ k =>
      obtain ⟨b, off, rfl, -, hbn, hel⟩ := hc (by omega)
      obtain ⟨i1, i2, i3, v, c0, c1, c2, c3, hints⟩ := hel k (by omega)
      have hws := wsum_drop (xs := xs) (k := k) (by omega)
      have hbd := wsum_bd (xs.drop (k + 1))
      rw [List.length_drop] at hbd
      have hkk : (k : Int) < (xs.length : Int) := by omega
      generalize hS : wsum (xs.drop (k + 1)) = s at *
      generalize xs[k]?.getD dE = x at *
      have Hws := hide hws
      have HS := hide hS
      clear hws hS hints i2 i3 c1 c2 c3
      by_cases hs : 1 - s = 0
      · go_wp2
        go_ret
        exact ⟨RetB.no (fun hsh => by have := hsh.2 (k + 1) (by omega) hk; rw [unhide HS] at this; omega), rfl⟩
      · have hs0 : s ≤ 0 := by omega
        have hnext : Hid (∀ j : Nat, k < j → j ≤ xs.length → wsum (xs.drop j) ≤ 0) := by
          intro j h1 h2
          by_cases e : j = k + 1
          · subst e; rw [unhide HS]; exact hs0
          · exact unhide Hin j (by omega) h2
        have hwt : wt x = if x.kind = 0 ∨ x.kind = 1 then 1 else if x.kind = 2 ∨ x.kind = 3 then -1 else 0 := rfl
        generalize wt x = t at *
        generalize x.kind = q at *
        have Hwt := hide hwt
        clear hwt
        have hs' : (1 - s == 0) = false := by simp; omega
        by_cases q0 : q = 0
        · subst q0
          have ht : t = 1 := unhide Hwt
          go_wp2
          go_round
          case rel => exact ⟨k, by omega, by congr 1, by have := unhide Hws; congr 1; omega, by have := unhide Hws; omega, unhide hnext⟩
          case measure => simp [intOf]
        · by_cases q1 : q = 1
          · subst q1
            have ht : t = 1 := unhide Hwt
            go_wp2
            go_round
            case rel => exact ⟨k, by omega, by congr 1, by have := unhide Hws; congr 1; omega, by have := unhide Hws; omega, unhide hnext⟩
            case measure => simp [intOf]
          · by_cases q2 : q = 2
            · subst q2
              have ht : t = -1 := unhide Hwt
              go_wp2
              go_round
              case rel => exact ⟨k, by omega, by congr 1, by have := unhide Hws; congr 1; omega, by have := unhide Hws; omega, unhide hnext⟩
              case measure => simp [intOf]
            · by_cases q3 : q = 3
              · subst q3
                have ht : t = -1 := unhide Hwt
                go_wp2
                go_round
                case rel => exact ⟨k, by omega, by congr 1, by have := unhide Hws; congr 1; omega, by have := unhide Hws; omega, unhide hnext⟩
                case measure => simp [intOf]
              · have ht : t = 0 := by rw [unhide Hwt, if_neg (by omega), if_neg (by omega)]
                have b0 : (q == 0) = false := by simp [q0]
                have b1 : (q == 1) = false := by simp [q1]
                have b2 : (q == 2) = false := by simp [q2]
                have b3 : (q == 3) = false := by simp [q3]
                go_wp2
                go_round
                case rel => exact ⟨k, by omega, by congr 1, by have := unhide Hws; congr 1; omega, by have := unhide Hws; omega, unhide hnext⟩
                case measure => simp [intOf]
end Go.Proofs.Ytmafkoppadminaa
