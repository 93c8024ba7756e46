import Derived.Test.YtcmofgehhdfifaaGreatDoorPk1
import Derived.Deep.OwnRows
namespace Go.Proofs.YtcmofgehhdfifaaGreatDoor
open Go.RowKit
theorem ElAt.below {lo n m b o : Nat} {w w' : World} {x : El} (h : ElAt lo n w b o x) (hb : Below m w w') (hm : n ≤ m) (hbm : b < m) : ElAt lo n w' b o x := by
  obtain ⟨i1, i2, i3, v, c0, c1, c2, c3, hi⟩ := h
  refine ⟨i1, i2, i3, v, ?_, ?_, ?_, ?_, hi.same (Same.of_below hb hm)⟩ <;> rw [hb.cell (by exact hbm)] <;> assumption
theorem ElAt.put {lo n b o b' o' : Nat} {w : World} {x : El} {u : Value} (h : ElAt lo n w b o x) (hne : b' ≠ b ∨ o' < o ∨ o + 3 < o') (hlo : b' < lo) : ElAt lo n (w.setCell ⟨b', o', none⟩ u) b o x := by
  obtain ⟨i1, i2, i3, v, c0, c1, c2, c3, hi⟩ := h
  have key : ∀ q, q ≤ 3 → (w.setCell ⟨b', o', none⟩ u).cell? ⟨b, o + q, none⟩ = w.cell? ⟨b, o + q, none⟩ := by
    intro q hq
    apply World.cell?_setCell_other
    intro e
    simp only [Addr.mk.injEq] at e
    omega
  refine ⟨i1, i2, i3, v, ?_, ?_, ?_, ?_, hi.same ((Same.refl lo n w).setCell (Or.inl hlo) u)⟩
  · exact (key 0 (by omega)).trans c0
  · exact (key 1 (by omega)).trans c1
  · exact (key 2 (by omega)).trans c2
  · exact (key 3 (by omega)).trans c3
def wt (x : El) : Int := if x.kind = 0 ∨ x.kind = 1 then 1 else if x.kind = 2 ∨ x.kind = 3 then -1 else 0
def wsum : List El → Int
  | [] => 0
  | x :: r => wt x + wsum r
theorem wsum_append (a b : List El) : wsum (a ++ b) = wsum a + wsum b := by
  induction a with
  | nil => simp [wsum]
  | cons x r ih => simp [wsum, ih]; omega
theorem wt_le (x : El) : wt x ≤ 1 := by unfold wt; split <;> (try split) <;> omega
theorem wt_ge (x : El) : -1 ≤ wt x := by unfold wt; split <;> (try split) <;> omega
theorem wsum_bd (l : List El) : -(l.length : Int) ≤ wsum l ∧ wsum l ≤ l.length := by
  induction l with
  | nil => simp [wsum]
  | cons x r ih => have := wt_le x; have := wt_ge x; simp [wsum]; omega
theorem drop_getD {xs : List El} {k : Nat} (h : k < xs.length) : xs.drop k = xs[k]?.getD dE :: xs.drop (k + 1) := by
  rw [List.drop_eq_getElem_cons h]; simp [h]
theorem wsum_drop {xs : List El} {k : Nat} (h : k < xs.length) : wsum (xs.drop k) = wt (xs[k]?.getD dE) + wsum (xs.drop (k + 1)) := by
  rw [drop_getD h]; rfl
def Shape (xs : List El) : Prop := wsum xs = 1 ∧ ∀ k : Nat, 0 < k → k ≤ xs.length → wsum (xs.drop k) ≤ 0
set_option maxHeartbeats 1000000 in
theorem l1shape_any (v : Value) (xs : List El) (w : World) (hv : ElsAt 0 w.heap.size w v xs) (hlen : xs.length ≤ 1048576) :
    Calls Tryz.prog 36 #[v] w fun e w' => RetB e (Shape xs) ∧ w' = w := by
  obtain ⟨a, cap, rfl, hl, hc⟩ := hv
  go_enter Tryz.func36, Tryz.ntmps36
  go_wp2
  go_loop [3, 4] (fun n i => ∃ k : Nat, k ≤ xs.length ∧ i = .int .i64 ((k : Int) - 1) ∧ n = .int .i64 (1 - wsum (xs.drop k)) ∧ wsum (xs.drop k) ≤ 1 ∧ ∀ j : Nat, k < j → j ≤ xs.length → wsum (xs.drop j) ≤ 0) (fun _ i => (intOf i + 1).toNat)
  case atStart => exact ⟨xs.length, Nat.le_refl _, rfl, by simp [wsum], by simp [wsum], fun j h1 h2 => absurd h2 (by omega)⟩
  case round =>
    obtain ⟨k, hk, rfl, rfl, hle, hin⟩ := hrel
    have Hin := hide hin
    clear hin
    cases k with
    | zero =>
      go_wp2
      go_ret
      refine ⟨RetB.of ⟨fun h => ⟨?_, fun j h1 h2 => unhide Hin j h1 h2⟩, fun h => ?_⟩, rfl⟩
      · have := beq_iff_eq.1 h; omega
      · have := h.1; exact beq_iff_eq.2 (by omega)
    | succ k =>
      obtain ⟨b, off, rfl, -, hbn, hel⟩ := hc (by omega)
      obtain ⟨i1, i2, i3, v, c0, c1, c2, c3, hints⟩ := hel k (by omega)
      have hws := wsum_drop (xs := xs) (k := k) (by omega)
      have hbd := wsum_bd (xs.drop (k + 1))
      rw [List.length_drop] at hbd
      have hkk : (k : Int) < (xs.length : Int) := by omega
      generalize hS : wsum (xs.drop (k + 1)) = s at *
      generalize xs[k]?.getD dE = x at *
      have Hws := hide hws
      have HS := hide hS
      clear hws hS hints i2 i3 c1 c2 c3
      by_cases hs : 1 - s = 0
      · go_wp2
        go_ret
        exact ⟨RetB.no (fun hsh => by have := hsh.2 (k + 1) (by omega) hk; rw [unhide HS] at this; omega), rfl⟩
      · have hs0 : s ≤ 0 := by omega
        have hnext : Hid (∀ j : Nat, k < j → j ≤ xs.length → wsum (xs.drop j) ≤ 0) := by
          intro j h1 h2
          by_cases e : j = k + 1
          · subst e; rw [unhide HS]; exact hs0
          · exact unhide Hin j (by omega) h2
        have hwt : wt x = if x.kind = 0 ∨ x.kind = 1 then 1 else if x.kind = 2 ∨ x.kind = 3 then -1 else 0 := rfl
        generalize wt x = t at *
        generalize x.kind = q at *
        have Hwt := hide hwt
        clear hwt
        have hs' : (1 - s == 0) = false := by simp; omega
        by_cases q0 : q = 0
        · subst q0
          have ht : t = 1 := unhide Hwt
          go_wp2
          go_round
          case rel => exact ⟨k, by omega, by congr 1, by have := unhide Hws; congr 1; omega, by have := unhide Hws; omega, unhide hnext⟩
          case measure => simp [intOf]
        · by_cases q1 : q = 1
          · subst q1
            have ht : t = 1 := unhide Hwt
            go_wp2
            go_round
            case rel => exact ⟨k, by omega, by congr 1, by have := unhide Hws; congr 1; omega, by have := unhide Hws; omega, unhide hnext⟩
            case measure => simp [intOf]
          · by_cases q2 : q = 2
            · subst q2
              have ht : t = -1 := unhide Hwt
              go_wp2
              go_round
              case rel => exact ⟨k, by omega, by congr 1, by have := unhide Hws; congr 1; omega, by have := unhide Hws; omega, unhide hnext⟩
              case measure => simp [intOf]
            · by_cases q3 : q = 3
              · subst q3
                have ht : t = -1 := unhide Hwt
                go_wp2
                go_round
                case rel => exact ⟨k, by omega, by congr 1, by have := unhide Hws; congr 1; omega, by have := unhide Hws; omega, unhide hnext⟩
                case measure => simp [intOf]
              · have ht : t = 0 := by rw [unhide Hwt, if_neg (by omega), if_neg (by omega)]
                have b0 : (q == 0) = false := by simp [q0]
                have b1 : (q == 1) = false := by simp [q1]
                have b2 : (q == 2) = false := by simp [q2]
                have b3 : (q == 3) = false := by simp [q3]
                go_wp2
                go_round
                case rel => exact ⟨k, by omega, by congr 1, by have := unhide Hws; congr 1; omega, by have := unhide Hws; omega, unhide hnext⟩
                case measure => simp [intOf]
set_option maxHeartbeats 1000000 in
theorem l1start_any (v : Value) (xs : List El) (lo en : Nat) (w : World) (hv : ElsAt 0 w.heap.size w v xs) (hlen : xs.length ≤ 1048576) (hle : lo < en) (hen : en ≤ xs.length)
    (h1 : wsum ((xs.take en).drop lo) = 1) (h2 : ∀ k : Nat, lo < k → k ≤ en → wsum ((xs.take en).drop k) ≤ 0) :
    Calls Tryz.prog 46 #[v, .int .i64 (en : Int)] w fun e w' => e = .returned (.int .i64 (lo : Int)) ∧ w' = w := by
  obtain ⟨a, cap, rfl, hl, hc⟩ := hv
  have H2 := hide h2
  have H1 := hide h1
  clear h1 h2
  have hE : (xs.take en).length = en := by rw [List.length_take]; omega
  go_enter Tryz.func46, Tryz.ntmps46
  go_wp2
  go_loop [5, 6] (fun n i => ∃ k : Nat, lo ≤ k ∧ k ≤ en ∧ i = .int .i64 (k : Int) ∧ n = .int .i64 (1 - wsum ((xs.take en).drop k))) (fun _ i => (intOf i).toNat)
  case atStart => exact ⟨en, by omega, Nat.le_refl _, rfl, by rw [List.drop_eq_nil_of_le (by omega)]; rfl⟩
  case round =>
    obtain ⟨k, hk, hk2, rfl, rfl⟩ := hrel
    by_cases hgt : lo < k
    · cases k with
      | zero => omega
      | succ k =>
        obtain ⟨b, off, rfl, -, hbn, hel⟩ := hc (by omega)
        obtain ⟨i1, i2, i3, v, c0, c1, c2, c3, hints⟩ := hel k (by omega)
        have hws := wsum_drop (xs := xs.take en) (k := k) (by omega)
        have hbd := wsum_bd ((xs.take en).drop (k + 1))
        rw [List.length_drop, hE] at hbd
        rw [List.getElem?_take_of_lt (by omega)] at hws
        have hs0 := unhide H2 (k + 1) hgt hk2
        have hkk : (k : Int) < (xs.length : Int) := by omega
        clear hE
        generalize hS : wsum ((xs.take en).drop (k + 1)) = s at *
        generalize xs[k]?.getD dE = x at *
        have Hws := hide hws
        have HS := hide hS
        clear hws hS hints i2 i3 c1 c2 c3
        have hwt : wt x = if x.kind = 0 ∨ x.kind = 1 then 1 else if x.kind = 2 ∨ x.kind = 3 then -1 else 0 := rfl
        generalize wt x = t at *
        generalize x.kind = q at *
        have Hwt := hide hwt
        clear hwt
        by_cases q0 : q = 0
        · subst q0
          have ht : t = 1 := unhide Hwt
          go_wp2
          go_round
          case rel => exact ⟨k, by omega, by omega, by congr 1, by have := unhide Hws; congr 1; omega⟩
          case measure => simp [intOf]
        · by_cases q1 : q = 1
          · subst q1
            have ht : t = 1 := unhide Hwt
            go_wp2
            go_round
            case rel => exact ⟨k, by omega, by omega, by congr 1, by have := unhide Hws; congr 1; omega⟩
            case measure => simp [intOf]
          · by_cases q2 : q = 2
            · subst q2
              have ht : t = -1 := unhide Hwt
              go_wp2
              go_round
              case rel => exact ⟨k, by omega, by omega, by congr 1, by have := unhide Hws; congr 1; omega⟩
              case measure => simp [intOf]
            · by_cases q3 : q = 3
              · subst q3
                have ht : t = -1 := unhide Hwt
                go_wp2
                go_round
                case rel => exact ⟨k, by omega, by omega, by congr 1, by have := unhide Hws; congr 1; omega⟩
                case measure => simp [intOf]
              · have ht : t = 0 := by rw [unhide Hwt, if_neg (by omega), if_neg (by omega)]
                have b0 : (q == 0) = false := by simp [q0]
                have b1 : (q == 1) = false := by simp [q1]
                have b2 : (q == 2) = false := by simp [q2]
                have b3 : (q == 3) = false := by simp [q3]
                go_wp2
                go_round
                case rel => exact ⟨k, by omega, by omega, by congr 1, by have := unhide Hws; congr 1; omega⟩
                case measure => simp [intOf]
    · obtain rfl : k = lo := by omega
      rw [unhide H1]
      by_cases hk0 : 0 < k
      · have hk0' : 0 < (k : Int) := by omega
        go_wp2
        go_ret
        exact ⟨rfl, rfl⟩
      · have hk0' : ¬ 0 < (k : Int) := by omega
        go_wp2
        go_ret
        exact ⟨rfl, rfl⟩
end Go.Proofs.YtcmofgehhdfifaaGreatDoor
