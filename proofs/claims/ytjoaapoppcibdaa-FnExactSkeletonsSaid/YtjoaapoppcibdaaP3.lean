import Derived.Test.YtjoaapoppcibdaaP2
import Derived.Lib.SliceRun
import Derived.Deep.RegionHeld3
import Derived.Deep.RegionWith
namespace Go.Proofs.Ytjoaapoppcibdaa
open Go.RowKit

/-- The lexicographic comparison: -1, 0 or 1. -/
def lexc : List Int → List Int → Int
  | [], [] => 0
  | [], _ :: _ => -1
  | _ :: _, [] => 1
  | x :: xs, y :: ys => if x < y then -1 else if y < x then 1 else lexc xs ys

theorem lexc_vals : ∀ xs ys : List Int, lexc xs ys = -1 ∨ lexc xs ys = 0 ∨ lexc xs ys = 1
  | [], [] => by simp [lexc]
  | [], _ :: _ => by simp [lexc]
  | _ :: _, [] => by simp [lexc]
  | x :: xs, y :: ys => by
    simp only [lexc]
    split
    · simp
    · split
      · simp
      · exact lexc_vals xs ys
theorem lexc_zero : ∀ {xs ys : List Int}, lexc xs ys = 0 ↔ xs = ys
  | [], [] => by simp [lexc]
  | [], _ :: _ => by simp [lexc]
  | _ :: _, [] => by simp [lexc]
  | x :: xs, y :: ys => by
    simp only [lexc, List.cons.injEq]
    have ih := lexc_zero (xs := xs) (ys := ys)
    by_cases h1 : x < y
    · rw [if_pos h1]
      constructor
      · intro h; omega
      · rintro ⟨rfl, -⟩; omega
    · rw [if_neg h1]
      by_cases h2 : y < x
      · rw [if_pos h2]
        constructor
        · intro h; omega
        · rintro ⟨rfl, -⟩; omega
      · rw [if_neg h2, ih]
        constructor
        · intro h; exact ⟨by omega, h⟩
        · rintro ⟨-, h⟩; exact h
theorem lexc_swap : ∀ xs ys : List Int, lexc ys xs = - lexc xs ys
  | [], [] => by simp [lexc]
  | [], _ :: _ => by simp [lexc]
  | _ :: _, [] => by simp [lexc]
  | x :: xs, y :: ys => by
    simp only [lexc]
    have ih := lexc_swap xs ys
    by_cases h1 : x < y
    · rw [if_pos h1, if_neg (by omega), if_pos h1]
      rfl
    · by_cases h2 : y < x
      · rw [if_pos h2, if_neg h1, if_pos h2]
      · rw [if_neg h2, if_neg h1, if_neg h1, if_neg h2, ih]
theorem lexc_trans : ∀ {xs ys zs : List Int}, lexc xs ys < 0 → lexc ys zs < 0 → lexc xs zs < 0
  | [], [], _, h, _ => by simp [lexc] at h
  | _ :: _, [], _, h, _ => by simp [lexc] at h
  | _, _ :: _, [], _, h => by simp [lexc] at h
  | [], _ :: _, _ :: _, _, _ => by simp [lexc]
  | x :: xs, y :: ys, z :: zs, h1, h2 => by
    simp only [lexc] at h1 h2 ⊢
    have ih := lexc_trans (xs := xs) (ys := ys) (zs := zs)
    by_cases a1 : x < y
    · by_cases b1 : y < z
      · rw [if_pos (by omega)]; omega
      · rw [if_neg b1] at h2
        by_cases b2 : z < y
        · rw [if_pos b2] at h2; omega
        · rw [if_pos (by omega)]; omega
    · rw [if_neg a1] at h1
      by_cases a2 : y < x
      · rw [if_pos a2] at h1; omega
      · rw [if_neg a2] at h1
        by_cases b1 : y < z
        · rw [if_pos (by omega)]; omega
        · rw [if_neg b1] at h2
          by_cases b2 : z < y
          · rw [if_pos b2] at h2; omega
          · rw [if_neg b2] at h2
            rw [if_neg (by omega), if_neg (by omega)]
            exact ih h1 h2

theorem drop_cons {xs : List Int} {i : Nat} (h : i < xs.length) : xs.drop i = xs[i]?.getD 0 :: xs.drop (i + 1) := by
  rw [List.drop_eq_getElem_cons h]
  simp [h]
theorem drop_nil {xs : List Int} : xs.drop xs.length = [] := by simp

set_option maxHeartbeats 400000 in
theorem cmpInt_any (x y : Int) (w : World) : Calls Try.prog 71 #[.int .i64 x, .int .i64 y] w fun e w' => e = .returned (.int .i64 (if x < y then -1 else if y < x then 1 else 0)) ∧ w' = w := by
  by_cases h1 : x < y
  · rw [if_pos h1]
    go_enter Try.func71, Try.ntmps71
    go_wp2
    go_ret
    exact ⟨rfl, rfl⟩
  · rw [if_neg h1]
    by_cases h2 : y < x
    · rw [if_pos h2]
      go_enter Try.func71, Try.ntmps71
      go_wp2
      go_ret
      exact ⟨rfl, rfl⟩
    · rw [if_neg h2]
      go_enter Try.func71, Try.ntmps71
      go_wp2
      go_ret
      exact ⟨rfl, rfl⟩

set_option maxHeartbeats 1000000 in
set_option maxRecDepth 100000 in
theorem compare_any (u v : Value) (xs ys : List Int) (w : World) (hu : SlAt mI 0 0 w.heap.size w u xs) (hv : SlAt mI 0 0 w.heap.size w v ys) :
    Calls Try.prog 63 #[u, v] w fun e w' => e = .returned (.int .i64 (lexc xs ys)) ∧ w' = w := by
  obtain ⟨a, cap, rfl, hl, hc⟩ := hu
  obtain ⟨a2, cap2, rfl, hl2, hc2⟩ := hv
  unfold maxLen at hl hl2
  go_enter Try.func63, Try.ntmps63
  go_wp2_with fail
  go_loop [11] (fun i => ∃ k : Nat, k ≤ xs.length ∧ k ≤ ys.length ∧ i = .int .i64 k ∧ lexc xs ys = lexc (xs.drop k) (ys.drop k)) (fun i => xs.length - (intOf i).toNat)
  case atStart => exact ⟨0, Nat.zero_le _, Nat.zero_le _, rfl, rfl⟩
  case round =>
    obtain ⟨k, hk, hk2, rfl, he⟩ := hrel
    have He := hide he
    clear he
    by_cases h1 : k < xs.length
    · have h1' : (k : Int) < (xs.length : Int) := by omega
      obtain ⟨b, off, rfl, -, -, hcell⟩ := hc (by omega)
      have hx : w.cell? ⟨b, off + k, none⟩ = some (.int .i64 (xs[k]?.getD 0)) := hcell k h1
      by_cases h2 : k < ys.length
      · have h2' : (k : Int) < (ys.length : Int) := by omega
        obtain ⟨b2, off2, rfl, -, -, hcell2⟩ := hc2 (by omega)
        have hy : w.cell? ⟨b2, off2 + k, none⟩ = some (.int .i64 (ys[k]?.getD 0)) := hcell2 k h2
        have Hst : Hid (lexc xs ys = if xs[k]?.getD 0 < ys[k]?.getD 0 then -1 else if ys[k]?.getD 0 < xs[k]?.getD 0 then 1 else lexc (xs.drop (k + 1)) (ys.drop (k + 1))) := by
          have := unhide He
          rw [drop_cons h1, drop_cons h2] at this
          exact this
        clear hcell hcell2 hc hc2 He
        generalize xs[k]?.getD 0 = x at *
        generalize ys[k]?.getD 0 = y at *
        go_wp2_with fail
        refine (cmpInt_any x y _).mono ?_
        rintro e w1 ⟨rfl, rfl⟩
        by_cases g1 : x < y
        · simp only [if_pos g1]
          have Hq := unhide Hst
          rw [if_pos g1] at Hq
          have HQ := hide Hq
          clear Hq Hst
          go_wp2
          go_ret
          exact ⟨ret_int (unhide HQ).symm, rfl⟩
        · have Hq := unhide Hst
          rw [if_neg g1] at Hq
          by_cases g2 : y < x
          · simp only [if_neg g1, if_pos g2]
            rw [if_pos g2] at Hq
            have HQ := hide Hq
            clear Hq Hst
            go_wp2
            go_ret
            exact ⟨ret_int (unhide HQ).symm, rfl⟩
          · simp only [if_neg g1, if_neg g2]
            rw [if_neg g2] at Hq
            have HQ := hide Hq
            clear Hq Hst
            go_wp2
            go_round
            case rel => exact ⟨k + 1, by omega, by omega, by go_num, unhide HQ⟩
            case measure => simp [intOf]; omega
      · obtain rfl : k = ys.length := by omega
        have HQ : Hid (lexc xs ys = 1) := by
          have := unhide He
          rw [drop_cons h1, drop_nil] at this
          exact this
        clear hcell hc hc2 He
        generalize xs[ys.length]?.getD 0 = x at *
        go_wp2
        go_ret
        exact ⟨ret_int (unhide HQ).symm, rfl⟩
    · obtain rfl : k = xs.length := by omega
      clear hc hc2
      by_cases h2 : xs.length < ys.length
      · have h2' : (xs.length : Int) < (ys.length : Int) := by omega
        have HQ : Hid (lexc xs ys = -1) := by
          have := unhide He
          rw [drop_nil, drop_cons h2] at this
          exact this
        go_wp2
        go_ret
        exact ⟨ret_int (unhide HQ).symm, rfl⟩
      · have h2' : ¬ (xs.length : Int) < (ys.length : Int) := by omega
        have HQ : Hid (lexc xs ys = 0) := by
          have := unhide He
          rw [drop_nil, show xs.length = ys.length by omega, drop_nil] at this
          exact this
        go_wp2
        go_ret
        exact ⟨ret_int (unhide HQ).symm, rfl⟩

set_option maxHeartbeats 1000000 in
set_option maxRecDepth 100000 in
theorem l3less_any (u v : Value) (xs ys : List Int) (w : World) (hu : SlAt mI 0 0 w.heap.size w u xs) (hv : SlAt mI 0 0 w.heap.size w v ys) :
    Calls Try.prog 29 #[u, v] w fun e w' => RetB e (lexc xs ys < 0) ∧ ∃ q, w' = w.drewN q := by
  obtain ⟨a, cap, rfl, hl, hc⟩ := hu
  obtain ⟨a2, cap2, rfl, hl2, hc2⟩ := hv
  unfold maxLen at hl hl2
  go_enter Try.func29, Try.ntmps29
  go_wp2_with fail
  go_loopw [5] (fun i wr => (∃ k : Nat, k ≤ xs.length ∧ k ≤ ys.length ∧ i = .int .i64 k ∧ lexc xs ys = lexc (xs.drop k) (ys.drop k)) ∧ ∃ q, wr = w.drewN q) (fun i _ => xs.length - (intOf i).toNat)
  case atStart => exact ⟨⟨0, Nat.zero_le _, Nat.zero_le _, rfl, rfl⟩, 0, rfl⟩
  case round =>
    obtain ⟨⟨k, hk, hk2, rfl, he⟩, q, rfl⟩ := hrel
    have He := hide he
    clear he
    by_cases h1 : k < xs.length
    · have h1' : (k : Int) < (xs.length : Int) := by omega
      obtain ⟨b, off, rfl, -, -, hcell⟩ := hc (by omega)
      have hx : w.cell? ⟨b, off + k, none⟩ = some (.int .i64 (xs[k]?.getD 0)) := hcell k h1
      by_cases h2 : k < ys.length
      · have h2' : (k : Int) < (ys.length : Int) := by omega
        obtain ⟨b2, off2, rfl, -, -, hcell2⟩ := hc2 (by omega)
        have hy : w.cell? ⟨b2, off2 + k, none⟩ = some (.int .i64 (ys[k]?.getD 0)) := hcell2 k h2
        have Hst : Hid (lexc xs ys = if xs[k]?.getD 0 < ys[k]?.getD 0 then -1 else if ys[k]?.getD 0 < xs[k]?.getD 0 then 1 else lexc (xs.drop (k + 1)) (ys.drop (k + 1))) := by
          have := unhide He
          rw [drop_cons h1, drop_cons h2] at this
          exact this
        clear hcell hcell2 hc hc2 He
        generalize xs[k]?.getD 0 = x at *
        generalize ys[k]?.getD 0 = y at *
        by_cases g0 : x = y
        · subst g0
          have Hq := unhide Hst
          rw [if_neg (Int.lt_irrefl _), if_neg (Int.lt_irrefl _)] at Hq
          have HQ := hide Hq
          clear Hq Hst
          go_wp2_with fail
          go_quiet (fail)
          go_wp2
          go_roundw
          case rel => exact ⟨⟨k + 1, by omega, by omega, by go_num, unhide HQ⟩, _, rfl⟩
          case measure => simp [intOf]; omega
        · have g0' : (x != y) = true := by simp [g0]
          have HQ : Hid (lexc xs ys < 0 ↔ x < y) := by
            have := unhide Hst
            by_cases g1 : x < y
            · rw [if_pos g1] at this
              exact ⟨fun _ => g1, fun _ => by omega⟩
            · rw [if_neg g1, if_pos (by omega)] at this
              exact ⟨fun h => by omega, fun h => absurd h g1⟩
          clear Hst
          go_wp2_with fail
          go_quiet (fail)
          go_wp2_with fail
          go_quiet (fail)
          go_wp2
          go_ret
          exact ⟨RetB.of (by rw [unhide HQ]; simp), _, drew3 _ _ _ _⟩
      · obtain rfl : k = ys.length := by omega
        have h2' : ¬ (xs.length : Int) < (ys.length : Int) := by omega
        have h3' : decide ((xs.length : Int) < (ys.length : Int)) = false := decide_eq_false h2'
        have HQ : Hid (lexc xs ys = 1) := by
          have := unhide He
          rw [drop_cons h1, drop_nil] at this
          exact this
        clear hcell hc hc2 He
        go_wp2
        go_ret
        exact ⟨RetB.no (by rw [unhide HQ]; omega), _, rfl⟩
    · obtain rfl : k = xs.length := by omega
      clear hc hc2
      have HQ : Hid (lexc xs ys < 0 ↔ xs.length < ys.length) := by
        have := unhide He
        by_cases h2 : xs.length < ys.length
        · rw [drop_nil, drop_cons h2] at this
          exact ⟨fun _ => h2, fun _ => by rw [this]; simp [lexc]⟩
        · rw [drop_nil, show xs.length = ys.length by omega, drop_nil] at this
          exact ⟨fun h => by rw [this] at h; simp [lexc] at h, fun h => absurd h h2⟩
      go_wp2
      go_ret
      exact ⟨RetB.of (by rw [unhide HQ]; simp), _, rfl⟩

set_option maxHeartbeats 1000000 in
set_option maxRecDepth 100000 in
theorem l1same_any (u v : Value) (xs ys : List Int) (w : World) (hu : SlAt mI 0 0 w.heap.size w u xs) (hv : SlAt mI 0 0 w.heap.size w v ys) :
    Calls Try.prog 30 #[u, v] w fun e w' => RetB e (xs = ys) ∧ ∃ q, w' = w.drewN q := by
  obtain ⟨a, cap, rfl, hl, hc⟩ := hu
  obtain ⟨a2, cap2, rfl, hl2, hc2⟩ := hv
  unfold maxLen at hl hl2
  by_cases hn : xs.length = ys.length
  · have hn' : ((xs.length : Int) != (ys.length : Int)) = false := by simp [hn]
    have HN := hide hn
    have hle1 : xs.length ≤ ys.length := by omega
    have hle2 : ys.length ≤ xs.length := by omega
    clear hn
    go_enter Try.func30, Try.ntmps30
    go_wp2_with fail
    go_loopw [5] (fun i wr => (∃ k : Nat, k ≤ xs.length ∧ i = .int .i64 k ∧ ∀ j : Nat, j < k → xs[j]?.getD 0 = ys[j]?.getD 0) ∧ ∃ q, wr = w.drewN q) (fun i _ => xs.length - (intOf i).toNat)
    case atStart => exact ⟨⟨0, Nat.zero_le _, rfl, fun j hj => absurd hj (Nat.not_lt_zero _)⟩, 0, rfl⟩
    case round =>
      obtain ⟨⟨k, hk, rfl, he⟩, q, rfl⟩ := hrel
      have He := hide he
      clear he
      by_cases h1 : k < xs.length
      · have h1' : (k : Int) < (xs.length : Int) := by omega
        have h2' : (k : Int) < (ys.length : Int) := by omega
        obtain ⟨b, off, rfl, -, -, hcell⟩ := hc (by omega)
        obtain ⟨b2, off2, rfl, -, -, hcell2⟩ := hc2 (by omega)
        have hx : w.cell? ⟨b, off + k, none⟩ = some (.int .i64 (xs[k]?.getD 0)) := hcell k h1
        have hy : w.cell? ⟨b2, off2 + k, none⟩ = some (.int .i64 (ys[k]?.getD 0)) := hcell2 k (by omega)
        have Hst : Hid (xs[k]?.getD 0 = ys[k]?.getD 0 → ∀ j : Nat, j < k + 1 → xs[j]?.getD 0 = ys[j]?.getD 0) := fun h j hj => by
          by_cases e : j = k
          · subst e; exact h
          · exact unhide He j (by omega)
        have Hno : Hid (xs[k]?.getD 0 ≠ ys[k]?.getD 0 → xs ≠ ys) := fun h e => h (by rw [e])
        clear hcell hcell2 hc hc2 He
        generalize xs[k]?.getD 0 = x at *
        generalize ys[k]?.getD 0 = y at *
        by_cases g0 : x = y
        · subst g0
          have HQ := hide (unhide Hst rfl)
          clear Hst Hno
          go_wp2_with fail
          go_quiet (fail)
          go_wp2
          go_roundw
          case rel => exact ⟨⟨k + 1, by omega, by go_num, unhide HQ⟩, _, rfl⟩
          case measure => simp [intOf]; omega
        · have g0' : (x != y) = true := by simp [g0]
          have HQ := hide (unhide Hno g0)
          clear Hst Hno
          go_wp2_with fail
          go_quiet (fail)
          go_wp2
          go_ret
          exact ⟨RetB.no (unhide HQ), _, drew2 _ _ _⟩
      · obtain rfl : k = xs.length := by omega
        clear hc hc2
        have HQ : Hid (xs = ys) := by
          apply List.ext_getElem (unhide HN)
          intro i h1 h2
          have := unhide He i h1
          simpa [h1, h2] using this
        go_wp2
        go_ret
        exact ⟨RetB.yes (unhide HQ), _, rfl⟩
  · have hn' : ((xs.length : Int) != (ys.length : Int)) = true := by simp; omega
    clear hc hc2
    go_enter Try.func30, Try.ntmps30
    go_wp2
    go_ret
    exact ⟨RetB.no (fun h => hn (by rw [h])), 0, rfl⟩

end Go.Proofs.Ytjoaapoppcibdaa

namespace Go.Proofs.Ytjoaapoppcibdaa
open Go.RowKit

/-- The row cut to its first k. -/
theorem own_cut {base e g n cap k : Nat} {w : World} {xs : List Value} (h : w.ownsRow base e 1 (.slice (some ⟨g, 0, none⟩) n cap) n xs) (hk : k ≤ n) : w.ownsRow base e 1 (.slice (some ⟨g, 0, none⟩) k cap) k (xs.take k) := by
  have hlen := h.1
  rcases h.2 with ⟨e0, _⟩ | ⟨g', cap', cur, e0, hb, hg, hn, hm, hs, ht⟩
  · cases e0
  · cases e0
    refine ⟨by rw [List.length_take]; omega, .inr ⟨g, cap, cur, rfl, hb, hg, by omega, hm, hs, ?_⟩⟩
    rw [← ht, List.take_take]
    congr 1
    omega
/-- A store behind the row's end. -/
theorem own_past {base e g cap k j : Nat} {w : World} {xs : List Value} {u : Value} (h : w.ownsRow base e 1 (.slice (some ⟨g, 0, none⟩) k cap) k xs) (hj : k ≤ j) : (w.setCell ⟨g, j, none⟩ u).ownsRow base e 1 (.slice (some ⟨g, 0, none⟩) k cap) k xs := by
  have hlen := h.1
  rcases h.2 with ⟨e0, _⟩ | ⟨g', cap', cur, e0, hb, hg, hn, hm, hs, ht⟩
  · cases e0
  · cases e0
    refine ⟨hlen, .inr ⟨g, cap, cur.setIfInBounds j u, rfl, hb, ?_, hn, hm, by rw [Array.size_setIfInBounds]; exact hs, ?_⟩⟩
    · simp [World.setCell, Array.getElem?_modify, hg]
    · rw [Array.toList_setIfInBounds, List.take_set, ht]
      exact List.set_eq_of_length_le (by omega)
theorem own_pasts {base e g cap k : Nat} : ∀ {us : List Value} {j : Nat} {w : World} {xs : List Value}, w.ownsRow base e 1 (.slice (some ⟨g, 0, none⟩) k cap) k xs → k ≤ j → (w.setCells g j us).ownsRow base e 1 (.slice (some ⟨g, 0, none⟩) k cap) k xs
  | [], _, _, _, h, _ => h
  | _ :: us, j, _, _, h, hj => own_pasts (us := us) (j := j + 1) (own_past h hj) (by omega)
theorem chg_sets {g : Nat} : ∀ {us : List Value} {j : Nat} {w : World}, ChgF (fun k => k = g) w (w.setCells g j us)
  | [], _, _ => ChgF.refl _ _
  | u :: us, j, w => ((ChgF.refl (fun k => k = g) w).put (b := g) (o := j) rfl u).trans (chg_sets (us := us) (j := j + 1))

theorem own_at_s {base n e : Nat} {w : World} {v : Value} {xs : List Value} (h : w.ownsRow base e 1 v n xs) (hp : 0 < n) : ∃ g cap, v = .slice (some ⟨g, 0, none⟩) n cap ∧ ∀ j : Nat, j < n → w.cell? ⟨g, j, none⟩ = xs[j]? := by
  rcases h.2 with ⟨rfl, hz⟩ | ⟨g, cap, cur, rfl, hbg, hg, hnc, hcm, hcs, htake⟩
  · omega
  · exact ⟨g, cap, rfl, fun j hj => h.cellAt j (by omega)⟩

theorem row_at {base e g n cap j : Nat} {w : World} {xs : List Value} (h : w.ownsRow base e 1 (.slice (some ⟨g, 0, none⟩) n cap) n xs) (hj : j < n) : (∃ old, w.cell? ⟨g, j, none⟩ = some old) ∧ ∀ i, w.frozen? ⟨g, i, none⟩ = false := by
  have hlen := h.1
  constructor
  · obtain ⟨_, _, e1, hcl⟩ := own_at_s h (by omega)
    cases e1
    exact ⟨xs[j], by rw [hcl j hj, List.getElem?_eq_getElem (by omega)]⟩
  · intro i
    rcases h.2 with ⟨e0, _⟩ | ⟨g', cap', cur, e0, hb, hg, -⟩
    · cases e0
    · cases e0
      exact frz ⟨cur, _, hg⟩

def dC : Cl Int := ⟨.slice none 0 0, [], 0⟩
/-- Whether the j-th is kept: it is no other list than the one before it. -/
def kpc (ps : List (Cl Int)) (j : Nat) : Bool := decide (j = 0) || decide ((ps[j]?.getD dC).xs ≠ (ps[j - 1]?.getD dC).xs)
def KpC (ps : List (Cl Int)) (j : Nat) : Prop := kpc ps j = true
theorem kpc_iff {ps : List (Cl Int)} {j : Nat} : KpC ps j ↔ j = 0 ∨ (ps[j]?.getD dC).xs ≠ (ps[j - 1]?.getD dC).xs := by unfold KpC kpc; simp
/-- What is kept of the first m. -/
def cpt (ps : List (Cl Int)) : Nat → List (Cl Int)
  | 0 => []
  | m + 1 => if kpc ps m = true then cpt ps m ++ [ps[m]?.getD dC] else cpt ps m
theorem cpt_keep {ps : List (Cl Int)} {m : Nat} (h : KpC ps m) : cpt ps (m + 1) = cpt ps m ++ [ps[m]?.getD dC] := by simp only [cpt]; exact if_pos h
theorem cpt_skip {ps : List (Cl Int)} {m : Nat} (h : ¬ KpC ps m) : cpt ps (m + 1) = cpt ps m := by simp only [cpt]; exact if_neg h
theorem cpt_all {ps : List (Cl Int)} {m : Nat} (hm : m ≤ ps.length) (h : ∀ j, j < m → KpC ps j) : cpt ps m = ps.take m := by
  induction m with
  | zero => simp [cpt]
  | succ m ih =>
    rw [cpt_keep (h m (Nat.lt_succ_self _)), ih (by omega) (fun j hj => h j (by omega)), List.take_add_one]
    simp [show m < ps.length by omega]
theorem cpt_le {ps : List (Cl Int)} (m : Nat) : (cpt ps m).length ≤ m := by
  induction m with
  | zero => simp [cpt]
  | succ m ih =>
    by_cases h : KpC ps m
    · rw [cpt_keep h]; simp; omega
    · rw [cpt_skip h]; omega

/-- While it is compacted: kk are kept of the first m; dk is what the row holds. -/
structure CI (ps : List (Cl Int)) (m kk : Nat) (dk : List (Cl Int)) : Prop where
  len : dk.length = ps.length
  kept : (cpt ps m).length = kk
  low : dk.take kk = cpt ps m
  high : ∀ j, m ≤ j + 1 → j < ps.length → dk[j]?.getD dC = ps[j]?.getD dC
  lt : kk < m
  le : m ≤ ps.length
theorem CI.start {ps : List (Cl Int)} {k : Nat} (hk : k < ps.length) (hall : ∀ j, j < k → KpC ps j) (hno : ¬ KpC ps k) : CI ps (k + 1) k ps := by
  have e := cpt_all (by omega) hall
  exact ⟨rfl, by rw [cpt_skip hno, e]; simp; omega, by rw [cpt_skip hno, e], fun _ _ _ => rfl, by omega, by omega⟩
theorem CI.skip {ps : List (Cl Int)} {m kk : Nat} {dk : List (Cl Int)} (h : CI ps m kk dk) (hm : m < ps.length) (hno : ¬ KpC ps m) : CI ps (m + 1) kk dk :=
  ⟨h.len, by rw [cpt_skip hno]; exact h.kept, by rw [cpt_skip hno]; exact h.low, fun j h1 h2 => h.high j (by omega) h2, by have := h.lt; omega, by omega⟩
theorem CI.keep {ps : List (Cl Int)} {m kk : Nat} {dk : List (Cl Int)} (h : CI ps m kk dk) (hm : m < ps.length) (hy : KpC ps m) : CI ps (m + 1) (kk + 1) (dk.set kk (ps[m]?.getD dC)) := by
  have h1 := h.lt
  have h2 := h.len
  refine ⟨by simpa using h2, by rw [cpt_keep hy]; simp [h.kept], ?_, fun j k1 k2 => ?_, by omega, by omega⟩
  · rw [cpt_keep hy, ← h.low]
    apply List.ext_getElem
    · simp; omega
    · intro i i1 i2
      simp at i1 i2
      by_cases e : i = kk
      · subst e
        rw [List.getElem_append_right (by simp; omega)]
        simp
      · rw [List.getElem_take, List.getElem_set_ne (by omega), List.getElem_append_left (by simp; omega), List.getElem_take]
  · rw [List.getElem?_set_ne (by omega)]
    exact h.high j (by omega) k2

/-- Whatever is said of a world and holds of it where the block g alone has turned. -/
theorem ok_chg {w w' : World} {g : Nat} {p : Cl Int} (h : p.ok mI 0 3 w) (hne : 0 < p.xs.length → p.b ≠ g) (hc : ChgF (fun k => k = g) w w') : p.ok mI 0 3 w' := h.same (fun hp => hc.block _ (fun e => hne hp e))

theorem zeroIntS (w : World) : (zeroValue 52).run Try.prog w = .ok (.slice none 0 0) w := Try.zeroValue52 w

end Go.Proofs.Ytjoaapoppcibdaa

namespace Go.Proofs.Ytjoaapoppcibdaa
open Go.RowKit

theorem SlAt.take {α : Type} {mk : α → Value} {d : α} {lo n b off k cap : Nat} {w : World} {xs : List α} (hk : k ≤ xs.length) (hl : xs.length ≤ maxLen) (hb : lo ≤ b) (hbn : b < n) (hc : ∀ i : Nat, i < xs.length → w.cell? ⟨b, off + i, none⟩ = some (mk (xs[i]?.getD d))) :
    SlAt mk d lo n w (.slice (some ⟨b, off, none⟩) k cap) (xs.take k) := by
  have e : (xs.take k).length = k := by simp; omega
  refine ⟨_, cap, by rw [e], by omega, fun _ => ⟨b, off, rfl, hb, hbn, fun i hi => ?_⟩⟩
  rw [e] at hi
  rw [hc i (by omega), List.getElem?_take, if_pos hi]
theorem SlAt.drop {α : Type} {mk : α → Value} {d : α} {lo n b off k m cap : Nat} {w : World} {xs : List α} (hk : k + m = xs.length) (hl : xs.length ≤ maxLen) (hb : lo ≤ b) (hbn : b < n) (hc : ∀ i : Nat, i < xs.length → w.cell? ⟨b, off + i, none⟩ = some (mk (xs[i]?.getD d))) :
    SlAt mk d lo n w (.slice (some ⟨b, off + k, none⟩) m cap) (xs.drop k) := by
  have e : (xs.drop k).length = m := by simp; omega
  refine ⟨_, cap, by rw [e], by omega, fun _ => ⟨b, off + k, rfl, hb, hbn, fun i hi => ?_⟩⟩
  rw [e] at hi
  rw [Nat.add_assoc, hc (k + i) (by omega), List.getElem?_drop]

/-- What putting a list into order answers. -/
def OrdRet (e : Ending) (w w' : World) (xs : List Int) : Prop :=
  ∃ v ys, e = .returned v ∧ Ord xs ys ∧ ys.length ≤ xs.length ∧ SlW mI 0 w.heap.size w'.heap.size w' v ys

/-- The same, in a row of its own. -/
def OrdOwn (e : Ending) (w w' : World) (xs : List Int) : Prop :=
  ∃ v ys, e = .returned v ∧ Ord xs ys ∧ ys.length ≤ xs.length ∧ w'.ownsRow w.heap.size 3 1 v ys.length (ys.map mI)

/-- One number more. -/
theorem ord_step {os : List Int} {u : Int} {w2 wr w3 : World} {tv v' : Value} {o : Obj} {q : Nat} (hown : wr.ownsRow w2.heap.size 3 1 tv os.length (os.map mI)) (hb : Below w2.heap.size w2 wr)
    (h1 : w3.ownsRow w2.heap.size 3 1 v' (os.length + 1) (os.map mI ++ [.int .i64 u])) (hg : ((wr.drewN q).alloc o).grownBy w3 tv.ownBlock) :
    w3.ownsRow w2.heap.size 3 1 v' (os ++ [u]).length ((os ++ [u]).map mI) ∧ Below w2.heap.size w2 w3 := by
  refine ⟨by rw [List.length_append, List.map_append]; exact h1, ((below_drewN hb q).alloc hb.size o).grown hg (by rw [sz_alloc]; exact Nat.le_succ_of_le hb.size) (fun k hk => (hown.lt k hk).1)⟩

end Go.Proofs.Ytjoaapoppcibdaa

namespace Go.Proofs.Ytjoaapoppcibdaa
open Go.RowKit

/-- Lists in lexicographic order, each once. -/
def LAsc (rs : List (List Int)) : Prop := rs.Pairwise (fun a b => lexc a b < 0)
theorem lasc_uniq : ∀ {xs ys : List (List Int)}, LAsc xs → LAsc ys → (∀ z, z ∈ xs ↔ z ∈ ys) → xs = ys
  | [], [], _, _, _ => rfl
  | [], y :: ys, _, _, h => absurd ((h y).2 (by simp)) (by simp)
  | x :: xs, [], _, _, h => absurd ((h x).1 (by simp)) (by simp)
  | x :: xs, y :: ys, hx, hy, h => by
    have hx' := List.pairwise_cons.1 hx
    have hy' := List.pairwise_cons.1 hy
    have hself : ∀ a : List Int, ¬ lexc a a < 0 := fun a => by rw [lexc_zero.2 rfl]; omega
    have e : x = y := by
      rcases List.mem_cons.1 ((h x).1 (by simp)) with e | m1
      · exact e
      · rcases List.mem_cons.1 ((h y).2 (by simp)) with e | m2
        · exact e.symm
        · exact absurd (lexc_trans (hx'.1 y m2) (hy'.1 x m1)) (hself x)
    subst e
    congr 1
    refine lasc_uniq hx'.2 hy'.2 (fun z => ⟨fun m => ?_, fun m => ?_⟩)
    · rcases List.mem_cons.1 ((h z).1 (List.mem_cons_of_mem _ m)) with e | m'
      · subst e; exact absurd (hx'.1 z m) (hself z)
      · exact m'
    · rcases List.mem_cons.1 ((h z).2 (List.mem_cons_of_mem _ m)) with e | m'
      · subst e; exact absurd (hy'.1 z m) (hself z)
      · exact m'

/-- While a place is made: the row, with j the hole. -/
def hole {α : Type} (ps : List α) (d : α) (j : Nat) : List α := (ps ++ [d]).take (j + 1) ++ ps.drop j
theorem hole_len {α : Type} (ps : List α) (d : α) {j : Nat} (hj : j ≤ ps.length) : (hole ps d j).length = ps.length + 1 := by simp [hole]; omega
theorem hole_start {α : Type} (ps : List α) (d : α) : hole ps d ps.length = ps ++ [d] := by unfold hole; rw [List.take_of_length_le (by simp), List.drop_length, List.append_nil]
theorem hole_before {α : Type} (ps : List α) (d : α) {j : Nat} (hj : j < ps.length) : (hole ps d (j + 1))[j]? = some (ps[j]) := by
  unfold hole
  rw [List.getElem?_append_left (by simp; omega), List.getElem?_take, if_pos (by omega), List.getElem?_append_left hj]
  simp [hj]
theorem hole_step {α : Type} (ps : List α) (d : α) {j : Nat} (hj : j < ps.length) : (hole ps d (j + 1)).set (j + 1) (ps[j]) = hole ps d j := by
  apply List.ext_getElem?
  intro i
  unfold hole
  by_cases h1 : i = j + 1
  · subst h1
    rw [List.getElem?_set_self (by simp; omega), List.getElem?_append_right (by simp; omega)]
    simp [show min (j + 1) (ps.length + 1) = j + 1 by omega, hj]
  · rw [List.getElem?_set_ne (by omega)]
    by_cases h2 : i < j + 1
    · rw [List.getElem?_append_left (by simp; omega), List.getElem?_append_left (by simp; omega), List.getElem?_take, List.getElem?_take, if_pos (by omega), if_pos (by omega)]
    · rw [List.getElem?_append_right (by simp; omega), List.getElem?_append_right (by simp; omega), List.getElem?_drop, List.getElem?_drop]
      congr 1
      simp
      omega
theorem hole_fill {α : Type} (ps : List α) (d c : α) {j : Nat} (hj : j ≤ ps.length) : (hole ps d j).set j c = ps.take j ++ c :: ps.drop j := by
  apply List.ext_getElem?
  intro i
  unfold hole
  by_cases h1 : i = j
  · subst h1
    rw [List.getElem?_set_self (by simp; omega), List.getElem?_append_right (by simp; omega)]
    simp [show min i ps.length = i by omega]
  · rw [List.getElem?_set_ne (by omega)]
    by_cases h2 : i < j
    · rw [List.getElem?_append_left (by simp; omega), List.getElem?_append_left (by simp; omega), List.getElem?_take, List.getElem?_take, if_pos (by omega), if_pos (by omega), List.getElem?_append_left (by omega)]
    · rw [List.getElem?_append_right (by simp; omega), List.getElem?_append_right (by simp; omega), List.getElem?_drop]
      obtain ⟨m, hm⟩ : ∃ m, i = j + 1 + m := ⟨i - (j + 1), by omega⟩
      subst hm
      rw [show j + 1 + m - (List.take j ps).length = m + 1 by simp; omega, List.getElem?_cons_succ, List.getElem?_drop]
      congr 1
      simp
      omega

/-- One list more, at its place. -/
theorem lasc_ins {rs : List (List Int)} {x : List Int} {at' : Nat} (h : LAsc rs) (hat : at' ≤ rs.length) (hlow : ∀ j : Nat, j < at' → lexc (rs[j]?.getD []) x < 0) (hhigh : at' < rs.length → lexc x (rs[at']?.getD []) < 0) : LAsc (rs.take at' ++ x :: rs.drop at') := by
  have h' : LAsc (rs.take at' ++ rs.drop at') := by rw [List.take_append_drop]; exact h
  obtain ⟨p1, p2, p3⟩ := List.pairwise_append.1 h'
  refine List.pairwise_append.2 ⟨p1, List.pairwise_cons.2 ⟨fun z hz => ?_, p2⟩, fun a ha b hb => ?_⟩
  · have hlt : at' < rs.length := by
      have := List.length_pos_of_mem hz
      simp at this
      omega
    have h1 := hhigh hlt
    rw [List.drop_eq_getElem_cons hlt] at hz p2
    have e : rs[at']?.getD [] = rs[at'] := by simp [hlt]
    rw [e] at h1
    rcases List.mem_cons.1 hz with e2 | m
    · rw [e2]; exact h1
    · exact lexc_trans h1 ((List.pairwise_cons.1 p2).1 z m)
  · have hlow' : ∀ a, a ∈ rs.take at' → lexc a x < 0 := fun a ha => by
      obtain ⟨j, hj, e⟩ := List.mem_iff_getElem.1 ha
      have hj' : j < at' := by simp at hj; omega
      have := hlow j hj'
      rw [List.getElem_take] at e
      rw [show rs[j]?.getD [] = a by rw [← e]; simp [show j < rs.length by simp at hj; omega]] at this
      exact this
    rcases List.mem_cons.1 hb with e | m
    · rw [e]; exact hlow' a ha
    · exact p3 a ha b m

end Go.Proofs.Ytjoaapoppcibdaa

namespace Go.Proofs.Ytjoaapoppcibdaa
open Go.RowKit

/-- Two skeletons joined: Gaps that meet are one. -/
def jn2 (a b : List Int) : List Int := if a.getLast? = some 256 ∧ b.head? = some 256 then a ++ b.tail else a ++ b
theorem jn2_yes {a b : List Int} (h : a.getLast? = some 256 ∧ b.head? = some 256) : jn2 a b = a ++ b.tail := if_pos h
theorem jn2_no {a b : List Int} (h : ¬ (a.getLast? = some 256 ∧ b.head? = some 256)) : jn2 a b = a ++ b := if_neg h
/-- Every one of the first joined with every one of the second. -/
def prd (A B : List (List Int)) : List (List Int) := A.flatMap (fun a => B.map (jn2 a))
theorem mem_prd {A B : List (List Int)} {z : List Int} : z ∈ prd A B ↔ ∃ a, a ∈ A ∧ ∃ b, b ∈ B ∧ jn2 a b = z := by
  unfold prd
  simp only [List.mem_flatMap, List.mem_map]

theorem last_at {a : List Int} (h : 0 < a.length) : a.getLast? = some (a[a.length - 1]?.getD 0) := by
  rw [List.getLast?_eq_getElem?, List.getElem?_eq_getElem (by omega)]
  rfl
theorem head_at {a : List Int} (h : 0 < a.length) : a.head? = some (a[0]?.getD 0) := by
  cases a with
  | nil => simp at h
  | cons x a => rfl
/-- What is joined of b when the first k are through. -/
def jpt (a b : List Int) (k : Nat) : List Int := jn2 a (b.take k)
theorem jpt_zero (a b : List Int) : jpt a b 0 = a := by unfold jpt jn2; simp
theorem jpt_all (a b : List Int) : jpt a b b.length = jn2 a b := by unfold jpt; rw [List.take_length]
theorem jpt_skip {a b : List Int} (hb : 0 < b.length) (h1 : a.getLast? = some 256) (h2 : b.head? = some 256) : jpt a b 1 = a := by
  unfold jpt jn2
  cases b with
  | nil => simp at hb
  | cons x b =>
    have : x = 256 := by simpa using h2
    subst this
    simp [h1]
theorem jpt_next {a b : List Int} {k : Nat} (hk : k < b.length) (h : ¬ (k = 0 ∧ a.getLast? = some 256 ∧ b.head? = some 256)) : jpt a b (k + 1) = jpt a b k ++ [b[k]?.getD 0] := by
  unfold jpt
  have e : b.take (k + 1) = b.take k ++ [b[k]?.getD 0] := by rw [List.take_add_one, List.getElem?_eq_getElem hk]; rfl
  cases b with
  | nil => simp at hk
  | cons x b =>
    by_cases k0 : k = 0
    · subst k0
      unfold jn2
      simp only [Nat.zero_add, List.take_succ_cons, List.take_zero, List.head?_cons, List.head?_nil, List.append_nil]
      rw [if_neg (fun g => h ⟨rfl, g.1, g.2⟩), if_neg (fun g => by simp at g)]
      rfl
    · obtain ⟨m, rfl⟩ : ∃ m, k = m + 1 := ⟨k - 1, by omega⟩
      rw [e]
      by_cases g : a.getLast? = some 256 ∧ some x = some 256
      · rw [jn2_yes (by simpa using g), jn2_yes (by simpa using g)]; simp
      · rw [jn2_no (by simpa using g), jn2_no (by simpa using g)]; simp
theorem jpt_len (a b : List Int) (k : Nat) : (jpt a b k).length ≤ a.length + k := by
  unfold jpt jn2
  split <;> simp <;> omega

theorem lexc_tri (a b : List Int) : lexc a b < 0 ∨ a = b ∨ lexc b a < 0 := by
  have hs := lexc_swap a b
  by_cases e : lexc a b = 0
  · exact Or.inr (Or.inl (lexc_zero.1 e))
  · rcases Int.lt_or_gt_of_ne e with h | h
    · exact Or.inl h
    · exact Or.inr (Or.inr (by omega))
theorem LAsc.nodup {D : List (List Int)} (h : LAsc D) : D.Nodup := List.Pairwise.imp (fun {a b} h e => by subst e; rw [lexc_zero.2 rfl] at h; omega) h
theorem lasc_put : ∀ (D : List (List Int)) (x : List Int), LAsc D → ∃ D', LAsc D' ∧ ∀ z, z ∈ D' ↔ z ∈ D ∨ z = x
  | [], x, _ => ⟨[x], List.pairwise_singleton _ _, by simp⟩
  | d :: D, x, h => by
    obtain ⟨h1, h2⟩ := List.pairwise_cons.1 h
    rcases lexc_tri d x with g | g | g
    · obtain ⟨D', k1, k2⟩ := lasc_put D x h2
      refine ⟨d :: D', List.pairwise_cons.2 ⟨fun z hz => ?_, k1⟩, fun z => by simp only [List.mem_cons, k2, or_assoc]⟩
      rcases (k2 z).1 hz with m | rfl
      · exact h1 z m
      · exact g
    · subst g
      exact ⟨d :: D, h, fun z => ⟨Or.inl, fun m => m.elim id (fun e => by rw [e]; exact List.mem_cons_self)⟩⟩
    · refine ⟨x :: d :: D, List.pairwise_cons.2 ⟨fun z hz => ?_, h⟩, fun z => by simp only [List.mem_cons]; constructor <;> (rintro (h | h | h) <;> simp [h])⟩
      rcases List.mem_cons.1 hz with rfl | m
      · exact g
      · exact lexc_trans g (h1 z m)
theorem lasc_of : ∀ L : List (List Int), ∃ D, LAsc D ∧ ∀ z, z ∈ D ↔ z ∈ L
  | [] => ⟨[], List.Pairwise.nil, by simp⟩
  | x :: L => by
    obtain ⟨D, h1, h2⟩ := lasc_of L
    obtain ⟨D', k1, k2⟩ := lasc_put D x h1
    exact ⟨D', k1, fun z => by rw [k2, h2, List.mem_cons, or_comm]⟩

/-- Too many, or one too long. -/
def Ovr (D : List (List Int)) : Prop := 50 < D.length ∨ ∃ x, x ∈ D ∧ 60 < x.length
theorem Ovr.mono {D E : List (List Int)} (h : Ovr D) (hD : D.Nodup) (hs : ∀ z, z ∈ D → z ∈ E) : Ovr E := by
  rcases h with h | ⟨x, h1, h2⟩
  · exact Or.inl (Nat.lt_of_lt_of_le h (hD.length_le_of_subset hs))
  · exact Or.inr ⟨x, hs x h1, h2⟩

/-- S is the set of a subtree whose candidates are L. -/
def CutR (L S : List (List Int)) : Prop := ∃ D, LAsc D ∧ (∀ z, z ∈ D ↔ z ∈ L) ∧ ((Ovr D ∧ S = [[256]]) ∨ (¬ Ovr D ∧ S = D))
theorem CutR.uniq {L S S' : List (List Int)} (h : CutR L S) (k : CutR L S') : S = S' := by
  obtain ⟨D, h1, h2, h3⟩ := h
  obtain ⟨E, k1, k2, k3⟩ := k
  obtain rfl := lasc_uniq h1 k1 (fun z => (h2 z).trans (k2 z).symm)
  rcases h3 with ⟨h3, rfl⟩ | ⟨h3, rfl⟩ <;> rcases k3 with ⟨k3, rfl⟩ | ⟨k3, rfl⟩
  · rfl
  · exact absurd h3 k3
  · exact absurd k3 h3
  · rfl
theorem CutR.same {L L' S : List (List Int)} (h : CutR L S) (hm : ∀ z, z ∈ L ↔ z ∈ L') : CutR L' S := by
  obtain ⟨D, h1, h2, h3⟩ := h
  exact ⟨D, h1, fun z => (h2 z).trans (hm z), h3⟩
theorem CutR.lasc {L S : List (List Int)} (h : CutR L S) : LAsc S := by
  obtain ⟨D, h1, h2, ⟨h3, rfl⟩ | ⟨h3, rfl⟩⟩ := h
  · exact List.pairwise_singleton _ _
  · exact h1
theorem CutR.small {L S : List (List Int)} (h : CutR L S) : S.length ≤ 50 ∧ ∀ x, x ∈ S → x.length ≤ 60 := by
  obtain ⟨D, h1, h2, ⟨h3, rfl⟩ | ⟨h3, rfl⟩⟩ := h
  · exact ⟨by decide, by simp⟩
  · exact ⟨Nat.le_of_not_lt (fun h => h3 (Or.inl h)), fun x hx => Nat.le_of_not_lt (fun h => h3 (Or.inr ⟨x, hx, h⟩))⟩

/-- The program's set behind the candidates L; c: whether a limit has closed it. -/
def AddS (L S : List (List Int)) (c : Bool) : Prop := ∃ D, LAsc D ∧ (∀ z, z ∈ D ↔ z ∈ L) ∧ ((c = true ∧ Ovr D ∧ S = [[256]]) ∨ (c = false ∧ ¬ Ovr D ∧ S = D))
theorem AddS.nil : AddS [] [] false := ⟨[], List.Pairwise.nil, by simp, Or.inr ⟨rfl, fun h => by rcases h with h | ⟨x, h, -⟩ <;> simp at h, rfl⟩⟩
theorem AddS.cut {L S : List (List Int)} {c : Bool} (h : AddS L S c) : CutR L S := by
  obtain ⟨D, h1, h2, h3⟩ := h
  exact ⟨D, h1, h2, h3.imp (fun h => h.2) (fun h => h.2)⟩
theorem AddS.same {L L' S : List (List Int)} {c : Bool} (h : AddS L S c) (hm : ∀ z, z ∈ L ↔ z ∈ L') : AddS L' S c := by
  obtain ⟨D, h1, h2, h3⟩ := h
  exact ⟨D, h1, fun z => (h2 z).trans (hm z), h3⟩
theorem AddS.more {L S : List (List Int)} (h : AddS L S true) (M : List (List Int)) : AddS (L ++ M) S true := by
  obtain ⟨D, h1, h2, h3⟩ := h
  rcases h3 with ⟨-, h4, rfl⟩ | ⟨h, -⟩
  · obtain ⟨E, k1, k2⟩ := lasc_of (L ++ M)
    exact ⟨E, k1, k2, Or.inl ⟨rfl, h4.mono h1.nodup (fun z hz => (k2 z).2 (List.mem_append_left _ ((h2 z).1 hz))), rfl⟩⟩
  · cases h
theorem AddS.known {L S : List (List Int)} {x : List Int} (h : AddS L S false) (hx : x ∈ S) : AddS (L ++ [x]) S false := by
  obtain ⟨D, h1, h2, h3⟩ := h
  rcases h3 with ⟨h, -⟩ | ⟨-, h4, rfl⟩
  · cases h
  · exact ⟨S, h1, fun z => by
      rw [List.mem_append, List.mem_singleton, ← h2]
      exact ⟨Or.inl, fun h => h.elim id (fun e => by rw [e]; exact hx)⟩, Or.inr ⟨rfl, h4, rfl⟩⟩
theorem AddS.over {L S : List (List Int)} {x : List Int} (h : AddS L S false) (hx : x ∉ S) (ho : 60 < x.length ∨ S.length = 50) : AddS (L ++ [x]) [[256]] true := by
  obtain ⟨D, h1, h2, h3⟩ := h
  rcases h3 with ⟨h, -⟩ | ⟨-, h4, rfl⟩
  · cases h
  · obtain ⟨E, k1, k2⟩ := lasc_of (L ++ [x])
    refine ⟨E, k1, k2, Or.inl ⟨rfl, ?_, rfl⟩⟩
    rcases ho with ho | ho
    · exact Or.inr ⟨x, (k2 x).2 (by simp), ho⟩
    · refine Or.inl ?_
      have hn : (x :: S).Nodup := List.nodup_cons.2 ⟨hx, h1.nodup⟩
      have := hn.length_le_of_subset (l₂ := E) (fun z hz => (k2 z).2 (by
        rcases List.mem_cons.1 hz with rfl | hz
        · simp
        · exact List.mem_append_left _ ((h2 z).1 hz)))
      simp at this
      omega
theorem AddS.ins {L S S' : List (List Int)} {x : List Int} (h : AddS L S false) (hl : x.length ≤ 60) (hn : S.length < 50) (hS : LAsc S') (hlen : S'.length = S.length + 1) (hm : ∀ z, z ∈ S' ↔ z ∈ S ∨ z = x) : AddS (L ++ [x]) S' false := by
  obtain ⟨D, h1, h2, h3⟩ := h
  rcases h3 with ⟨h, -⟩ | ⟨-, h4, rfl⟩
  · cases h
  · refine ⟨S', hS, fun z => by rw [hm, List.mem_append, List.mem_singleton, h2], Or.inr ⟨rfl, fun h => ?_, rfl⟩⟩
    rcases h with h | ⟨y, hy, hy2⟩
    · omega
    · rcases (hm y).1 hy with hy | rfl
      · exact h4 (Or.inr ⟨y, hy, hy2⟩)
      · omega

/-- The model's list behind the candidates L. -/
structure OutS (L out : List (List Int)) : Prop where
  nodup : out.Nodup
  sub : ∀ z, z ∈ out → z ∈ L
  len : out.length ≤ 51
  all : out.length ≤ 50 → ∀ z, z ∈ L → z ∈ out
theorem OutS.nil : OutS [] [] := ⟨List.Pairwise.nil, by simp, by simp, by simp⟩
theorem OutS.full {L out : List (List Int)} (h : OutS L out) (hf : 50 < out.length) (x : List Int) : OutS (L ++ [x]) out := ⟨h.nodup, fun z hz => List.mem_append_left _ (h.sub z hz), h.len, fun h => by omega⟩
theorem OutS.known {L out : List (List Int)} {x : List Int} (h : OutS L out) (hx : x ∈ out) : OutS (L ++ [x]) out := ⟨h.nodup, fun z hz => List.mem_append_left _ (h.sub z hz), h.len, fun h5 z hz => by
  rcases List.mem_append.1 hz with hz | hz
  · exact h.all h5 z hz
  · rw [List.mem_singleton.1 hz]; exact hx⟩
theorem OutS.new {L out : List (List Int)} {x : List Int} (h : OutS L out) (hl : out.length ≤ 50) (hx : x ∉ out) : OutS (L ++ [x]) (out ++ [x]) := ⟨List.nodup_append.2 ⟨h.nodup, List.pairwise_singleton _ _, fun a ha b hb e => by rw [List.mem_singleton.1 hb] at e; rw [e] at ha; exact hx ha⟩, fun z hz => by
  rcases List.mem_append.1 hz with hz | hz
  · exact List.mem_append_left _ (h.sub z hz)
  · exact List.mem_append_right _ hz, by simp; omega, fun _ z hz => by
  rcases List.mem_append.1 hz with hz | hz
  · exact List.mem_append_left _ (h.all hl z hz)
  · exact List.mem_append_right _ hz⟩
theorem OutS.gap {L out : List (List Int)} (h : OutS L out) (ho : Ovr out) : CutR L [[256]] := by
  obtain ⟨D, h1, h2⟩ := lasc_of L
  exact ⟨D, h1, h2, Or.inl ⟨ho.mono h.nodup (fun z hz => (h2 z).2 (h.sub z hz)), rfl⟩⟩
theorem OutS.fit {L out : List (List Int)} (h : OutS L out) (ho : ¬ Ovr out) : ∃ S, CutR L S ∧ out.Perm S := by
  obtain ⟨D, h1, h2⟩ := lasc_of L
  have hl : out.length ≤ 50 := Nat.le_of_not_lt (fun h => ho (Or.inl h))
  have hp : out.Perm D := (List.perm_ext_iff_of_nodup h.nodup h1.nodup).2 (fun z => ⟨fun hz => (h2 z).2 (h.sub z hz), fun hz => h.all hl z ((h2 z).1 hz)⟩)
  refine ⟨D, ⟨D, h1, h2, Or.inr ⟨fun h5 => ho ?_, rfl⟩⟩, hp⟩
  exact h5.mono h1.nodup (fun z hz => hp.mem_iff.2 hz)

end Go.Proofs.Ytjoaapoppcibdaa
