import Derived.Test.YtmhafibngbojcaaDoorP8
import Derived.Test.YtmhafibngbojcaaDoorO1
namespace Go.Proofs.YtmhafibngbojcaaDoor
open Go.RowKit

/-- The lexicographic comparison: -1, 0 or 1. -/
def lexc : List Int → List Int → Int
  | [], [] => 0
  | [], _ :: _ => -1
  | _ :: _, [] => 1
  | x :: xs, y :: ys => if x < y then -1 else if y < x then 1 else lexc xs ys

theorem lexc_vals : ∀ xs ys : List Int, lexc xs ys = -1 ∨ lexc xs ys = 0 ∨ lexc xs ys = 1
  | [], [] => by simp [lexc]
  | [], _ :: _ => by simp [lexc]
  | _ :: _, [] => by simp [lexc]
  | x :: xs, y :: ys => by
    simp only [lexc]
    split
    · simp
    · split
      · simp
      · exact lexc_vals xs ys
theorem lexc_zero : ∀ {xs ys : List Int}, lexc xs ys = 0 ↔ xs = ys
  | [], [] => by simp [lexc]
  | [], _ :: _ => by simp [lexc]
  | _ :: _, [] => by simp [lexc]
  | x :: xs, y :: ys => by
    simp only [lexc, List.cons.injEq]
    have ih := lexc_zero (xs := xs) (ys := ys)
    by_cases h1 : x < y
    · rw [if_pos h1]
      constructor
      · intro h; omega
      · rintro ⟨rfl, -⟩; omega
    · rw [if_neg h1]
      by_cases h2 : y < x
      · rw [if_pos h2]
        constructor
        · intro h; omega
        · rintro ⟨rfl, -⟩; omega
      · rw [if_neg h2, ih]
        constructor
        · intro h; exact ⟨by omega, h⟩
        · rintro ⟨-, h⟩; exact h
theorem lexc_swap : ∀ xs ys : List Int, lexc ys xs = - lexc xs ys
  | [], [] => by simp [lexc]
  | [], _ :: _ => by simp [lexc]
  | _ :: _, [] => by simp [lexc]
  | x :: xs, y :: ys => by
    simp only [lexc]
    have ih := lexc_swap xs ys
    by_cases h1 : x < y
    · rw [if_pos h1, if_neg (by omega), if_pos h1]
      rfl
    · by_cases h2 : y < x
      · rw [if_pos h2, if_neg h1, if_pos h2]
      · rw [if_neg h2, if_neg h1, if_neg h1, if_neg h2, ih]
theorem lexc_trans : ∀ {xs ys zs : List Int}, lexc xs ys < 0 → lexc ys zs < 0 → lexc xs zs < 0
  | [], [], _, h, _ => by simp [lexc] at h
  | _ :: _, [], _, h, _ => by simp [lexc] at h
  | _, _ :: _, [], _, h => by simp [lexc] at h
  | [], _ :: _, _ :: _, _, _ => by simp [lexc]
  | x :: xs, y :: ys, z :: zs, h1, h2 => by
    simp only [lexc] at h1 h2 ⊢
    have ih := lexc_trans (xs := xs) (ys := ys) (zs := zs)
    by_cases a1 : x < y
    · by_cases b1 : y < z
      · rw [if_pos (by omega)]; omega
      · rw [if_neg b1] at h2
        by_cases b2 : z < y
        · rw [if_pos b2] at h2; omega
        · rw [if_pos (by omega)]; omega
    · rw [if_neg a1] at h1
      by_cases a2 : y < x
      · rw [if_pos a2] at h1; omega
      · rw [if_neg a2] at h1
        by_cases b1 : y < z
        · rw [if_pos (by omega)]; omega
        · rw [if_neg b1] at h2
          by_cases b2 : z < y
          · rw [if_pos b2] at h2; omega
          · rw [if_neg b2] at h2
            rw [if_neg (by omega), if_neg (by omega)]
            exact ih h1 h2

theorem drop_cons {xs : List Int} {i : Nat} (h : i < xs.length) : xs.drop i = xs[i]?.getD 0 :: xs.drop (i + 1) := by
  rw [List.drop_eq_getElem_cons h]
  simp [h]
theorem drop_nil {xs : List Int} : xs.drop xs.length = [] := by simp

set_option maxHeartbeats 1000000 in
set_option maxRecDepth 100000 in
theorem l1same_any (u v : Value) (xs ys : List Int) (w : World) (hu : SlAt mI 0 0 w.heap.size w u xs) (hv : SlAt mI 0 0 w.heap.size w v ys) :
    Calls Tryd.prog 40 #[u, v] w fun e w' => RetB e (xs = ys) ∧ ∃ q, w' = w.drewN q := by
  obtain ⟨a, cap, rfl, hl, hc⟩ := hu
  obtain ⟨a2, cap2, rfl, hl2, hc2⟩ := hv
  unfold maxLen at hl hl2
  by_cases hn : xs.length = ys.length
  · have hn' : ((xs.length : Int) != (ys.length : Int)) = false := by simp [hn]
    have HN := hide hn
    have hle1 : xs.length ≤ ys.length := by omega
    have hle2 : ys.length ≤ xs.length := by omega
    clear hn
    go_enter Tryd.func40, Tryd.ntmps40
    go_wp2_with fail
    go_loopw [5] (fun i wr => (∃ k : Nat, k ≤ xs.length ∧ i = .int .i64 k ∧ ∀ j : Nat, j < k → xs[j]?.getD 0 = ys[j]?.getD 0) ∧ ∃ q, wr = w.drewN q) (fun i _ => xs.length - (intOf i).toNat)
    case atStart => exact ⟨⟨0, Nat.zero_le _, rfl, fun j hj => absurd hj (Nat.not_lt_zero _)⟩, 0, rfl⟩
    case round =>
      obtain ⟨⟨k, hk, rfl, he⟩, q, rfl⟩ := hrel
      have He := hide he
      clear he
      by_cases h1 : k < xs.length
      · have h1' : (k : Int) < (xs.length : Int) := by omega
        have h2' : (k : Int) < (ys.length : Int) := by omega
        obtain ⟨b, off, rfl, -, -, hcell⟩ := hc (by omega)
        obtain ⟨b2, off2, rfl, -, -, hcell2⟩ := hc2 (by omega)
        have hx : w.cell? ⟨b, off + k, none⟩ = some (.int .i64 (xs[k]?.getD 0)) := hcell k h1
        have hy : w.cell? ⟨b2, off2 + k, none⟩ = some (.int .i64 (ys[k]?.getD 0)) := hcell2 k (by omega)
        have Hst : Hid (xs[k]?.getD 0 = ys[k]?.getD 0 → ∀ j : Nat, j < k + 1 → xs[j]?.getD 0 = ys[j]?.getD 0) := fun h j hj => by
          by_cases e : j = k
          · subst e; exact h
          · exact unhide He j (by omega)
        have Hno : Hid (xs[k]?.getD 0 ≠ ys[k]?.getD 0 → xs ≠ ys) := fun h e => h (by rw [e])
        clear hcell hcell2 hc hc2 He
        generalize xs[k]?.getD 0 = x at *
        generalize ys[k]?.getD 0 = y at *
        by_cases g0 : x = y
        · subst g0
          have HQ := hide (unhide Hst rfl)
          clear Hst Hno
          go_wp2_with fail
          go_quiet (fail)
          go_wp2
          go_roundw
          case rel => exact ⟨⟨k + 1, by omega, by go_num, unhide HQ⟩, _, rfl⟩
          case measure => simp [intOf]; omega
        · have g0' : (x != y) = true := by simp [g0]
          have HQ := hide (unhide Hno g0)
          clear Hst Hno
          go_wp2_with fail
          go_quiet (fail)
          go_wp2
          go_ret
          exact ⟨RetB.no (unhide HQ), _, drew2 _ _ _⟩
      · obtain rfl : k = xs.length := by omega
        clear hc hc2
        have HQ : Hid (xs = ys) := by
          apply List.ext_getElem (unhide HN)
          intro i h1 h2
          have := unhide He i h1
          simpa [h1, h2] using this
        go_wp2
        go_ret
        exact ⟨RetB.yes (unhide HQ), _, rfl⟩
  · have hn' : ((xs.length : Int) != (ys.length : Int)) = true := by simp; omega
    clear hc hc2
    go_enter Tryd.func40, Tryd.ntmps40
    go_wp2
    go_ret
    exact ⟨RetB.no (fun h => hn (by rw [h])), 0, rfl⟩

end Go.Proofs.YtmhafibngbojcaaDoor
