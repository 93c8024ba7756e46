import Derived.Test.YtfjnhmgmcldidaaO2
import Derived.Test.YtfjnhmgmcldidaaT3
namespace Go.Proofs.Ytfjnhmgmcldidaa
open Go.RowKit

theorem asc_le {xs : List Int} (h : Asc xs) {i j : Nat} (hij : i ≤ j) (hj : j < xs.length) : xs[i]?.getD 0 ≤ xs[j]?.getD 0 := by
  by_cases e : i = j
  · subst e; exact Int.le_refl _
  · exact Int.le_of_lt (asc_get h (by omega) hj)

set_option maxHeartbeats 1000000 in
set_option maxRecDepth 100000 in
theorem l3found_any (v : Value) (xs : List Int) (z : Int) (w : World) (hv : SlAt mI 0 0 w.heap.size w v xs) (ha : Asc xs) (hl : xs.length ≤ 1048576) :
    Calls Try.prog 37 #[v, .int .i64 z] w fun e w' => RetB e (z ∈ xs) ∧ w' = w := by
  obtain ⟨a, cap, rfl, hml, hc⟩ := hv
  go_enter Try.func37, Try.ntmps37
  go_wp2_with fail
  go_loop [5, 6] (fun lo hi => ∃ l h : Nat, l ≤ h ∧ h ≤ xs.length ∧ lo = .int .i64 l ∧ hi = .int .i64 h ∧ (∀ k : Nat, k < l → xs[k]?.getD 0 < z) ∧ ∀ k : Nat, h ≤ k → k < xs.length → z < xs[k]?.getD 0) (fun lo hi => (intOf hi).toNat - (intOf lo).toNat)
  case atStart => exact ⟨0, xs.length, Nat.zero_le _, Nat.le_refl _, rfl, rfl, fun k hk => absurd hk (Nat.not_lt_zero _), fun k h1 h2 => absurd h2 (by omega)⟩
  case round =>
    obtain ⟨l, h, hlh, hh, rfl, rfl, hlow, hhigh⟩ := hrel
    have Hlow := hide hlow
    have Hhigh := hide hhigh
    clear hlow hhigh
    by_cases hlt : l < h
    · have hlt' : (l : Int) < (h : Int) := by omega
      obtain ⟨b, off, rfl, -, hbn, hcell⟩ := hc (by omega)
      have hx : w.cell? ⟨b, off + (l + h) / 2, none⟩ = some (.int .i64 (xs[(l + h) / 2]?.getD 0)) := hcell _ (by omega)
      have hm1 : l ≤ (l + h) / 2 := by omega
      have hm2 : (l + h) / 2 < h := by omega
      have hm3 : (l + h) / 2 < xs.length := by omega
      have hin : Hid (xs[(l + h) / 2]?.getD 0 ∈ xs) := mem_get.2 ⟨_, hm3, rfl⟩
      have hL : Hid (xs[(l + h) / 2]?.getD 0 < z → ∀ k : Nat, k < (l + h) / 2 + 1 → xs[k]?.getD 0 < z) := fun hlt k hk => Int.lt_of_le_of_lt (asc_le ha (by omega) hm3) hlt
      have hH : Hid (z < xs[(l + h) / 2]?.getD 0 → ∀ k : Nat, (l + h) / 2 ≤ k → k < xs.length → z < xs[k]?.getD 0) := fun hlt k h1 h2 => Int.lt_of_lt_of_le hlt (asc_le ha h1 h2)
      clear hcell hc
      generalize xs[(l + h) / 2]?.getD 0 = x at *
      generalize hM : (l + h) / 2 = m at *
      have hmI : ((l : Int) + (h : Int)) / 2 = (m : Int) := by omega
      have hm4 : (m : Int) < (xs.length : Int) := by omega
      clear hM
      by_cases g1 : x = z
      · subst g1
        go_wp2
        go_ret
        exact ⟨RetB.yes (unhide hin), rfl⟩
      · have g1' : (x == z) = false := by simp [g1]
        by_cases g2 : x < z
        · go_wp2
          go_round
          case rel => exact ⟨m + 1, h, by omega, by omega, by go_num, rfl, unhide hL g2, unhide Hhigh⟩
          case measure => simp [intOf]; omega
        · go_wp2
          go_round
          case rel => exact ⟨l, m, by omega, by omega, rfl, by rw [hmI], unhide Hlow, unhide hH (by omega)⟩
          case measure => simp [intOf]; omega
    · obtain rfl : l = h := by omega
      go_wp2
      go_ret
      exact ⟨RetB.no (fun hz => by
        obtain ⟨k, hk, e⟩ := mem_get.1 hz
        by_cases h1 : k < l
        · have := unhide Hlow k h1; omega
        · have := unhide Hhigh k (by omega) hk; omega), rfl⟩

/-- What a query is true of. -/
def EvalP (xss : List (List Int)) (ts : List Int) : Prop := ∃ k : Nat, k < xss.length ∧ ∀ z, z ∈ xss[k]?.getD [] → z ∈ ts

end Go.Proofs.Ytfjnhmgmcldidaa
