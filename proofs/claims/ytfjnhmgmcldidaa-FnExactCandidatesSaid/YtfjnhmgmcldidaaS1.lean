import Derived.Test.YtfjnhmgmcldidaaS0
namespace Go.Proofs.Ytfjnhmgmcldidaa
open Go.RowKit

set_option maxHeartbeats 400000 in
theorem markIntS_any (v : Value) (xs : List Int) (k : Int) (lo n : Nat) (w : World) (hv : SlW mI 0 lo n w v xs) (k0 : 0 ≤ k) (k1 : k ≤ 4611686018427387904) (hlen : xs.length ≤ 4194304) :
    Calls Try.prog 15 #[v, .int .i64 k] w fun e w' => e = .returned (.int .i64 (k + xs.length)) ∧ SlW mI 0 lo n w' v (cnts k xs.length) ∧ Chg lo n w w' := by
  obtain ⟨a, cap, rfl, hl, hc⟩ := hv
  go_enter Try.func15, Try.ntmps15
  go_wp2
  go_loopw [1, 5] (fun q i wr => ∃ m : Nat, m ≤ xs.length ∧ i = .int .i64 m ∧ q = .int .i64 (k + m) ∧ (0 < xs.length → ∃ b off, a = some ⟨b, off, none⟩ ∧ lo ≤ b ∧ b < n ∧ (∃ c t, wr.heap[b]? = some (.cells c t (0, 0))) ∧
    (∀ j : Nat, j < m → wr.cell? ⟨b, off + j, none⟩ = some (.int .i64 (k + j))) ∧ ∀ j : Nat, m ≤ j → j < xs.length → ∃ u, wr.cell? ⟨b, off + j, none⟩ = some u) ∧ Chg lo n w wr) (fun _ i _ => xs.length - (intOf i).toNat)
  case atStart =>
    refine ⟨0, Nat.zero_le _, rfl, by simp, fun hp => ?_, Chg.refl _ _ _⟩
    obtain ⟨b, off, e, h1, h2, h3, hcell⟩ := hc hp
    exact ⟨b, off, e, h1, h2, h3, fun j hj => absurd hj (Nat.not_lt_zero _), fun j _ hj => ⟨_, hcell j hj⟩⟩
  case round =>
    obtain ⟨m, hm, rfl, rfl, hrow, hch⟩ := hrel
    by_cases hlt : m < xs.length
    · obtain ⟨b, off, rfl, h1, h2, h3, hold, hnew⟩ := hrow (by omega)
      obtain ⟨u, hu⟩ := hnew m (Nat.le_refl _) hlt
      have hf := frz (j := off + m) h3
      have hlt' : (m : Int) < (xs.length : Int) := by omega
      have H3 := hide h3
      have Hold := hide hold
      have Hnew := hide hnew
      clear h3 hold hnew hc
      go_wp2
      refine ⟨⟨m + 1, by omega, by go_num, by congr 1; omega, fun _ => ⟨b, off, rfl, h1, h2, own_put (unhide H3), fun j hj => ?_, fun j hj1 hj2 => ?_⟩, hch.put h1 h2 _⟩, by simp [intOf]; omega⟩
      · by_cases e : j = m
        · subst e
          exact put_same hu
        · rw [put_other (Or.inr (by omega))]
          exact unhide Hold j (by omega)
      · rw [put_other (Or.inr (by omega))]
        exact unhide Hnew j (by omega) hj2
    · obtain rfl : m = xs.length := by omega
      have Hrow := hide hrow
      clear hrow hc
      go_wp2
      go_ret
      refine ⟨rfl, ⟨a, cap, by rw [cnts_len], by rw [cnts_len]; exact hl, fun hp => ?_⟩, hch⟩
      rw [cnts_len] at hp
      obtain ⟨b, off, e, h1, h2, h3, hold, -⟩ := unhide Hrow hp
      refine ⟨b, off, e, h1, h2, h3, fun i hi => ?_⟩
      rw [cnts_len] at hi
      rw [hold i hi, cnts_get k _ i hi]
      rfl

set_option maxHeartbeats 400000 in
theorem heldIntS_any (v : Value) (n : Nat) (k : Int) (lo hi : Nat) (w : World) (hv : SlAt mI 0 lo hi w v (cnts k n)) (k0 : 0 ≤ k) (k1 : k ≤ 4611686018427387904) (hlen : n ≤ 4194304) :
    Calls Try.prog 16 #[v, .int .i64 k] w fun e w' => e = .returned (.int .i64 (k + n)) ∧ w' = w := by
  obtain ⟨a, cap, rfl, hl, hc⟩ := hv
  rw [cnts_len] at hl hc ⊢
  go_enter Try.func16, Try.ntmps16
  go_wp2
  go_loop [1, 5] (fun q i => ∃ m : Nat, m ≤ n ∧ i = .int .i64 m ∧ q = .int .i64 (k + m)) (fun _ i => n - (intOf i).toNat)
  case atStart => exact ⟨0, Nat.zero_le _, rfl, by simp⟩
  case round =>
    obtain ⟨m, hm, rfl, rfl⟩ := hrel
    by_cases hlt : m < n
    · obtain ⟨b, off, rfl, -, -, hcell⟩ := hc (by omega)
      have hx := hcell m hlt
      rw [cnts_get k n m hlt] at hx
      unfold mI at hx
      have hlt' : (m : Int) < (n : Int) := by omega
      clear hcell hc
      go_wp2
      go_round
      case rel => exact ⟨m + 1, by omega, by go_num, by congr 1; omega⟩
      case measure => simp [intOf]; omega
    · obtain rfl : m = n := by omega
      clear hc
      go_wp2
      go_ret
      exact ⟨rfl, rfl⟩

end Go.Proofs.Ytfjnhmgmcldidaa
