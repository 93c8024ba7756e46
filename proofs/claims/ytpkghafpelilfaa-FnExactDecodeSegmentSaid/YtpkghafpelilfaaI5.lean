import Derived.Test.YtpkghafpelilfaaI2
namespace Go.Proofs.Ytpkghafpelilfaa
open Go.RowKit

/-- No line holds a newline. -/
def Plain (xss : List (List Int)) : Prop := ∀ i : Nat, i < xss.length → ∀ j : Nat, j < (xss[i]?.getD []).length → (xss[i]?.getD [])[j]?.getD 0 ≠ 10
/-- What a segment can be built of. -/
def Fits (base : Int) (xss : List (List Int)) : Prop := 0 ≤ base ∧ 1 ≤ xss.length ∧ base + xss.length ≤ 1000 ∧ Plain xss ∧ tot xss ≤ 20000

theorem l4bytes_any (v : Value) (xss : List (List Int)) (w : World) (hv : SsAt mB 0 w.heap.size w v xss) (hT : tot xss ≤ 1048576) (hL : xss.length ≤ 1048576) :
    Calls Try.prog 56 #[v] w fun e w' => e = .returned (.int .i64 (tot xss)) ∧ w' = w := by
  obtain ⟨a, cap, rfl, hl, hc⟩ := hv
  unfold maxLen at hl
  go_enter Try.func56, Try.ntmps56
  go_wp2
  go_loop [3, 4] (fun n i => ∃ k : Nat, k ≤ xss.length ∧ i = .int .i64 k ∧ n = .int .i64 (tot (xss.take k))) (fun _ i => xss.length - (intOf i).toNat)
  case atStart => exact ⟨0, Nat.zero_le _, rfl, by simp [tot]⟩
  case round =>
    obtain ⟨k, hk, rfl, rfl⟩ := hrel
    by_cases hlt : k < xss.length
    · obtain ⟨b, off, rfl, hbn, hcell⟩ := hc (by omega)
      obtain ⟨s, hx, hs, -⟩ := hcell k hlt
      obtain ⟨sa, sc, rfl, hsl, -⟩ := hs
      have hlt' : (k : Int) < (xss.length : Int) := by omega
      have HB := hide (tot_step xss k hlt)
      have ht := tot_take xss k
      have ht2 := tot_get xss k
      have ht3 := tot_take xss (k + 1)
      clear hcell hc
      generalize xss[k]?.getD [] = x at *
      go_wp2
      go_round
      case rel => exact ⟨k + 1, by omega, by go_num, by rw [unhide HB]; simp⟩
      case measure => simp [intOf]; omega
    · obtain rfl : k = xss.length := by omega
      go_wp2
      go_ret
      exact ⟨rfl, rfl⟩

set_option maxHeartbeats 1000000 in
theorem l4plain_any (v : Value) (xss : List (List Int)) (w : World) (hv : SsAt mB 0 w.heap.size w v xss) (hT : tot xss ≤ 1048576) (hL : xss.length ≤ 1048576) :
    Calls Try.prog 55 #[v] w fun e w' => RetB e (Plain xss) ∧ ∃ q, w' = w.drewN q := by
  obtain ⟨a, cap, rfl, hl, hc⟩ := hv
  unfold maxLen at hl
  go_enter Try.func55, Try.ntmps55
  go_wp2
  go_loopw [3] (fun i wr => (∃ k : Nat, k ≤ xss.length ∧ i = .int .i64 k ∧ ∀ i : Nat, i < k → ∀ j : Nat, j < (xss[i]?.getD []).length → (xss[i]?.getD [])[j]?.getD 0 ≠ 10) ∧ ∃ q, wr = w.drewN q) (fun i _ => xss.length - (intOf i).toNat)
  case atStart => exact ⟨⟨0, Nat.zero_le _, rfl, fun i hi => absurd hi (Nat.not_lt_zero _)⟩, 0, rfl⟩
  case round =>
    obtain ⟨⟨k, hk, rfl, hp⟩, q, rfl⟩ := hrel
    have Hp := hide hp
    clear hp
    by_cases hlt : k < xss.length
    · obtain ⟨b, off, rfl, hbn, hcell⟩ := hc (by omega)
      obtain ⟨s, hx, hs, -⟩ := hcell k hlt
      obtain ⟨sa, sc, rfl, hsl, hsc⟩ := hs
      have hlt' : (k : Int) < (xss.length : Int) := by omega
      have ht2 := tot_get xss k
      have Hno : Hid ((∃ j, j < (xss[k]?.getD []).length ∧ (xss[k]?.getD [])[j]?.getD 0 = 10) → ¬ Plain xss) := fun ⟨j, hj, e⟩ hpl => hpl k hlt j hj e
      have Hyes : Hid ((∀ j, j < (xss[k]?.getD []).length → (xss[k]?.getD [])[j]?.getD 0 ≠ 10) → ∀ i : Nat, i < k + 1 → ∀ j : Nat, j < (xss[i]?.getD []).length → (xss[i]?.getD [])[j]?.getD 0 ≠ 10) := fun h i hi => by
        by_cases e : i = k
        · subst e; exact h
        · exact unhide Hp i (by omega)
      clear hcell hc Hp
      generalize xss[k]?.getD [] = x at *
      go_wp2
      obtain ⟨V, hV⟩ : ∃ V, V = w.drewN q := ⟨_, rfl⟩
      go_loopw [4] (fun i wr => (∃ m : Nat, m ≤ x.length ∧ i = .int .i64 m ∧ ∀ j : Nat, j < m → x[j]?.getD 0 ≠ 10) ∧ ∃ q, wr = w.drewN q) (fun i _ => x.length - (intOf i).toNat)
      case atStart => exact ⟨⟨0, Nat.zero_le _, rfl, fun i hi => absurd hi (Nat.not_lt_zero _)⟩, q, rfl⟩
      case round =>
        obtain ⟨⟨m, hm, rfl, hp⟩, q2, rfl⟩ := hrel
        have Hp := hide hp
        clear hp
        by_cases hlt2 : m < x.length
        · have hlt2' : (m : Int) < (x.length : Int) := by omega
          obtain ⟨b2, off2, rfl, -, -, hcell2⟩ := hsc (by omega)
          have hx2 := hcell2 m hlt2
          unfold mB at hx2
          clear hcell2 hsc
          by_cases h10 : x[m]?.getD 0 = 10
          · have HN := hide (unhide Hno ⟨m, hlt2, h10⟩)
            rw [h10] at hx2
            go_wp2
            go_ret
            exact ⟨RetB.no (unhide HN), _, rfl⟩
          · have HN : Hid (∀ j : Nat, j < m + 1 → x[j]?.getD 0 ≠ 10) := fun j hj => by
              by_cases e : j = m
              · subst e; exact h10
              · exact unhide Hp j (by omega)
            generalize x[m]?.getD 0 = u at *
            go_wp2
            go_roundw
            case rel => exact ⟨⟨m + 1, by omega, by go_num, unhide HN⟩, _, rfl⟩
            case measure => simp [intOf]; omega
        · obtain rfl : m = x.length := by omega
          have HN := hide (unhide Hyes (unhide Hp))
          go_wp2
          exact ⟨⟨⟨k + 1, by omega, by go_num, unhide HN⟩, _, rfl⟩, by simp [intOf]; omega⟩
    · obtain rfl : k = xss.length := by omega
      go_wp2
      go_ret
      exact ⟨RetB.yes (unhide Hp), _, rfl⟩

theorem l4fits_any (base : Int) (v : Value) (xss : List (List Int)) (w : World) (hv : SsAt mB 0 w.heap.size w v xss) (hT : tot xss ≤ 1048576) (hL : xss.length ≤ 1048576) (hb0 : -9223372036854775808 ≤ base) (hb1 : base ≤ 9223372036854775807) :
    Calls Try.prog 35 #[.int .i64 base, v] w fun e w' => RetB e (Fits base xss) ∧ ∃ q, w' = w.drewN q := by
  have Hv := hide hv
  obtain ⟨a, cap, rfl, -, -⟩ := hv
  by_cases h1 : base < 0 ∨ 1000 < base ∨ xss.length < 1
  · have HN : Hid (¬ Fits base xss) := fun h => by obtain ⟨q1, q2, q3, -⟩ := h; omega
    go_enter Try.func35, Try.ntmps35
    rcases h1 with h1 | h1 | h1
    · go_wp2
      go_ret
      exact ⟨RetB.no (unhide HN), 0, rfl⟩
    · have h0 : ¬ base < 0 := by omega
      go_wp2
      go_ret
      exact ⟨RetB.no (unhide HN), 0, rfl⟩
    · have h1' : (xss.length : Int) < 1 := by omega
      by_cases g0 : base < 0
      · go_wp2
        go_ret
        exact ⟨RetB.no (unhide HN), 0, rfl⟩
      · by_cases g1 : 1000 < base
        · go_wp2
          go_ret
          exact ⟨RetB.no (unhide HN), 0, rfl⟩
        · go_wp2
          go_ret
          exact ⟨RetB.no (unhide HN), 0, rfl⟩
  · have g0 : ¬ base < 0 := by omega
    have g1 : ¬ 1000 < base := by omega
    have g2 : ¬ (xss.length : Int) < 1 := by omega
    clear h1
    by_cases g3 : 1000 < base + (xss.length : Int)
    · have HN : Hid (¬ Fits base xss) := fun h => by obtain ⟨q1, q2, q3, -⟩ := h; omega
      go_enter Try.func35, Try.ntmps35
      go_wp2
      go_ret
      exact ⟨RetB.no (unhide HN), 0, rfl⟩
    · go_enter Try.func35, Try.ntmps35
      go_wp2_with fail
      refine (l4plain_any _ xss _ (unhide Hv) hT hL).mono ?_
      rintro e w1 ⟨hr, q1, rfl⟩
      rcases hr.cases with ⟨rfl, hm⟩ | ⟨rfl, hm⟩
      · have Hm := hide hm
        clear hm hr
        go_wp2_with fail
        refine (l4bytes_any _ xss _ (by exact unhide Hv) hT hL).mono ?_
        rintro e w2 ⟨rfl, rfl⟩
        go_wp2
        go_ret
        exact ⟨RetB.of (by simp only [decide_eq_true_eq]; exact ⟨fun h => ⟨by omega, by omega, by omega, unhide Hm, by omega⟩, fun h => by obtain ⟨_, _, _, _, h5⟩ := h; omega⟩), _, rfl⟩
      · have HN : Hid (¬ Fits base xss) := fun h => by obtain ⟨_, _, _, q4, -⟩ := h; exact hm q4
        clear hm hr
        go_wp2
        go_ret
        exact ⟨RetB.no (unhide HN), _, rfl⟩

end Go.Proofs.Ytpkghafpelilfaa
