import Derived.Test.YtinhliecfjlocaaGreatPk1
namespace Go.Proofs.YtinhliecfjlocaaGreat
open Go.RowKit
def ElOk (x : El) : Prop :=
  (x.kind = 1 ∧ Canon x.set ∧ x.mn = 0 ∧ x.mx = 0) ∨ ((x.kind = 0 ∨ x.kind = 2 ∨ x.kind = 3) ∧ x.set.length = 0 ∧ x.mn = 0 ∧ x.mx = 0) ∨
  (x.kind = 4 ∧ x.set.length = 0 ∧ 0 ≤ x.mn ∧ x.mn ≤ 250 ∧ (x.mx = -1 ∨ (x.mn ≤ x.mx ∧ x.mx ≤ 250)))
set_option maxHeartbeats 1000000 in
theorem l1opOK_any (v : Value) (x : El) (w : World) (hv : IntsAt 0 w.heap.size w v x.set) :
    Calls Tryz.prog 70 #[.agg #[.int .i64 x.kind, v, .int .i64 x.mn, .int .i64 x.mx]] w fun e w' => RetB e (ElOk x) ∧ Below w.heap.size w w' := by
  obtain ⟨a, cap, rfl, hl, -, -⟩ := id hv
  unfold maxLen at hl
  obtain ⟨k, xs, mn, mx⟩ := x
  simp only at *
  by_cases h1 : k = 1
  · subst h1
    go_enter Tryz.func70, Tryz.ntmps70
    go_wp2_with fail
    refine (l1canon_any _ xs _ (by exact hv.below (below1 w _) (Nat.le_refl _))).mono ?_
    rintro e w1 ⟨hret, hb1⟩
    obtain ⟨hc1, hf1⟩ := bcell hb1
    simp only [sz_alloc] at hc1 hf1
    have hB : Below w.heap.size w w1 := (below1 w _).trans (hb1.mono (by rw [sz_alloc]; omega))
    rcases hret.cases with ⟨rfl, hcn⟩ | ⟨rfl, hcn⟩
    · by_cases h2 : mn = 0
      · by_cases h3 : mx = 0
        · go_wp2
          go_ret
          exact ⟨RetB.yes (Or.inl ⟨rfl, hcn, h2, h3⟩), hB⟩
        · have h3' : (mx == 0) = false := by simp [h3]
          go_wp2
          go_ret
          exact ⟨RetB.no (by rintro (⟨q1, q2, q3, q4⟩ | ⟨q1, q2, q3, q4⟩ | ⟨q1, q2, q3, q4, q5⟩) <;> simp only at * <;> omega), hB⟩
      · go_wp2
        go_ret
        exact ⟨RetB.no (by rintro (⟨q1, q2, q3, q4⟩ | ⟨q1, q2, q3, q4⟩ | ⟨q1, q2, q3, q4, q5⟩) <;> simp only at * <;> omega), hB⟩
    · go_wp2
      go_ret
      exact ⟨RetB.no (by rintro (⟨q1, q2, q3, q4⟩ | ⟨q1, q2, q3, q4⟩ | ⟨q1, q2, q3, q4, q5⟩) <;> simp only at * <;> first | exact hcn q2 | omega), hB⟩
  · by_cases hk : k < 0 ∨ 4 < k
    · rcases hk with hk | hk
      · go_enter Tryz.func70, Tryz.ntmps70
        go_wp2
        go_ret
        exact ⟨RetB.no (by rintro (⟨q1, q2, q3, q4⟩ | ⟨q1, q2, q3, q4⟩ | ⟨q1, q2, q3, q4, q5⟩) <;> simp only at * <;> omega), below1 w _⟩
      · have hk2 : ¬ k < 0 := by omega
        go_enter Tryz.func70, Tryz.ntmps70
        go_wp2
        go_ret
        exact ⟨RetB.no (by rintro (⟨q1, q2, q3, q4⟩ | ⟨q1, q2, q3, q4⟩ | ⟨q1, q2, q3, q4, q5⟩) <;> simp only at * <;> omega), below1 w _⟩
    · by_cases hlen : xs.length = 0
      · have hlen' : ((xs.length : Int) != 0) = false := by simp; exact List.eq_nil_of_length_eq_zero hlen
        have Hlen := hide hlen
        clear hlen
        by_cases h4 : k = 4
        · subst h4
          by_cases c1 : mn < 0
          · go_enter Tryz.func70, Tryz.ntmps70
            go_wp2
            go_ret
            exact ⟨RetB.no (by rintro (⟨q1, q2, q3, q4⟩ | ⟨q1, q2, q3, q4⟩ | ⟨q1, q2, q3, q4, q5⟩) <;> simp only at * <;> omega), below1 w _⟩
          · by_cases c2 : 250 < mn
            · go_enter Tryz.func70, Tryz.ntmps70
              go_wp2
              go_ret
              exact ⟨RetB.no (by rintro (⟨q1, q2, q3, q4⟩ | ⟨q1, q2, q3, q4⟩ | ⟨q1, q2, q3, q4, q5⟩) <;> simp only at * <;> omega), below1 w _⟩
            · by_cases c3 : mx = -1
              · have c3' : (mx == -1) = true := by simp [c3]
                have C3 := hide c3
                clear c3
                go_enter Tryz.func70, Tryz.ntmps70
                go_wp2
                go_ret
                exact ⟨RetB.yes (Or.inr (Or.inr ⟨rfl, unhide Hlen, by simp only; omega, by simp only; omega, Or.inl (unhide C3)⟩)), below1 w _⟩
              · have c3' : (mx == -1) = false := by simp [c3]
                by_cases c4 : mn ≤ mx
                · by_cases c5 : mx ≤ 250
                  · go_enter Tryz.func70, Tryz.ntmps70
                    go_wp2
                    go_ret
                    exact ⟨RetB.yes (Or.inr (Or.inr ⟨rfl, unhide Hlen, by simp only; omega, by simp only; omega, Or.inr ⟨c4, c5⟩⟩)), below1 w _⟩
                  · go_enter Tryz.func70, Tryz.ntmps70
                    go_wp2
                    go_ret
                    exact ⟨RetB.no (by rintro (⟨q1, q2, q3, q4⟩ | ⟨q1, q2, q3, q4⟩ | ⟨q1, q2, q3, q4, q5⟩) <;> simp only at * <;> omega), below1 w _⟩
                · go_enter Tryz.func70, Tryz.ntmps70
                  go_wp2
                  go_ret
                  exact ⟨RetB.no (by rintro (⟨q1, q2, q3, q4⟩ | ⟨q1, q2, q3, q4⟩ | ⟨q1, q2, q3, q4, q5⟩) <;> simp only at * <;> omega), below1 w _⟩
        · have hk3 : k = 0 ∨ k = 2 ∨ k = 3 := by omega
          clear hk h4 h1
          by_cases h2 : mn = 0
          · by_cases h3 : mx = 0
            · rcases hk3 with rfl | rfl | rfl
              all_goals
                go_enter Tryz.func70, Tryz.ntmps70
                go_wp2
                go_ret
                exact ⟨RetB.yes (Or.inr (Or.inl ⟨by simp, unhide Hlen, h2, h3⟩)), below1 w _⟩
            · have h3' : (mx == 0) = false := by simp [h3]
              rcases hk3 with rfl | rfl | rfl
              all_goals
                go_enter Tryz.func70, Tryz.ntmps70
                go_wp2
                go_ret
                exact ⟨RetB.no (by rintro (⟨q1, q2, q3, q4⟩ | ⟨q1, q2, q3, q4⟩ | ⟨q1, q2, q3, q4, q5⟩) <;> simp only at * <;> omega), below1 w _⟩
          · rcases hk3 with rfl | rfl | rfl
            all_goals
              go_enter Tryz.func70, Tryz.ntmps70
              go_wp2
              go_ret
              exact ⟨RetB.no (by rintro (⟨q1, q2, q3, q4⟩ | ⟨q1, q2, q3, q4⟩ | ⟨q1, q2, q3, q4, q5⟩) <;> simp only at * <;> omega), below1 w _⟩
      · have hlen' : ((xs.length : Int) != 0) = true := by simp; intro e; exact hlen (by rw [e]; rfl)
        have hk0 : ¬ k < 0 := by omega
        have hk4 : ¬ 4 < k := by omega
        go_enter Tryz.func70, Tryz.ntmps70
        go_wp2
        go_ret
        exact ⟨RetB.no (by rintro (⟨q1, q2, q3, q4⟩ | ⟨q1, q2, q3, q4⟩ | ⟨q1, q2, q3, q4, q5⟩) <;> simp only at * <;> omega), below1 w _⟩
end Go.Proofs.YtinhliecfjlocaaGreat
