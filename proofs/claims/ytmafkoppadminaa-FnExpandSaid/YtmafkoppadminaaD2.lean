import Derived.Test.YtmafkoppadminaaD1
import Derived.RegionTactic
import Derived.BigRegion
namespace Go.Proofs.Ytmafkoppadminaa
open Go.RowKit
set_option maxHeartbeats 1000000 in
theorem validElement_any (v : Value) (x : El) (w : World) (hv : IntsAt 0 w.heap.size w v x.set) :
    Calls Try.prog 27 #[.agg #[.int .i64 x.kind, v, .int .i64 x.mn, .int .i64 x.mx]] w fun e w' => RetB e (ElOk x) ∧ Below w.heap.size w w' := by
  obtain ⟨a, cap, rfl, hl, -, -⟩ := id hv
  unfold maxLen at hl
  obtain ⟨k, xs, mn, mx⟩ := x
  simp only at *
  have Hv := hide hv
  clear hv
  by_cases h1 : k = 1
  · subst h1
    go_enter Try.func27, Try.ntmps27
    go_wp2_with fail
    refine (canonical_any _ xs _ (by exact (unhide Hv).below (below1 w _) (Nat.le_refl _))).mono ?_
    rintro e w1 ⟨hret, hb1⟩
    obtain ⟨hc1, hf1⟩ := bcell hb1
    simp only [sz_alloc] at hc1 hf1
    have hB : Below w.heap.size w w1 := (below1 w _).trans (hb1.mono (by rw [sz_alloc]; omega))
    clear hb1
    rcases hret.cases with ⟨rfl, hcn⟩ | ⟨rfl, hcn⟩
    · have Hcn := hide hcn
      clear hcn
      by_cases h2 : mn = 0
      · by_cases h3 : mx = 0
        · go_wp2
          go_ret
          exact ⟨RetB.yes (Or.inl ⟨rfl, unhide Hcn, h2, h3⟩), hB⟩
        · have h3' : (mx == 0) = false := by simp [h3]
          go_wp2
          go_ret
          exact ⟨RetB.no (by rintro (⟨q1, q2, q3, q4⟩ | ⟨q1, q2, q3, q4⟩ | ⟨q1, q2, q3, q4, q5⟩) <;> simp only at * <;> omega), hB⟩
      · have h2' : (mn == 0) = false := by simp [h2]
        go_wp2
        go_ret
        exact ⟨RetB.no (by rintro (⟨q1, q2, q3, q4⟩ | ⟨q1, q2, q3, q4⟩ | ⟨q1, q2, q3, q4, q5⟩) <;> simp only at * <;> omega), hB⟩
    · have Hcn := hide hcn
      clear hcn
      go_wp2
      go_ret
      exact ⟨RetB.no (by rintro (⟨q1, q2, q3, q4⟩ | ⟨q1, q2, q3, q4⟩ | ⟨q1, q2, q3, q4, q5⟩) <;> simp only at * <;> first | exact unhide Hcn q2 | omega), hB⟩
  · have b1 : (k == 1) = false := by simp [h1]
    by_cases h4 : k = 4
    · subst h4
      by_cases hlen : xs.length = 0
      · have hlen' : ((xs.length : Int) == 0) = true := by simp; exact List.eq_nil_of_length_eq_zero hlen
        have Hlen := hide hlen
        clear hlen
        go_enter Try.func27, Try.ntmps27
        go_wp2_with fail
        refine (validBounds_any mn mx _).mono ?_
        rintro e w1 ⟨hret, rfl⟩
        rcases hret.cases with ⟨rfl, hcn⟩ | ⟨rfl, hcn⟩
        · have Hcn := hide hcn
          clear hcn
          go_wp2
          go_ret
          exact ⟨RetB.yes (Or.inr (Or.inr ⟨rfl, unhide Hlen, unhide Hcn⟩)), below1 w _⟩
        · have Hcn := hide hcn
          clear hcn
          go_wp2
          go_ret
          exact ⟨RetB.no (by rintro (⟨q1, q2, q3, q4⟩ | ⟨q1, q2, q3, q4⟩ | ⟨q1, q2, q3⟩) <;> simp only at * <;> first | exact unhide Hcn q3 | omega), below1 w _⟩
      · have hlen' : ((xs.length : Int) == 0) = false := by simp; intro e; exact hlen (by rw [e]; rfl)
        go_enter Try.func27, Try.ntmps27
        go_wp2
        go_ret
        exact ⟨RetB.no (by rintro (⟨q1, q2, q3, q4⟩ | ⟨q1, q2, q3, q4⟩ | ⟨q1, q2, q3⟩) <;> simp only at * <;> omega), below1 w _⟩
    · have b4 : (k == 4) = false := by simp [h4]
      by_cases hk : k = 0 ∨ k = 2 ∨ k = 3
      · by_cases hlen : xs.length = 0
        · have hlen' : ((xs.length : Int) == 0) = true := by simp; exact List.eq_nil_of_length_eq_zero hlen
          have Hlen := hide hlen
          clear hlen h1 h4
          by_cases h2 : mn = 0
          · by_cases h3 : mx = 0
            · rcases hk with rfl | rfl | rfl
              all_goals
                go_enter Try.func27, Try.ntmps27
                go_wp2
                go_ret
                exact ⟨RetB.yes (Or.inr (Or.inl ⟨by simp, unhide Hlen, h2, h3⟩)), below1 w _⟩
            · have h3' : (mx == 0) = false := by simp [h3]
              rcases hk with rfl | rfl | rfl
              all_goals
                go_enter Try.func27, Try.ntmps27
                go_wp2
                go_ret
                exact ⟨RetB.no (by rintro (⟨q1, q2, q3, q4⟩ | ⟨q1, q2, q3, q4⟩ | ⟨q1, q2, q3, q4, q5⟩) <;> simp only at * <;> omega), below1 w _⟩
          · have h2' : (mn == 0) = false := by simp [h2]
            rcases hk with rfl | rfl | rfl
            all_goals
              go_enter Try.func27, Try.ntmps27
              go_wp2
              go_ret
              exact ⟨RetB.no (by rintro (⟨q1, q2, q3, q4⟩ | ⟨q1, q2, q3, q4⟩ | ⟨q1, q2, q3, q4, q5⟩) <;> simp only at * <;> omega), below1 w _⟩
        · have hlen' : ((xs.length : Int) == 0) = false := by simp; intro e; exact hlen (by rw [e]; rfl)
          clear h1 h4
          rcases hk with rfl | rfl | rfl
          all_goals
            go_enter Try.func27, Try.ntmps27
            go_wp2
            go_ret
            exact ⟨RetB.no (by rintro (⟨q1, q2, q3, q4⟩ | ⟨q1, q2, q3, q4⟩ | ⟨q1, q2, q3, q4, q5⟩) <;> simp only at * <;> omega), below1 w _⟩
      · have b0 : (k == 0) = false := by simp; omega
        have b2 : (k == 2) = false := by simp; omega
        have b3 : (k == 3) = false := by simp; omega
        go_enter Try.func27, Try.ntmps27
        go_wp2
        go_ret
        exact ⟨RetB.no (by rintro (⟨q1, q2, q3, q4⟩ | ⟨q1, q2, q3, q4⟩ | ⟨q1, q2, q3, q4, q5⟩) <;> simp only at * <;> omega), below1 w _⟩
end Go.Proofs.Ytmafkoppadminaa
