import Derived.Test.YtfjnhmgmcldidaaT1
import Derived.RangeFuncBox
namespace Go.Proofs.Ytfjnhmgmcldidaa
open Go.RowKit

set_option maxHeartbeats 1000000 in
set_option maxRecDepth 100000 in
theorem toQuery_w (v : Value) (xss : List (List Int)) (w : World) (hv : SsAt mI 0 w.heap.size w v xss) (hlen : xss.length ≤ 1048576) (hset : tot xss ≤ 1048576) :
    Calls Try.prog 8 #[.agg #[v]] w fun e w' => ∃ v', e = .returned (.agg #[v']) ∧ SsF mI 0 (Rng w.heap.size w'.heap.size) w' v' xss ∧ Below w.heap.size w w' := by
  have Hv := hide hv
  obtain ⟨a, cap, rfl, -, -⟩ := hv
  go_enter Try.func8, Try.ntmps8
  go_wp2_with fail
  have hb0 : Below w.heap.size w (((w.alloc (.cells #[.slice a xss.length cap] 28)).alloc (.cells #[.slice none 0 0] 34)).alloc (.cells #[.slice none 0 0] 34)) := below3 w _ _ _
  refine (toIntSS_w _ xss _ ((unhide Hv).below hb0 (Nat.le_refl _)) hlen hset).mono ?_
  rintro e w1 ⟨v1, rfl, hs1, hb1⟩
  have hz0 : (((w.alloc (.cells #[.slice a xss.length cap] 28)).alloc (.cells #[.slice none 0 0] 34)).alloc (.cells #[.slice none 0 0] 34)).heap.size = w.heap.size + 3 := by simp
  have x1 : Boxed w1 (w.heap.size + 1) 34 (.slice none 0 0) := (hb1.block _ (by rw [hz0]; omega)).trans (by
    have := ((Boxed.new (w.alloc (.cells #[.slice a xss.length cap] 28)) 34 (.slice none 0 0)).alloc (.cells #[.slice none 0 0] 34))
    rw [World.size_alloc] at this
    exact this)
  have x2 : Boxed w1 (w.heap.size + 1 + 1) 34 (.slice none 0 0) := (hb1.block _ (by rw [hz0]; omega)).trans (by
    have := (Boxed.new ((w.alloc (.cells #[.slice a xss.length cap] 28)).alloc (.cells #[.slice none 0 0] 34)) 34 (.slice none 0 0))
    rw [World.size_alloc, World.size_alloc] at this
    exact this)
  rw [hz0] at hs1 hb1
  have hz1 := hb1.size
  rw [hz0] at hz1
  have Hs1 := hide hs1
  obtain ⟨a1, c1, rfl, -⟩ := hs1
  have q1 := x1.cell
  have q2 := x2.cell
  have f1 := x1.frozen
  have f2 := x2.frozen
  clear x1 x2
  go_wp2
  refine bodyPost_ret (v := .agg #[.slice a1 xss.length c1]) (by simp [results, Try.results8, go_sem, q1]) rfl ⟨_, rfl, ?_, ?_⟩
  · simp only [sz_put]
    refine ((unhide Hs1).same (fun k hk => ?_)).mono (fun k hk => ?_)
    · unfold Rng at hk
      rw [Below.heap_setCell _ _ _ _ (by show k ≠ w.heap.size + 1; omega), Below.heap_setCell _ _ _ _ (by show k ≠ w.heap.size + 1 + 1; omega)]
    · unfold Rng at hk ⊢
      omega
  · exact bput (bput (hb0.trans (hb1.mono (by omega))) (by omega) _) (by omega) _

set_option maxHeartbeats 1000000 in
theorem szQuery_w (v : Value) (xss : List (List Int)) (left : Int) (w : World) (hv : SsAt mI 0 w.heap.size w v xss) (h0 : 0 ≤ left) (h1 : left ≤ 1048576) :
    Calls Try.prog 5 #[.agg #[v], .int .i64 left] w fun e w' => (∃ r : Int, e = .returned (.int .i64 r) ∧ (r = -1 ∨ (0 ≤ r ∧ r = left - xss.length - tot xss))) ∧ Below w.heap.size w w' := by
  have Hv := hide hv
  obtain ⟨a, cap, rfl, -, -⟩ := hv
  go_enter Try.func5, Try.ntmps5
  go_wp2_with fail
  refine (szIntSS_w _ xss left _ ((unhide Hv).below (below1 w _) (Nat.le_refl _)) h0 h1).mono ?_
  rintro e w1 ⟨⟨r, rfl, hr⟩, rfl⟩
  by_cases hn : r < 0
  · have hr' : r = -1 := by omega
    subst hr'
    go_wp2_with fail
    go_ret
    exact ⟨⟨-1, rfl, Or.inl rfl⟩, below1 w _⟩
  · have Hr := hide hr
    clear hr
    go_wp2_with fail
    go_ret
    exact ⟨⟨r, rfl, unhide Hr⟩, below1 w _⟩

set_option maxHeartbeats 1000000 in
theorem eqQuery_w (u v : Value) (xss : List (List Int)) (w : World) (hu : SsAt mI 0 w.heap.size w u xss) (hv : SsAt mI 0 w.heap.size w v xss) :
    Calls Try.prog 12 #[.agg #[u], .agg #[v]] w fun e w' => e = .returned (.bool true) ∧ Below w.heap.size w w' := by
  have Hu := hide hu
  have Hv := hide hv
  obtain ⟨a, cap, rfl, -, -⟩ := hv
  obtain ⟨a2, cap2, rfl, -, -⟩ := hu
  go_enter Try.func12, Try.ntmps12
  go_wp2_with fail
  refine (eqIntSS_w _ _ xss _ ((unhide Hu).below (below2 w _ _) (Nat.le_refl _)) ((unhide Hv).below (below2 w _ _) (Nat.le_refl _))).mono ?_
  rintro e w1 ⟨rfl, hb1⟩
  go_wp2_with fail
  go_ret
  exact ⟨rfl, (below2 w _ _).trans (hb1.mono (by simp; omega))⟩

set_option maxHeartbeats 1000000 in
theorem markQuery_w (v : Value) (xss : List (List Int)) (k : Int) (S : Nat → Prop) (w : World) (hv : SsF mI 0 S w v xss) (hS : ∀ j, S j → j < w.heap.size) (k0 : 0 ≤ k) (k1 : k ≤ 4194304) (hlen : tot xss ≤ 4194304) :
    Calls Try.prog 14 #[.agg #[v], .int .i64 k] w fun e w' => e = .returned (.int .i64 (k + tot xss)) ∧ SsF mI 0 S w' v (marksL cnts k xss) ∧ w.heap.size ≤ w'.heap.size ∧ (∀ j, j < w.heap.size → ¬ S j → w'.heap[j]? = w.heap[j]?) ∧ w'.os = w.os ∧ w'.tape = w.tape ∧ w'.output = w.output := by
  have Hv := hide (hv.same (w' := w.alloc (.cells #[v] 34)) (fun j hj => (below1 w _).block j (hS j hj)))
  obtain ⟨a, cap, rfl, -, -⟩ := hv
  go_enter Try.func14, Try.ntmps14
  go_wp2_with fail
  refine (markIntSS_w _ xss k S _ (unhide Hv) k0 k1 hlen).mono ?_
  rintro e w1 ⟨rfl, hs1, hc1⟩
  have hz := hc1.size
  rw [sz_alloc] at hz
  go_wp2_with fail
  go_ret
  exact ⟨rfl, hs1, by omega, fun j hj hn => (hc1.block j hn).trans ((below1 w _).block j hj), hc1.os, hc1.tape, hc1.output⟩

end Go.Proofs.Ytfjnhmgmcldidaa
