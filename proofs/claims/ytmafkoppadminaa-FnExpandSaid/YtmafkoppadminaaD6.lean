import Derived.Test.YtmafkoppadminaaD5
import Derived.Test.YtmafkoppadminaaC5
namespace Go.Proofs.Ytmafkoppadminaa
open Go.RowKit
theorem w64q {n : Int} (h0 : 0 ≤ n) (h1 : n ≤ 1000000) : wrap64 n = n := by unfold wrap64; omega
theorem cap_self {c : Int} (h : c ≤ 501) : cap c = c := by unfold cap; split <;> omega
set_option maxHeartbeats 400000 in
set_option maxRecDepth 100000 in
theorem repSize_any (c mn mx : Int) (u : Value) (w : World) (hu : SizeAs u c) (a0 : 0 ≤ c) (a1 : c ≤ 501) (o2 : 0 ≤ mn) (o3 : mn ≤ 250) (o4 : mx = -1 ∨ (mn ≤ mx ∧ mx ≤ 250)) :
    Calls Try.prog 79 #[.agg #[u, .int .i64 mn, .int .i64 mx]] w fun e w' => e = .returned (.int .i64 (cap (repSize c mn mx))) ∧ Below w.heap.size w w' := by
  obtain ⟨T, x, F, rfl, hm, hcf, hF⟩ := hu
  have HF := hide hF
  clear hF
  have m1 : mn * c ≤ 250 * 501 := Int.mul_le_mul o3 a1 a0 (by omega)
  have m0 : 0 ≤ mn * c := Int.mul_nonneg o2 a0
  have x1 : wrap64 (mn * c) = mn * c := w64q (by omega) (by omega)
  have x2 : wrap64 (mn * c + 1) = mn * c + 1 := w64q (by omega) (by omega)
  rcases o4 with rfl | ⟨o4, o5⟩
  · by_cases hm1 : mn < 1
    · rw [repSize_a hm1]
      have hmx : max (1 : Int) mn = 1 := by omega
      go_enter Try.func79, Try.ntmps79
      go_wp2_with ((first | ((with_reducible refine (unhide HF _).mono ?_); rintro e w1 ⟨rfl, hb1⟩; have hc1 := (bcell hb1).1; simp only [sz_alloc] at hc1) | (go_at_call 75; refine (cappedSize_any _ _).mono ?_; rintro e w3 ⟨rfl, hw3⟩; subst hw3)))
      go_ret
      exact ⟨rfl, (below1 w _).trans (hb1.mono (by rw [sz_alloc]; omega))⟩
    · rw [repSize_b hm1]
      by_cases hm2 : 1 < mn
      · have hm3 : ¬ mn ≤ 1 := by omega
        have hmx : max (1 : Int) mn = mn := by omega
        go_enter Try.func79, Try.ntmps79
        go_wp2_with ((first | ((with_reducible refine (unhide HF _).mono ?_); rintro e w1 ⟨rfl, hb1⟩; have hc1 := (bcell hb1).1; simp only [sz_alloc] at hc1) | (go_at_call 75; refine (cappedSize_any _ _).mono ?_; rintro e w3 ⟨rfl, hw3⟩; subst hw3)))
        go_ret
        exact ⟨rfl, (below1 w _).trans (hb1.mono (by rw [sz_alloc]; omega))⟩
      · obtain rfl : mn = 1 := by omega
        rw [Int.one_mul]
        clear m1 m0 x1 x2
        go_enter Try.func79, Try.ntmps79
        go_wp2_with ((first | ((with_reducible refine (unhide HF _).mono ?_); rintro e w1 ⟨rfl, hb1⟩; have hc1 := (bcell hb1).1; simp only [sz_alloc] at hc1) | (go_at_call 75; refine (cappedSize_any _ _).mono ?_; rintro e w3 ⟨rfl, hw3⟩; subst hw3)))
        go_ret
        exact ⟨rfl, (below1 w _).trans (hb1.mono (by rw [sz_alloc]; omega))⟩
  · by_cases hx0 : mx = 0
    · subst hx0
      rw [repSize_c, cap_self a1]
      go_enter Try.func79, Try.ntmps79
      go_wp2_with ((first | ((with_reducible refine (unhide HF _).mono ?_); rintro e w1 ⟨rfl, hb1⟩; have hc1 := (bcell hb1).1; simp only [sz_alloc] at hc1) | (go_at_call 75; refine (cappedSize_any _ _).mono ?_; rintro e w3 ⟨rfl, hw3⟩; subst hw3)))
      go_ret
      exact ⟨rfl, (below1 w _).trans (hb1.mono (by rw [sz_alloc]; omega))⟩
    · rw [repSize_d (by omega) hx0]
      have hx1 : (mx == -1) = false := by simp; omega
      have hx2 : (mx == 0) = false := by simp [hx0]
      have m2 : (mx - mn) * (c + 1) ≤ 250 * 502 := Int.mul_le_mul (by omega) (by omega) (by omega) (by omega)
      have m3 : 0 ≤ (mx - mn) * (c + 1) := Int.mul_nonneg (by omega) (by omega)
      have x3 : wrap64 ((mx - mn) * (c + 1)) = (mx - mn) * (c + 1) := w64q (by omega) (by omega)
      have x4 : wrap64 (mn * c + (mx - mn) * (c + 1)) = mn * c + (mx - mn) * (c + 1) := w64q (by omega) (by omega)
      go_enter Try.func79, Try.ntmps79
      go_wp2_with ((first | ((with_reducible refine (unhide HF _).mono ?_); rintro e w1 ⟨rfl, hb1⟩; have hc1 := (bcell hb1).1; simp only [sz_alloc] at hc1) | (go_at_call 75; refine (cappedSize_any _ _).mono ?_; rintro e w3 ⟨rfl, hw3⟩; subst hw3)))
      go_ret
      exact ⟨rfl, (below1 w _).trans (hb1.mono (by rw [sz_alloc]; omega))⟩
set_option maxHeartbeats 400000 in
theorem eSize_any (w : World) : Calls Try.prog 81 #[.agg #[]] w fun e w' => e = .returned (.int .i64 1) ∧ Below w.heap.size w w' := by
  go_enter Try.func81, Try.ntmps81
  go_wp2
  go_ret
  exact ⟨rfl, below1 w _⟩
set_option maxHeartbeats 400000 in
theorem sSize_any (a b c d : Int) (w : World) : Calls Try.prog 84 #[.agg #[.int .u64 a, .int .u64 b, .int .u64 c, .int .u64 d]] w fun e w' => e = .returned (.int .i64 1) ∧ Below w.heap.size w w' := by
  go_enter Try.func84, Try.ntmps84
  go_wp2
  go_ret
  exact ⟨rfl, below1 w _⟩
theorem size_e (w : World) : Sem.run Try.prog (method 213 78 (.agg #[]) "loop.example/s0027/impl.size") w = .ok (81, .agg #[]) w := by kernel_rfl
theorem call_e (w : World) : Sem.run Try.prog (callFunc 81 #[.agg #[]]) w = .ok (.enter 81 #[.agg #[]]) w := by kernel_rfl
theorem size_s (x : Value) (w : World) : Sem.run Try.prog (method 213 84 x "loop.example/s0027/impl.size") w = .ok (84, x) w := by kernel_rfl
theorem call_s (x : Value) (w : World) : Sem.run Try.prog (callFunc 84 #[x]) w = .ok (.enter 84 #[x]) w := by kernel_rfl
theorem size_cat (x : Value) (w : World) : Sem.run Try.prog (method 213 61 x "loop.example/s0027/impl.size") w = .ok (74, x) w := by kernel_rfl
theorem call_cat (x : Value) (w : World) : Sem.run Try.prog (callFunc 74 #[x]) w = .ok (.enter 74 #[x]) w := by kernel_rfl
theorem size_alt (x : Value) (w : World) : Sem.run Try.prog (method 213 62 x "loop.example/s0027/impl.size") w = .ok (77, x) w := by kernel_rfl
theorem call_alt (x : Value) (w : World) : Sem.run Try.prog (callFunc 77 #[x]) w = .ok (.enter 77 #[x]) w := by kernel_rfl
theorem size_rep (x : Value) (w : World) : Sem.run Try.prog (method 213 64 x "loop.example/s0027/impl.size") w = .ok (79, x) w := by kernel_rfl
theorem call_rep (x : Value) (w : World) : Sem.run Try.prog (callFunc 79 #[x]) w = .ok (.enter 79 #[x]) w := by kernel_rfl
def SzV (u : Value) (c : Int) : Prop := SizeAs u c ∧ 0 ≤ c ∧ c ≤ 501
theorem SzV.iface {u : Value} {c : Int} (h : SzV u c) : ∃ T x, u = .iface T x := by
  obtain ⟨⟨T, x, F, rfl, -⟩, -⟩ := h
  exact ⟨T, x, rfl⟩
theorem SzV.e : SzV (.iface 78 (.agg #[])) 1 := ⟨⟨78, _, 81, rfl, size_e, call_e, eSize_any⟩, by omega⟩
theorem SzV.s (a b c d : Int) : SzV (.iface 84 (.agg #[.int .u64 a, .int .u64 b, .int .u64 c, .int .u64 d])) 1 := ⟨⟨84, _, 84, rfl, size_s _, call_s _, sSize_any a b c d⟩, by omega⟩
theorem SzV.cat {u v : Value} {a b : Int} (hu : SzV u a) (hv : SzV v b) : SzV (.iface 61 (.agg #[u, v])) (cap (a + b)) :=
  ⟨⟨61, _, 74, rfl, size_cat _, call_cat _, fun w => catSize_any _ _ u v w hu.1 hv.1 hu.2.1 hu.2.2 hv.2.1 hv.2.2⟩, cap_bd (by have := hu.2; have := hv.2; omega)⟩
theorem SzV.alt {u v : Value} {a b : Int} (hu : SzV u a) (hv : SzV v b) : SzV (.iface 62 (.agg #[u, v])) (cap (a + b)) :=
  ⟨⟨62, _, 77, rfl, size_alt _, call_alt _, fun w => altSize_any _ _ u v w hu.1 hv.1 hu.2.1 hu.2.2 hv.2.1 hv.2.2⟩, cap_bd (by have := hu.2; have := hv.2; omega)⟩
theorem SzV.rep {u : Value} {c mn mx : Int} (hu : SzV u c) (o2 : 0 ≤ mn) (o3 : mn ≤ 250) (o4 : mx = -1 ∨ (mn ≤ mx ∧ mx ≤ 250)) : SzV (.iface 64 (.agg #[u, .int .i64 mn, .int .i64 mx])) (cap (repSize c mn mx)) := by
  refine ⟨⟨64, _, 79, rfl, size_rep _, call_rep _, fun w => repSize_any _ mn mx u w hu.1 hu.2.1 hu.2.2 o2 o3 o4⟩, cap_bd ?_⟩
  have hc := hu.2
  unfold repSize
  split
  · have : 0 ≤ (if mn < 1 then 1 else mn) * c := Int.mul_nonneg (by split <;> omega) hc.1
    omega
  · split
    · exact hc.1
    · have h1 : 0 ≤ mn * c := Int.mul_nonneg o2 hc.1
      have h2 : 0 ≤ (mx - mn) * (c + 1) := Int.mul_nonneg (by omega) (by omega)
      omega
end Go.Proofs.Ytmafkoppadminaa
