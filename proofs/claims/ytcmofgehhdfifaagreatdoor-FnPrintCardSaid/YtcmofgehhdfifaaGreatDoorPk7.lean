import Derived.Test.YtcmofgehhdfifaaGreatDoorPk3
import Derived.Deep.RegionWith
import Derived.Test.YtcmofgehhdfifaaGreatDoorC5
namespace Go.Proofs.YtcmofgehhdfifaaGreatDoor
open Go.RowKit
set_option maxHeartbeats 400000 in
theorem cappedSize_any (n : Int) (w : World) : Calls Tryz.prog 148 #[.int .i64 n] w fun e w' => e = .returned (.int .i64 (cap n)) ∧ w' = w := by
  go_enter Tryz.func148, Tryz.ntmps148
  go_wp2
  all_goals
    go_ret
    exact ⟨ret_int (by unfold cap; split <;> omega), rfl⟩
def SizeAs (u : Value) (n : Int) : Prop := ∃ (T : TypeId) (x : Value) (F : FuncId), u = .iface T x ∧
  (∀ w, Sem.run Tryz.prog (method 267 T x "loop.example/s0027/impl.size") w = .ok (F, x) w) ∧ (∀ w, Sem.run Tryz.prog (callFunc F #[x]) w = .ok (.enter F #[x]) w) ∧
  ∀ w, Calls Tryz.prog F #[x] w fun e w' => e = .returned (.int .i64 n) ∧ Below w.heap.size w w'
set_option maxHeartbeats 400000 in
set_option maxRecDepth 100000 in
theorem catSize_any (a b : Int) (u v : Value) (w : World) (hu : SizeAs u a) (hv : SizeAs v b) (a0 : 0 ≤ a) (a1 : a ≤ 501) (b0 : 0 ≤ b) (b1 : b ≤ 501) : Calls Tryz.prog 147 #[.agg #[u, v]] w fun e w' => e = .returned (.int .i64 (cap (a + b))) ∧ Below w.heap.size w w' := by
  obtain ⟨T, x, F, rfl, hm, hcf, hF⟩ := hu
  obtain ⟨T', x', F', rfl, hm', hcf', hF'⟩ := hv
  have hw2 : IntKind.i64.wrap (a + b) = a + b := by rw [IntKind.wrap_i64]; omega
  have hw1 : wrap64 (a + b) = a + b := by unfold wrap64; omega
  have HF := hide hF
  have HG := hide hF'
  clear hF hF'
  go_enter Tryz.func147, Tryz.ntmps147
  go_wp2
  go_region_with ((first | ((with_reducible refine (unhide HF _).mono ?_); rintro e w1 ⟨rfl, hb1⟩; have hb1' : Below (w.heap.size + 1) (w.alloc (.cells #[.iface T x, .iface T' x'] 107)) w1 := ⟨hb1.os, hb1.tape, hb1.output, hb1.size, fun k hk => hb1.block k (by simpa using hk)⟩; have hc1 := (bcell hb1').1; clear hb1) | ((with_reducible refine (unhide HG _).mono ?_); rintro e w2 ⟨rfl, hb2⟩) | (go_at_call 148; refine (cappedSize_any _ _).mono ?_; rintro e w3 ⟨rfl, rfl⟩)))
  all_goals
    have hB1 : Below w.heap.size w w1 := (below1 w _).trans (hb1'.mono (by omega))
    have hB2 : Below w.heap.size w w3 := hB1.trans (hb2.mono hB1.size)
    clear hc1 hb1' hb2
    go_wp2
    go_ret
    exact ⟨rfl, hB2⟩
set_option maxHeartbeats 400000 in
set_option maxRecDepth 100000 in
theorem altSize_any (a b : Int) (u v : Value) (w : World) (hu : SizeAs u a) (hv : SizeAs v b) (a0 : 0 ≤ a) (a1 : a ≤ 501) (b0 : 0 ≤ b) (b1 : b ≤ 501) : Calls Tryz.prog 150 #[.agg #[u, v]] w fun e w' => e = .returned (.int .i64 (cap (a + b))) ∧ Below w.heap.size w w' := by
  obtain ⟨T, x, F, rfl, hm, hcf, hF⟩ := hu
  obtain ⟨T', x', F', rfl, hm', hcf', hF'⟩ := hv
  have hw2 : IntKind.i64.wrap (a + b) = a + b := by rw [IntKind.wrap_i64]; omega
  have hw1 : wrap64 (a + b) = a + b := by unfold wrap64; omega
  have HF := hide hF
  have HG := hide hF'
  clear hF hF'
  go_enter Tryz.func150, Tryz.ntmps150
  go_wp2
  go_region_with ((first | ((with_reducible refine (unhide HF _).mono ?_); rintro e w1 ⟨rfl, hb1⟩; have hb1' : Below (w.heap.size + 1) (w.alloc (.cells #[.iface T x, .iface T' x'] 109)) w1 := ⟨hb1.os, hb1.tape, hb1.output, hb1.size, fun k hk => hb1.block k (by simpa using hk)⟩; have hc1 := (bcell hb1').1; clear hb1) | ((with_reducible refine (unhide HG _).mono ?_); rintro e w2 ⟨rfl, hb2⟩) | (go_at_call 148; refine (cappedSize_any _ _).mono ?_; rintro e w3 ⟨rfl, rfl⟩)))
  all_goals
    have hB1 : Below w.heap.size w w1 := (below1 w _).trans (hb1'.mono (by omega))
    have hB2 : Below w.heap.size w w3 := hB1.trans (hb2.mono hB1.size)
    clear hc1 hb1' hb2
    go_wp2
    go_ret
    exact ⟨rfl, hB2⟩
theorem w64q {n : Int} (h0 : 0 ≤ n) (h1 : n ≤ 1000000) : wrap64 n = n := by unfold wrap64; omega
theorem cap_self {c : Int} (h : c ≤ 501) : cap c = c := by unfold cap; split <;> omega
set_option maxHeartbeats 400000 in
set_option maxRecDepth 100000 in
theorem repSize_any (c mn mx : Int) (u : Value) (w : World) (hu : SizeAs u c) (a0 : 0 ≤ c) (a1 : c ≤ 501) (o2 : 0 ≤ mn) (o3 : mn ≤ 250) (o4 : mx = -1 ∨ (mn ≤ mx ∧ mx ≤ 250)) :
    Calls Tryz.prog 152 #[.agg #[u, .int .i64 mn, .int .i64 mx]] w fun e w' => e = .returned (.int .i64 (cap (repSize c mn mx))) ∧ Below w.heap.size w w' := by
  obtain ⟨T, x, F, rfl, hm, hcf, hF⟩ := hu
  have HF := hide hF
  clear hF
  have m1 : mn * c ≤ 250 * 501 := Int.mul_le_mul o3 a1 a0 (by omega)
  have m0 : 0 ≤ mn * c := Int.mul_nonneg o2 a0
  have x1 : wrap64 (mn * c) = mn * c := w64q (by omega) (by omega)
  have x2 : wrap64 (mn * c + 1) = mn * c + 1 := w64q (by omega) (by omega)
  rcases o4 with rfl | ⟨o4, o5⟩
  · by_cases hm1 : mn < 1
    · rw [repSize_a hm1]
      have hmx : max (1 : Int) mn = 1 := by omega
      go_enter Tryz.func152, Tryz.ntmps152
      go_wp2_with ((first | ((with_reducible refine (unhide HF _).mono ?_); rintro e w1 ⟨rfl, hb1⟩; have hc1 := (bcell hb1).1; simp only [sz_alloc] at hc1) | (go_at_call 148; refine (cappedSize_any _ _).mono ?_; rintro e w3 ⟨rfl, hw3⟩; subst hw3)))
      go_ret
      exact ⟨rfl, (below1 w _).trans (hb1.mono (by rw [sz_alloc]; omega))⟩
    · rw [repSize_b hm1]
      by_cases hm2 : 1 < mn
      · have hm3 : ¬ mn ≤ 1 := by omega
        have hmx : max (1 : Int) mn = mn := by omega
        go_enter Tryz.func152, Tryz.ntmps152
        go_wp2_with ((first | ((with_reducible refine (unhide HF _).mono ?_); rintro e w1 ⟨rfl, hb1⟩; have hc1 := (bcell hb1).1; simp only [sz_alloc] at hc1) | (go_at_call 148; refine (cappedSize_any _ _).mono ?_; rintro e w3 ⟨rfl, hw3⟩; subst hw3)))
        go_ret
        exact ⟨rfl, (below1 w _).trans (hb1.mono (by rw [sz_alloc]; omega))⟩
      · obtain rfl : mn = 1 := by omega
        rw [Int.one_mul]
        clear m1 m0 x1 x2
        go_enter Tryz.func152, Tryz.ntmps152
        go_wp2_with ((first | ((with_reducible refine (unhide HF _).mono ?_); rintro e w1 ⟨rfl, hb1⟩; have hc1 := (bcell hb1).1; simp only [sz_alloc] at hc1) | (go_at_call 148; refine (cappedSize_any _ _).mono ?_; rintro e w3 ⟨rfl, hw3⟩; subst hw3)))
        go_ret
        exact ⟨rfl, (below1 w _).trans (hb1.mono (by rw [sz_alloc]; omega))⟩
  · by_cases hx0 : mx = 0
    · subst hx0
      rw [repSize_c, cap_self a1]
      go_enter Tryz.func152, Tryz.ntmps152
      go_wp2_with ((first | ((with_reducible refine (unhide HF _).mono ?_); rintro e w1 ⟨rfl, hb1⟩; have hc1 := (bcell hb1).1; simp only [sz_alloc] at hc1) | (go_at_call 148; refine (cappedSize_any _ _).mono ?_; rintro e w3 ⟨rfl, hw3⟩; subst hw3)))
      go_ret
      exact ⟨rfl, (below1 w _).trans (hb1.mono (by rw [sz_alloc]; omega))⟩
    · rw [repSize_d (by omega) hx0]
      have hx1 : (mx == -1) = false := by simp; omega
      have hx2 : (mx == 0) = false := by simp [hx0]
      have m2 : (mx - mn) * (c + 1) ≤ 250 * 502 := Int.mul_le_mul (by omega) (by omega) (by omega) (by omega)
      have m3 : 0 ≤ (mx - mn) * (c + 1) := Int.mul_nonneg (by omega) (by omega)
      have x3 : wrap64 ((mx - mn) * (c + 1)) = (mx - mn) * (c + 1) := w64q (by omega) (by omega)
      have x4 : wrap64 (mn * c + (mx - mn) * (c + 1)) = mn * c + (mx - mn) * (c + 1) := w64q (by omega) (by omega)
      go_enter Tryz.func152, Tryz.ntmps152
      go_wp2_with ((first | ((with_reducible refine (unhide HF _).mono ?_); rintro e w1 ⟨rfl, hb1⟩; have hc1 := (bcell hb1).1; simp only [sz_alloc] at hc1) | (go_at_call 148; refine (cappedSize_any _ _).mono ?_; rintro e w3 ⟨rfl, hw3⟩; subst hw3)))
      go_ret
      exact ⟨rfl, (below1 w _).trans (hb1.mono (by rw [sz_alloc]; omega))⟩
set_option maxHeartbeats 400000 in
theorem eSize_any (w : World) : Calls Tryz.prog 143 #[.agg #[]] w fun e w' => e = .returned (.int .i64 1) ∧ Below w.heap.size w w' := by
  go_enter Tryz.func143, Tryz.ntmps143
  go_wp2
  go_ret
  exact ⟨rfl, below1 w _⟩
set_option maxHeartbeats 400000 in
theorem sSize_any (a b c d : Int) (w : World) : Calls Tryz.prog 145 #[.agg #[.int .u64 a, .int .u64 b, .int .u64 c, .int .u64 d]] w fun e w' => e = .returned (.int .i64 1) ∧ Below w.heap.size w w' := by
  go_enter Tryz.func145, Tryz.ntmps145
  go_wp2
  go_ret
  exact ⟨rfl, below1 w _⟩
theorem size_e (w : World) : Sem.run Tryz.prog (method 267 99 (.agg #[]) "loop.example/s0027/impl.size") w = .ok (143, .agg #[]) w := by kernel_rfl
theorem call_e (w : World) : Sem.run Tryz.prog (callFunc 143 #[.agg #[]]) w = .ok (.enter 143 #[.agg #[]]) w := by kernel_rfl
theorem size_s (x : Value) (w : World) : Sem.run Tryz.prog (method 267 104 x "loop.example/s0027/impl.size") w = .ok (145, x) w := by kernel_rfl
theorem call_s (x : Value) (w : World) : Sem.run Tryz.prog (callFunc 145 #[x]) w = .ok (.enter 145 #[x]) w := by kernel_rfl
theorem size_cat (x : Value) (w : World) : Sem.run Tryz.prog (method 267 107 x "loop.example/s0027/impl.size") w = .ok (147, x) w := by kernel_rfl
theorem call_cat (x : Value) (w : World) : Sem.run Tryz.prog (callFunc 147 #[x]) w = .ok (.enter 147 #[x]) w := by kernel_rfl
theorem size_alt (x : Value) (w : World) : Sem.run Tryz.prog (method 267 109 x "loop.example/s0027/impl.size") w = .ok (150, x) w := by kernel_rfl
theorem call_alt (x : Value) (w : World) : Sem.run Tryz.prog (callFunc 150 #[x]) w = .ok (.enter 150 #[x]) w := by kernel_rfl
theorem size_rep (x : Value) (w : World) : Sem.run Tryz.prog (method 267 111 x "loop.example/s0027/impl.size") w = .ok (152, x) w := by kernel_rfl
theorem call_rep (x : Value) (w : World) : Sem.run Tryz.prog (callFunc 152 #[x]) w = .ok (.enter 152 #[x]) w := by kernel_rfl
def SzV (u : Value) (c : Int) : Prop := SizeAs u c ∧ 0 ≤ c ∧ c ≤ 501
theorem SzV.iface {u : Value} {c : Int} (h : SzV u c) : ∃ T x, u = .iface T x := by
  obtain ⟨⟨T, x, F, rfl, -⟩, -⟩ := h
  exact ⟨T, x, rfl⟩
theorem SzV.e : SzV (.iface 99 (.agg #[])) 1 := ⟨⟨99, _, 143, rfl, size_e, call_e, eSize_any⟩, by omega⟩
theorem SzV.s (a b c d : Int) : SzV (.iface 104 (.agg #[.int .u64 a, .int .u64 b, .int .u64 c, .int .u64 d])) 1 := ⟨⟨104, _, 145, rfl, size_s _, call_s _, sSize_any a b c d⟩, by omega⟩
theorem SzV.cat {u v : Value} {a b : Int} (hu : SzV u a) (hv : SzV v b) : SzV (.iface 107 (.agg #[u, v])) (cap (a + b)) :=
  ⟨⟨107, _, 147, rfl, size_cat _, call_cat _, fun w => catSize_any _ _ u v w hu.1 hv.1 hu.2.1 hu.2.2 hv.2.1 hv.2.2⟩, cap_bd (by have := hu.2; have := hv.2; omega)⟩
theorem SzV.alt {u v : Value} {a b : Int} (hu : SzV u a) (hv : SzV v b) : SzV (.iface 109 (.agg #[u, v])) (cap (a + b)) :=
  ⟨⟨109, _, 150, rfl, size_alt _, call_alt _, fun w => altSize_any _ _ u v w hu.1 hv.1 hu.2.1 hu.2.2 hv.2.1 hv.2.2⟩, cap_bd (by have := hu.2; have := hv.2; omega)⟩
theorem SzV.rep {u : Value} {c mn mx : Int} (hu : SzV u c) (o2 : 0 ≤ mn) (o3 : mn ≤ 250) (o4 : mx = -1 ∨ (mn ≤ mx ∧ mx ≤ 250)) : SzV (.iface 111 (.agg #[u, .int .i64 mn, .int .i64 mx])) (cap (repSize c mn mx)) := by
  refine ⟨⟨111, _, 152, rfl, size_rep _, call_rep _, fun w => repSize_any _ mn mx u w hu.1 hu.2.1 hu.2.2 o2 o3 o4⟩, cap_bd ?_⟩
  have hc := hu.2
  unfold repSize
  split
  · have : 0 ≤ (if mn < 1 then 1 else mn) * c := Int.mul_nonneg (by split <;> omega) hc.1
    omega
  · split
    · exact hc.1
    · have h1 : 0 ≤ mn * c := Int.mul_nonneg o2 hc.1
      have h2 : 0 ≤ (mx - mn) * (c + 1) := Int.mul_nonneg (by omega) (by omega)
      omega
end Go.Proofs.YtcmofgehhdfifaaGreatDoor
