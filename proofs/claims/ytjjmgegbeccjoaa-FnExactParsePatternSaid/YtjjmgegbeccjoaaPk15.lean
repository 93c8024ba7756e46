import Derived.Test.YtjjmgegbeccjoaaPk8
import Derived.Deep.RegionWith
import Derived.Test.YtjjmgegbeccjoaaPk9
import Derived.Test.YtjjmgegbeccjoaaPk13
import Derived.Test.YtjjmgegbeccjoaaPk7
namespace Go.Proofs.Ytjjmgegbeccjoaa
open Go.RowKit

set_option maxHeartbeats 400000 in
theorem cappedSize_any (n : Int) (w : World) : Calls Try.prog 94 #[.int .i64 n] w fun e w' => e = .returned (.int .i64 (cap n)) ∧ w' = w := by
  go_enter Try.func94, Try.ntmps94
  go_wp2
  all_goals
    go_ret
    exact ⟨ret_int (by unfold cap; split <;> omega), rfl⟩

/-- u is an interface value whose method size answers n. -/
def SizeAs (u : Value) (n : Int) : Prop := ∃ (T : TypeId) (x : Value) (F : FuncId), u = .iface T x ∧
  (∀ w, Sem.run Try.prog (method 226 T x "loop.example/s0027/impl.size") w = .ok (F, x) w) ∧ (∀ w, Sem.run Try.prog (callFunc F #[x]) w = .ok (.enter F #[x]) w) ∧
  ∀ w, Calls Try.prog F #[x] w fun e w' => e = .returned (.int .i64 n) ∧ Below w.heap.size w w'

set_option maxHeartbeats 400000 in
set_option maxRecDepth 100000 in
theorem catSize_any (a b : Int) (u v : Value) (w : World) (hu : SizeAs u a) (hv : SizeAs v b) (a0 : 0 ≤ a) (a1 : a ≤ 501) (b0 : 0 ≤ b) (b1 : b ≤ 501) : Calls Try.prog 100 #[.agg #[u, v]] w fun e w' => e = .returned (.int .i64 (cap (a + b))) ∧ Below w.heap.size w w' := by
  obtain ⟨T, x, F, rfl, hm, hcf, hF⟩ := hu
  obtain ⟨T', x', F', rfl, hm', hcf', hF'⟩ := hv
  have hw2 : IntKind.i64.wrap (a + b) = a + b := by rw [IntKind.wrap_i64]; omega
  have hw1 : wrap64 (a + b) = a + b := by unfold wrap64; omega
  have HF := hide hF
  have HG := hide hF'
  clear hF hF'
  go_enter Try.func100, Try.ntmps100
  go_wp2
  go_region_with ((first | ((with_reducible refine (unhide HF _).mono ?_); rintro e w1 ⟨rfl, hb1⟩; have hb1' : Below (w.heap.size + 1) (w.alloc (.cells #[.iface T x, .iface T' x'] 95)) w1 := ⟨hb1.os, hb1.tape, hb1.output, hb1.size, fun k hk => hb1.block k (by simpa using hk)⟩; have hc1 := (bcell hb1').1; clear hb1) | ((with_reducible refine (unhide HG _).mono ?_); rintro e w2 ⟨rfl, hb2⟩) | (go_at_call 94; refine (cappedSize_any _ _).mono ?_; rintro e w3 ⟨rfl, rfl⟩)))
  all_goals
    have hB1 : Below w.heap.size w w1 := (below1 w _).trans (hb1'.mono (by omega))
    have hB2 : Below w.heap.size w w3 := hB1.trans (hb2.mono hB1.size)
    clear hc1 hb1' hb2
    go_wp2
    go_ret
    exact ⟨rfl, hB2⟩

set_option maxHeartbeats 400000 in
set_option maxRecDepth 100000 in
theorem altSize_any (a b : Int) (u v : Value) (w : World) (hu : SizeAs u a) (hv : SizeAs v b) (a0 : 0 ≤ a) (a1 : a ≤ 501) (b0 : 0 ≤ b) (b1 : b ≤ 501) : Calls Try.prog 93 #[.agg #[u, v]] w fun e w' => e = .returned (.int .i64 (cap (a + b))) ∧ Below w.heap.size w w' := by
  obtain ⟨T, x, F, rfl, hm, hcf, hF⟩ := hu
  obtain ⟨T', x', F', rfl, hm', hcf', hF'⟩ := hv
  have hw2 : IntKind.i64.wrap (a + b) = a + b := by rw [IntKind.wrap_i64]; omega
  have hw1 : wrap64 (a + b) = a + b := by unfold wrap64; omega
  have HF := hide hF
  have HG := hide hF'
  clear hF hF'
  go_enter Try.func93, Try.ntmps93
  go_wp2
  go_region_with ((first | ((with_reducible refine (unhide HF _).mono ?_); rintro e w1 ⟨rfl, hb1⟩; have hb1' : Below (w.heap.size + 1) (w.alloc (.cells #[.iface T x, .iface T' x'] 85)) w1 := ⟨hb1.os, hb1.tape, hb1.output, hb1.size, fun k hk => hb1.block k (by simpa using hk)⟩; have hc1 := (bcell hb1').1; clear hb1) | ((with_reducible refine (unhide HG _).mono ?_); rintro e w2 ⟨rfl, hb2⟩) | (go_at_call 94; refine (cappedSize_any _ _).mono ?_; rintro e w3 ⟨rfl, rfl⟩)))
  all_goals
    have hB1 : Below w.heap.size w w1 := (below1 w _).trans (hb1'.mono (by omega))
    have hB2 : Below w.heap.size w w3 := hB1.trans (hb2.mono hB1.size)
    clear hc1 hb1' hb2
    go_wp2
    go_ret
    exact ⟨rfl, hB2⟩

theorem w64q {n : Int} (h0 : 0 ≤ n) (h1 : n ≤ 1000000) : wrap64 n = n := by unfold wrap64; omega
theorem cap_self {c : Int} (h : c ≤ 501) : cap c = c := by unfold cap; split <;> omega

set_option maxHeartbeats 400000 in
set_option maxRecDepth 100000 in
theorem repSize_any (c mn mx : Int) (u : Value) (w : World) (hu : SizeAs u c) (a0 : 0 ≤ c) (a1 : c ≤ 501) (o2 : 0 ≤ mn) (o3 : mn ≤ 250) (o4 : mx = -1 ∨ (mn ≤ mx ∧ mx ≤ 250)) :
    Calls Try.prog 98 #[.agg #[u, .int .i64 mn, .int .i64 mx]] w fun e w' => e = .returned (.int .i64 (cap (repSize c mn mx))) ∧ Below w.heap.size w w' := by
  obtain ⟨T, x, F, rfl, hm, hcf, hF⟩ := hu
  have HF := hide hF
  clear hF
  have m1 : mn * c ≤ 250 * 501 := Int.mul_le_mul o3 a1 a0 (by omega)
  have m0 : 0 ≤ mn * c := Int.mul_nonneg o2 a0
  have x1 : wrap64 (mn * c) = mn * c := w64q (by omega) (by omega)
  have x2 : wrap64 (mn * c + 1) = mn * c + 1 := w64q (by omega) (by omega)
  rcases o4 with rfl | ⟨o4, o5⟩
  · by_cases hm1 : mn < 1
    · rw [repSize_a hm1]
      have hmx : max (1 : Int) mn = 1 := by omega
      go_enter Try.func98, Try.ntmps98
      go_wp2_with ((first | ((with_reducible refine (unhide HF _).mono ?_); rintro e w1 ⟨rfl, hb1⟩; have hc1 := (bcell hb1).1; simp only [sz_alloc] at hc1) | (go_at_call 94; refine (cappedSize_any _ _).mono ?_; rintro e w3 ⟨rfl, hw3⟩; subst hw3)))
      go_ret
      exact ⟨rfl, (below1 w _).trans (hb1.mono (by rw [sz_alloc]; omega))⟩
    · rw [repSize_b hm1]
      by_cases hm2 : 1 < mn
      · have hm3 : ¬ mn ≤ 1 := by omega
        have hmx : max (1 : Int) mn = mn := by omega
        go_enter Try.func98, Try.ntmps98
        go_wp2_with ((first | ((with_reducible refine (unhide HF _).mono ?_); rintro e w1 ⟨rfl, hb1⟩; have hc1 := (bcell hb1).1; simp only [sz_alloc] at hc1) | (go_at_call 94; refine (cappedSize_any _ _).mono ?_; rintro e w3 ⟨rfl, hw3⟩; subst hw3)))
        go_ret
        exact ⟨rfl, (below1 w _).trans (hb1.mono (by rw [sz_alloc]; omega))⟩
      · obtain rfl : mn = 1 := by omega
        rw [Int.one_mul]
        clear m1 m0 x1 x2
        go_enter Try.func98, Try.ntmps98
        go_wp2_with ((first | ((with_reducible refine (unhide HF _).mono ?_); rintro e w1 ⟨rfl, hb1⟩; have hc1 := (bcell hb1).1; simp only [sz_alloc] at hc1) | (go_at_call 94; refine (cappedSize_any _ _).mono ?_; rintro e w3 ⟨rfl, hw3⟩; subst hw3)))
        go_ret
        exact ⟨rfl, (below1 w _).trans (hb1.mono (by rw [sz_alloc]; omega))⟩
  · by_cases hx0 : mx = 0
    · subst hx0
      rw [repSize_c, cap_self a1]
      go_enter Try.func98, Try.ntmps98
      go_wp2_with ((first | ((with_reducible refine (unhide HF _).mono ?_); rintro e w1 ⟨rfl, hb1⟩; have hc1 := (bcell hb1).1; simp only [sz_alloc] at hc1) | (go_at_call 94; refine (cappedSize_any _ _).mono ?_; rintro e w3 ⟨rfl, hw3⟩; subst hw3)))
      go_ret
      exact ⟨rfl, (below1 w _).trans (hb1.mono (by rw [sz_alloc]; omega))⟩
    · rw [repSize_d (by omega) hx0]
      have hx1 : (mx == -1) = false := by simp; omega
      have hx2 : (mx == 0) = false := by simp [hx0]
      have m2 : (mx - mn) * (c + 1) ≤ 250 * 502 := Int.mul_le_mul (by omega) (by omega) (by omega) (by omega)
      have m3 : 0 ≤ (mx - mn) * (c + 1) := Int.mul_nonneg (by omega) (by omega)
      have x3 : wrap64 ((mx - mn) * (c + 1)) = (mx - mn) * (c + 1) := w64q (by omega) (by omega)
      have x4 : wrap64 (mn * c + (mx - mn) * (c + 1)) = mn * c + (mx - mn) * (c + 1) := w64q (by omega) (by omega)
      go_enter Try.func98, Try.ntmps98
      go_wp2_with ((first | ((with_reducible refine (unhide HF _).mono ?_); rintro e w1 ⟨rfl, hb1⟩; have hc1 := (bcell hb1).1; simp only [sz_alloc] at hc1) | (go_at_call 94; refine (cappedSize_any _ _).mono ?_; rintro e w3 ⟨rfl, hw3⟩; subst hw3)))
      go_ret
      exact ⟨rfl, (below1 w _).trans (hb1.mono (by rw [sz_alloc]; omega))⟩

set_option maxHeartbeats 400000 in
theorem eSize_any (w : World) : Calls Try.prog 96 #[.agg #[]] w fun e w' => e = .returned (.int .i64 1) ∧ Below w.heap.size w w' := by
  go_enter Try.func96, Try.ntmps96
  go_wp2
  go_ret
  exact ⟨rfl, below1 w _⟩

set_option maxHeartbeats 400000 in
theorem sSize_any (a b c d : Int) (w : World) : Calls Try.prog 103 #[.agg #[.int .u64 a, .int .u64 b, .int .u64 c, .int .u64 d]] w fun e w' => e = .returned (.int .i64 1) ∧ Below w.heap.size w w' := by
  go_enter Try.func103, Try.ntmps103
  go_wp2
  go_ret
  exact ⟨rfl, below1 w _⟩

theorem size_e (w : World) : Sem.run Try.prog (method 226 90 (.agg #[]) "loop.example/s0027/impl.size") w = .ok (96, .agg #[]) w := by kernel_rfl
theorem call_e (w : World) : Sem.run Try.prog (callFunc 96 #[.agg #[]]) w = .ok (.enter 96 #[.agg #[]]) w := by kernel_rfl
theorem size_s (x : Value) (w : World) : Sem.run Try.prog (method 226 101 x "loop.example/s0027/impl.size") w = .ok (103, x) w := by kernel_rfl
theorem call_s (x : Value) (w : World) : Sem.run Try.prog (callFunc 103 #[x]) w = .ok (.enter 103 #[x]) w := by kernel_rfl
theorem size_cat (x : Value) (w : World) : Sem.run Try.prog (method 226 95 x "loop.example/s0027/impl.size") w = .ok (100, x) w := by kernel_rfl
theorem call_cat (x : Value) (w : World) : Sem.run Try.prog (callFunc 100 #[x]) w = .ok (.enter 100 #[x]) w := by kernel_rfl
theorem size_alt (x : Value) (w : World) : Sem.run Try.prog (method 226 85 x "loop.example/s0027/impl.size") w = .ok (93, x) w := by kernel_rfl
theorem call_alt (x : Value) (w : World) : Sem.run Try.prog (callFunc 93 #[x]) w = .ok (.enter 93 #[x]) w := by kernel_rfl
theorem size_rep (x : Value) (w : World) : Sem.run Try.prog (method 226 93 x "loop.example/s0027/impl.size") w = .ok (98, x) w := by kernel_rfl
theorem call_rep (x : Value) (w : World) : Sem.run Try.prog (callFunc 98 #[x]) w = .ok (.enter 98 #[x]) w := by kernel_rfl

/-- u is an interface value whose method size answers c, a size within the bounds. -/
def SzV (u : Value) (c : Int) : Prop := SizeAs u c ∧ 0 ≤ c ∧ c ≤ 501

theorem SzV.iface {u : Value} {c : Int} (h : SzV u c) : ∃ T x, u = .iface T x := by
  obtain ⟨⟨T, x, F, rfl, -⟩, -⟩ := h
  exact ⟨T, x, rfl⟩
theorem SzV.e : SzV (.iface 90 (.agg #[])) 1 := ⟨⟨90, _, 96, rfl, size_e, call_e, eSize_any⟩, by omega⟩
theorem SzV.s (a b c d : Int) : SzV (.iface 101 (.agg #[.int .u64 a, .int .u64 b, .int .u64 c, .int .u64 d])) 1 := ⟨⟨101, _, 103, rfl, size_s _, call_s _, sSize_any a b c d⟩, by omega⟩
theorem SzV.cat {u v : Value} {a b : Int} (hu : SzV u a) (hv : SzV v b) : SzV (.iface 95 (.agg #[u, v])) (cap (a + b)) :=
  ⟨⟨95, _, 100, rfl, size_cat _, call_cat _, fun w => catSize_any _ _ u v w hu.1 hv.1 hu.2.1 hu.2.2 hv.2.1 hv.2.2⟩, cap_bd (by have := hu.2; have := hv.2; omega)⟩
theorem SzV.alt {u v : Value} {a b : Int} (hu : SzV u a) (hv : SzV v b) : SzV (.iface 85 (.agg #[u, v])) (cap (a + b)) :=
  ⟨⟨85, _, 93, rfl, size_alt _, call_alt _, fun w => altSize_any _ _ u v w hu.1 hv.1 hu.2.1 hu.2.2 hv.2.1 hv.2.2⟩, cap_bd (by have := hu.2; have := hv.2; omega)⟩
theorem SzV.rep {u : Value} {c mn mx : Int} (hu : SzV u c) (o2 : 0 ≤ mn) (o3 : mn ≤ 250) (o4 : mx = -1 ∨ (mn ≤ mx ∧ mx ≤ 250)) : SzV (.iface 93 (.agg #[u, .int .i64 mn, .int .i64 mx])) (cap (repSize c mn mx)) := by
  refine ⟨⟨93, _, 98, rfl, size_rep _, call_rep _, fun w => repSize_any _ mn mx u w hu.1 hu.2.1 hu.2.2 o2 o3 o4⟩, cap_bd ?_⟩
  have hc := hu.2
  unfold repSize
  split
  · have : 0 ≤ (if mn < 1 then 1 else mn) * c := Int.mul_nonneg (by split <;> omega) hc.1
    omega
  · split
    · exact hc.1
    · have h1 : 0 ≤ mn * c := Int.mul_nonneg o2 hc.1
      have h2 : 0 ≤ (mx - mn) * (c + 1) := Int.mul_nonneg (by omega) (by omega)
      omega


/-- The block of v' is that of v, or new since w. -/
def OwnOr (w : World) (v v' : Value) : Prop := v'.ownBlock = v.ownBlock ∨ ∃ k, w.heap.size ≤ k ∧ v'.ownBlock = some k
theorem OwnOr.trans {w w1 : World} {v v1 v2 : Value} (h : OwnOr w v v1) (hz : w.heap.size ≤ w1.heap.size) (k : OwnOr w1 v1 v2) : OwnOr w v v2 := by
  rcases k with k | ⟨j, h1, h2⟩
  · rcases h with h | ⟨j, h1, h2⟩
    · exact Or.inl (k.trans h)
    · exact Or.inr ⟨j, h1, k.trans h2⟩
  · exact Or.inr ⟨j, by omega, h2⟩
theorem grown_trans {w w1 w2 : World} {v v1 : Value} (h : w.grownBy w1 v.ownBlock) (o : OwnOr w v v1) (k : w1.grownBy w2 v1.ownBlock) : w.grownBy w2 v.ownBlock :=
  ⟨k.os.trans h.os, k.tape.trans h.tape, k.output.trans h.output, Nat.le_trans h.size k.size, fun j hj hne => (k.block j (Nat.lt_of_lt_of_le hj h.size) (fun e => by
    rcases o with o | ⟨q, q1, q2⟩
    · exact hne (by rw [e, o])
    · rw [q2] at e; simp at e; omega)).trans (h.block j hj hne)⟩
theorem grown_below {base : Nat} {w w' : World} {v : Value} {ps : List Pc} (h : GrowP base w v ps) (hb : base ≤ w.heap.size) (hg : w.grownBy w' v.ownBlock) : Below base w w' := (Below.refl base w).grown hg hb (fun k hk => (h.own.lt k hk).1)
theorem grown_of {w w0 w1 : World} {v : Value} (hb : Below w.heap.size w w0) (hg : w0.grownBy w1 v.ownBlock) : w.grownBy w1 v.ownBlock :=
  ⟨hg.os.trans hb.os, hg.tape.trans hb.tape, hg.output.trans hb.output, Nat.le_trans hb.size hg.size, fun j hj hne => (hg.block j (Nat.lt_of_lt_of_le hj hb.size) hne).trans (hb.block j hj)⟩

/-- One element more, with the frame told. -/
theorem app_op2 {base : Nat} {wr w1 W : World} {ops : Array Oper} {rest : List Oper} {o : Oper} {a : Act} {Q : Exit → Act → World → Prop} {v : Value} {ps : List Pc} (x : El) (sv : Value) (T : Nat → Prop) (hgd : o.guard = none) (s y : Operand)
    (ho : o.op = .call { callee := .builtin .append, args := #[s, y], argTypes := #[23, 23] }) (hs : a.eval s = v) (N : Nat) (hN : w1.heap.size = N) (hy : a.eval y = .slice (some ⟨N, 0, none⟩) 1 1)
    (h : GrowP base wr v ps) (hbase : base ≤ wr.heap.size) (hb : Below wr.heap.size wr w1) (hsl : SlF mI 0 T w1 sv x.set) (hT : ∀ k, T k → wr.heap.size ≤ k ∧ k < w1.heap.size) (h1c : sv.oneCell' = true)
    (hP : Pushd w1 W (.cells #[.int .i64 x.kind, sv, .int .i64 x.mn, .int .i64 x.mx] 71)) (hlen : ps.length ≤ 16777216)
    (K : ∀ v' w', GrowP base w' v' (ps ++ [⟨x, sv, T⟩]) → wr.grownBy w' v.ownBlock → OwnOr wr v v' → wpList Try.prog ops Q rest (a.put o.dst v') w') : wpList Try.prog ops Q (o :: rest) a W := by
  subst hN
  obtain ⟨j0, hj, hy0, hy1, hy2⟩ := info_parts Try.zinOp
  have hown := hP.own (own_keep h.own hb (Nat.le_refl _))
  have hB : Below wr.heap.size wr W := hb.trans (hP.below.mono hb.size)
  refine wpList_append_own_at W hgd s y 23 ho base 71 j0 (.agg #[.int .i64 0, .slice none 0 0, .int .i64 0, .int .i64 0]) 4 48 Try.underlying23 hj hy0 hy1 hy2 rfl (by decide) v ps.length (cellsP ps) hs hown ⟨w1.heap.size, 0, none⟩ 1 1 (cell4 x sv) hy rfl ?_ ?_ ?_ ?_ ?_ ?_
  · exact Pushd.news hP
  · intro u hu
    simp only [cell4, List.mem_cons, List.not_mem_nil, or_false] at hu
    rcases hu with rfl | rfl | rfl | rfl
    · rfl
    · exact h1c
    · rfl
    · rfl
  · unfold maxLen; omega
  · omega
  · have := hP.size; have := hb.size; omega
  · intro v' w' q1 q2 _ q3
    obtain ⟨r1, r2⟩ := h.app1 hbase hb hsl hT hP q1 q2 q3
    refine K v' w' r1 (grown_of hB q2) (q3.imp id (fun e => ⟨_, hB.size, e⟩))

/-- What appendOps leaves. -/
def OpsRet (base : Nat) (w : World) (v : Value) (ps : List Pc) (L : List El) (e : Ending) (w' : World) : Prop :=
  ∃ v' qs, e = .returned v' ∧ GrowP base w' v' (ps ++ qs) ∧ qs.map Pc.x = L ∧ w.grownBy w' v.ownBlock ∧ OwnOr w v v'

/-- u is an interface value whose method appendOps puts L behind what there is. -/
def OpsAs (u : Value) (L : List El) : Prop := ∃ (T : TypeId) (x : Value) (F : FuncId), u = .iface T x ∧
  (∀ w, Sem.run Try.prog (method 226 T x "loop.example/s0027/impl.appendOps") w = .ok (F, x) w) ∧ (∀ y w, Sem.run Try.prog (callFunc F #[x, y]) w = .ok (.enter F #[x, y]) w) ∧
  ∀ (base : Nat) (v : Value) (ps : List Pc) (w : World), base ≤ w.heap.size → GrowP base w v ps → ps.length + L.length ≤ 1000000 → Calls Try.prog F #[x, v] w fun e w' => OpsRet base w v ps L e w'

set_option maxHeartbeats 1000000 in
theorem eOps_any (base : Nat) (v : Value) (ps : List Pc) (w : World) (hbase : base ≤ w.heap.size) (h : GrowP base w v ps) (hl : ps.length ≤ 1000000) :
    Calls Try.prog 95 #[.agg #[], v] w fun e w' => OpsRet base w v ps ([⟨0, [], 0, 0⟩]) e w' := by
  obtain ⟨oa, oc, rfl⟩ := own_is h.own
  have H := hide h
  clear h
  go_enter Try.func95, Try.ntmps95
  go_wp2_with (at_builtin; refine app_op2 (wr := w) ⟨0, [], 0, 0⟩ (.slice none 0 0) (fun _ => False) rfl _ _ rfl rfl (w.heap.size + 1) (sz_alloc w _) rfl (unhide H) hbase (below1 w _) (SlF.none _) (fun k hk => hk.elim) rfl ⟨rfl, rfl, rfl, rfl⟩ (by omega) ?_)
  intro v' w' q1 q2 q3
  have Q1 := hide q1
  have Q2 := hide q2
  have Q3 := hide q3
  clear q1 q2 q3
  go_wp2
  go_ret
  exact ⟨_, _, rfl, unhide Q1, rfl, unhide Q2, unhide Q3⟩

set_option maxHeartbeats 1000000 in
theorem sOps_any (g : Nat → Nat) (xs : List Int) (hg : WordsOf xs g) (hcn : Canon xs) (base : Nat) (v : Value) (ps : List Pc) (w : World) (hbase : base ≤ w.heap.size) (h : GrowP base w v ps) (hl : ps.length ≤ 1000000) :
    Calls Try.prog 102 #[ws4 g, v] w fun e w' => OpsRet base w v ps ([⟨1, xs, 0, 0⟩]) e w' := by
  obtain ⟨oa, oc, rfl⟩ := own_is h.own
  have H := hide h
  have HG := hide hg
  clear h hg
  unfold ws4
  go_enter Try.func102, Try.ntmps102
  go_wp2_with fail
  refine (pairs_w g xs _ (unhide HG) hcn).mono ?_
  rintro e w1 ⟨v1, rfl, hs1, hb1⟩
  obtain ⟨sa, sc, rfl⟩ : ∃ a c, v1 = .slice a xs.length c := by obtain ⟨a, c, e, -⟩ := hs1; exact ⟨a, c, e⟩
  have Hs1 := hide hs1.foot
  have hz1 := hb1.size
  have hB1 : Below w.heap.size w w1 := (below1 w _).trans (hb1.mono (by rw [sz_alloc]; omega))
  rw [sz_alloc] at hz1
  clear hs1
  go_wp2_with (at_builtin; refine app_op2 (wr := w) ⟨1, xs, 0, 0⟩ (.slice sa xs.length sc) (Rng (w.heap.size + 1) w1.heap.size) rfl _ _ rfl rfl w1.heap.size rfl rfl (unhide H) hbase hB1 ((unhide Hs1).mono (fun k hk => ⟨by have := hk.1; rw [sz_alloc] at this; exact this, hk.2⟩)) (fun k hk => ⟨by have := hk.1; omega, hk.2⟩) rfl ⟨rfl, rfl, rfl, rfl⟩ (by omega) ?_)
  intro v' w' q1 q2 q3
  have Q1 := hide q1
  have Q2 := hide q2
  have Q3 := hide q3
  clear q1 q2 q3
  go_wp2
  go_ret
  exact ⟨_, _, rfl, unhide Q1, rfl, unhide Q2, unhide Q3⟩

theorem Pushd.grow {w W : World} {o : Obj} (hP : Pushd w W o) {base : Nat} {v : Value} {ps : List Pc} (h : GrowP base w v ps) : GrowP base W v ps := h.keep hP.below (Nat.le_refl _)
theorem GrowP.drew {w : World} {base : Nat} {v : Value} {ps : List Pc} (h : GrowP base w v ps) : GrowP base w.drew v ps := ⟨h.own, h.set, h.blk, h.dis⟩
theorem recv_cell {w W w1 : World} {cs : Array Value} {t : TypeId} {v : Value} {base : Nat} {ps : List Pc} (hP : Pushd w W (.cells cs t)) (h : GrowP base w v ps) (hg : W.grownBy w1 v.ownBlock) (i : Nat) : w1.cell? ⟨w.heap.size, i, none⟩ = cs[i]? := by
  have h1 : w1.heap[w.heap.size]? = some (.cells cs t) := by
    rw [hg.block w.heap.size (by rw [hP.size]; omega) (fun e => by have := (h.own.lt _ e.symm).2; omega)]
    exact hP.new
  simp [World.cell?, h1]
theorem OwnOr.weak {w W : World} {v v' : Value} (h : OwnOr W v v') (hz : w.heap.size ≤ W.heap.size) : OwnOr w v v' := h.imp id (fun ⟨k, h1, h2⟩ => ⟨k, by omega, h2⟩)

/-- What two calls and an append leave. -/
theorem ops_end {base : Nat} {w W w1 w2 w3 : World} {v v1 v2 v3 : Value} {ps qs rs : List Pc} {p : Pc} {o : Obj} {L R : List El} (hP : Pushd w W o) (g1 : qs.map Pc.x = L) (g2 : W.grownBy w1 v.ownBlock) (g3 : OwnOr W v v1) (k1 : rs.map Pc.x = R) (k2 : w1.grownBy w2 v1.ownBlock) (k3 : OwnOr w1 v1 v2)
    (h : GrowP base w3 v3 (ps ++ (qs ++ (rs ++ [p])))) (m2 : w2.grownBy w3 v2.ownBlock) (m3 : OwnOr w2 v2 v3) : ∃ us, GrowP base w3 v3 (ps ++ us) ∧ us.map Pc.x = L ++ R ++ [p.x] ∧ w.grownBy w3 v.ownBlock ∧ OwnOr w v v3 := by
  have hb := hP.below
  have g2' := grown_of hb g2
  have g3' : OwnOr w v v1 := g3.weak hb.size
  have a2 := grown_trans g2' g3' k2
  have a3 : OwnOr w v v2 := g3'.trans g2'.size k3
  exact ⟨qs ++ (rs ++ [p]), h, by simp [g1, k1], grown_trans a2 a3 m2, a3.trans a2.size m3⟩

/-- What one call and an append leave. -/
theorem ops_end1 {base : Nat} {w W w1 w3 : World} {v v1 v3 : Value} {ps qs : List Pc} {p : Pc} {o : Obj} {L : List El} (hP : Pushd w W o) (g1 : qs.map Pc.x = L) (g2 : W.grownBy w1 v.ownBlock) (g3 : OwnOr W v v1)
    (h : GrowP base w3 v3 (ps ++ (qs ++ [p]))) (m2 : w1.grownBy w3 v1.ownBlock) (m3 : OwnOr w1 v1 v3) : ∃ us, GrowP base w3 v3 (ps ++ us) ∧ us.map Pc.x = L ++ [p.x] ∧ w.grownBy w3 v.ownBlock ∧ OwnOr w v v3 := by
  have hb := hP.below
  have g2' := grown_of hb g2
  have g3' : OwnOr w v v1 := g3.weak hb.size
  exact ⟨qs ++ [p], h, by simp [g1], grown_trans g2' g3' m2, g3'.trans g2'.size m3⟩

set_option maxHeartbeats 1000000 in
theorem repOps_any (u : Value) (L : List El) (mn mx : Int) (hu : OpsAs u L) (base : Nat) (v : Value) (ps : List Pc) (w : World) (hbase : base ≤ w.heap.size) (h : GrowP base w v ps) (hl : ps.length + L.length ≤ 999999) :
    Calls Try.prog 97 #[.agg #[u, .int .i64 mn, .int .i64 mx], v] w fun e w' => OpsRet base w v ps (L ++ [⟨4, [], mn, mx⟩]) e w' := by
  obtain ⟨T, x, F, rfl, hm, hcf, hF⟩ := hu
  obtain ⟨oa, oc, rfl⟩ := own_is h.own
  have H := hide h
  have HF := hide hF
  clear h hF
  go_enter Try.func97, Try.ntmps97
  have hA : Hid (∀ (W w1 : World), Pushd w W (.cells #[.iface T x, .int .i64 mn, .int .i64 mx] 93) → W.grownBy w1 (Value.slice oa ps.length oc).ownBlock → w1.cell? ⟨w.heap.size, 1, none⟩ = some (.int .i64 mn) ∧ w1.cell? ⟨w.heap.size, 2, none⟩ = some (.int .i64 mx) ∧ w.heap.size ≤ w1.heap.size) := fun W w1 hP hg => ⟨recv_cell hP (unhide H) hg 1, recv_cell hP (unhide H) hg 2, Nat.le_trans hP.below.size hg.size⟩
  go_wp2_with (with_reducible refine (unhide HF base _ ps _ ?_ ?_ (by omega)).mono ?_)
  · refine Nat.le_trans hbase ?_
    show w.heap.size ≤ (w.alloc _).heap.size
    rw [sz_alloc]; omega
  · refine Pushd.grow (w := w) (o := .cells #[.iface T x, .int .i64 mn, .int .i64 mx] 93) ?_ (unhide H)
    exact ⟨rfl, rfl, rfl, rfl⟩
  rintro e w1 ⟨v2, qs, rfl, g1, g2, g3, g4⟩
  obtain ⟨hc0, hc1, hz1⟩ := unhide hA _ w1 (by exact ⟨rfl, rfl, rfl, rfl⟩) g3
  have hql : qs.length = L.length := by rw [← g2, List.length_map]
  have G1 := hide g1
  have G2 := hide g2
  have G3 := hide g3
  have G4 := hide g4
  clear g1 g2 g3 g4
  go_wp2_with (at_builtin; refine app_op2 (wr := w1) ⟨4, [], mn, mx⟩ (.slice none 0 0) (fun _ => False) rfl _ _ rfl rfl w1.heap.size rfl rfl (unhide G1) (Nat.le_trans hbase hz1) (Below.refl _ _) (SlF.none _) (fun k hk => hk.elim) rfl ⟨rfl, rfl, rfl, rfl⟩ (by rw [List.length_append]; omega) ?_)
  intro v4 w4 m1 m2 m3
  have hfin := hide (ops_end1 (w := w) (o := .cells #[.iface T x, .int .i64 mn, .int .i64 mx] 93) (by exact ⟨rfl, rfl, rfl, rfl⟩) (unhide G2) (unhide G3) (unhide G4) (by simpa [List.append_assoc] using m1) m2 m3)
  clear m1 m2 m3
  go_wp2
  go_ret
  obtain ⟨us, r1, r2, r3, r4⟩ := unhide hfin
  exact ⟨_, us, rfl, r1, r2, r3, r4⟩


set_option maxHeartbeats 1000000 in
theorem catOps_any (u v1 : Value) (L R : List El) (hu : OpsAs u L) (hv : OpsAs v1 R) (base : Nat) (v : Value) (ps : List Pc) (w : World) (hbase : base ≤ w.heap.size) (h : GrowP base w v ps) (hl : ps.length + L.length + R.length ≤ 999999) :
    Calls Try.prog 99 #[.agg #[u, v1], v] w fun e w' => OpsRet base w v ps (L ++ R ++ [⟨2, [], 0, 0⟩]) e w' := by
  obtain ⟨T, x, F, rfl, hm, hcf, hF⟩ := hu
  obtain ⟨T', x', F', rfl, hm', hcf', hF'⟩ := hv
  obtain ⟨oa, oc, rfl⟩ := own_is h.own
  have H := hide h
  have HF := hide hF
  have HG := hide hF'
  clear h hF hF'
  go_enter Try.func99, Try.ntmps99
  have hA : Hid (∀ (W w1 : World), Pushd w W (.cells #[.iface T x, .iface T' x'] 95) → W.grownBy w1 (Value.slice oa ps.length oc).ownBlock → w1.cell? ⟨w.heap.size, 0, none⟩ = some (.iface T x) ∧ w1.cell? ⟨w.heap.size, 1, none⟩ = some (.iface T' x') ∧ w.heap.size ≤ w1.heap.size) := fun W w1 hP hg => ⟨recv_cell hP (unhide H) hg 0, recv_cell hP (unhide H) hg 1, Nat.le_trans hP.below.size hg.size⟩
  go_wp2
  go_region_with ((first | ((with_reducible refine (unhide HF base _ ps _ ?_ ?_ (by omega)).mono ?_); (refine Nat.le_trans hbase ?_; show w.heap.size ≤ (w.alloc _).heap.size; rw [sz_alloc]; omega); (refine Pushd.grow (w := w) (o := .cells #[.iface T x, .iface T' x'] 95) ?_ (unhide H); exact ⟨rfl, rfl, rfl, rfl⟩); rintro e w1 ⟨v2, qs, rfl, g1, g2, g3, g4⟩; obtain ⟨hc0, hc1, hz1⟩ := unhide hA _ w1 (by exact ⟨rfl, rfl, rfl, rfl⟩) g3; have hql : qs.length = L.length := (by rw [← g2, List.length_map]); have G1 := hide g1; have G2 := hide g2; have G3 := hide g3; have G4 := hide g4; clear g1 g2 g3 g4) | ((with_reducible refine (unhide HG base _ (ps ++ qs) _ ?_ ?_ ?_).mono ?_); (show base ≤ w1.heap.size; omega); (first | exact unhide G1 | exact (unhide G1).drew); (rw [List.length_append]; omega); rintro e w2 ⟨v3, rs, rfl, k1, k2, k3, k4⟩; have hrl : rs.length = R.length := (by rw [← k2, List.length_map]); have K1 := hide k1; have K2 := hide k2; have K3 := hide k3; have K4 := hide k4; have hz2 := k3.size; clear k1 k2 k3 k4)))
  all_goals
    clear hc0 hc1
    go_wp2_with (at_builtin; refine app_op2 (wr := w2) ⟨2, [], 0, 0⟩ (.slice none 0 0) (fun _ => False) rfl _ _ rfl rfl w2.heap.size rfl rfl (unhide K1) (Nat.le_trans hbase (Nat.le_trans hz1 hz2)) (Below.refl _ _) (SlF.none _) (fun k hk => hk.elim) rfl ⟨rfl, rfl, rfl, rfl⟩ (by rw [List.length_append, List.length_append]; omega) ?_)
    intro v4 w4 m1 m2 m3
    have hfin := hide (ops_end (w := w) (o := .cells #[.iface T x, .iface T' x'] 95) (by exact ⟨rfl, rfl, rfl, rfl⟩) (unhide G2) (unhide G3) (unhide G4) (unhide K2) (unhide K3) (unhide K4) m1 m2 m3)
    clear m1 m2 m3
    go_wp2
    go_ret
    obtain ⟨us, r1, r2, r3, r4⟩ := unhide hfin
    exact ⟨_, us, rfl, r1, by simpa using r2, r3, r4⟩

set_option maxHeartbeats 1000000 in
theorem altOps_any (u v1 : Value) (L R : List El) (hu : OpsAs u L) (hv : OpsAs v1 R) (base : Nat) (v : Value) (ps : List Pc) (w : World) (hbase : base ≤ w.heap.size) (h : GrowP base w v ps) (hl : ps.length + L.length + R.length ≤ 999999) :
    Calls Try.prog 92 #[.agg #[u, v1], v] w fun e w' => OpsRet base w v ps (L ++ R ++ [⟨3, [], 0, 0⟩]) e w' := by
  obtain ⟨T, x, F, rfl, hm, hcf, hF⟩ := hu
  obtain ⟨T', x', F', rfl, hm', hcf', hF'⟩ := hv
  obtain ⟨oa, oc, rfl⟩ := own_is h.own
  have H := hide h
  have HF := hide hF
  have HG := hide hF'
  clear h hF hF'
  go_enter Try.func92, Try.ntmps92
  have hA : Hid (∀ (W w1 : World), Pushd w W (.cells #[.iface T x, .iface T' x'] 85) → W.grownBy w1 (Value.slice oa ps.length oc).ownBlock → w1.cell? ⟨w.heap.size, 0, none⟩ = some (.iface T x) ∧ w1.cell? ⟨w.heap.size, 1, none⟩ = some (.iface T' x') ∧ w.heap.size ≤ w1.heap.size) := fun W w1 hP hg => ⟨recv_cell hP (unhide H) hg 0, recv_cell hP (unhide H) hg 1, Nat.le_trans hP.below.size hg.size⟩
  go_wp2
  go_region_with ((first | ((with_reducible refine (unhide HF base _ ps _ ?_ ?_ (by omega)).mono ?_); (refine Nat.le_trans hbase ?_; show w.heap.size ≤ (w.alloc _).heap.size; rw [sz_alloc]; omega); (refine Pushd.grow (w := w) (o := .cells #[.iface T x, .iface T' x'] 85) ?_ (unhide H); exact ⟨rfl, rfl, rfl, rfl⟩); rintro e w1 ⟨v2, qs, rfl, g1, g2, g3, g4⟩; obtain ⟨hc0, hc1, hz1⟩ := unhide hA _ w1 (by exact ⟨rfl, rfl, rfl, rfl⟩) g3; have hql : qs.length = L.length := (by rw [← g2, List.length_map]); have G1 := hide g1; have G2 := hide g2; have G3 := hide g3; have G4 := hide g4; clear g1 g2 g3 g4) | ((with_reducible refine (unhide HG base _ (ps ++ qs) _ ?_ ?_ ?_).mono ?_); (show base ≤ w1.heap.size; omega); (first | exact unhide G1 | exact (unhide G1).drew); (rw [List.length_append]; omega); rintro e w2 ⟨v3, rs, rfl, k1, k2, k3, k4⟩; have hrl : rs.length = R.length := (by rw [← k2, List.length_map]); have K1 := hide k1; have K2 := hide k2; have K3 := hide k3; have K4 := hide k4; have hz2 := k3.size; clear k1 k2 k3 k4)))
  all_goals
    clear hc0 hc1
    go_wp2_with (at_builtin; refine app_op2 (wr := w2) ⟨3, [], 0, 0⟩ (.slice none 0 0) (fun _ => False) rfl _ _ rfl rfl w2.heap.size rfl rfl (unhide K1) (Nat.le_trans hbase (Nat.le_trans hz1 hz2)) (Below.refl _ _) (SlF.none _) (fun k hk => hk.elim) rfl ⟨rfl, rfl, rfl, rfl⟩ (by rw [List.length_append, List.length_append]; omega) ?_)
    intro v4 w4 m1 m2 m3
    have hfin := hide (ops_end (w := w) (o := .cells #[.iface T x, .iface T' x'] 85) (by exact ⟨rfl, rfl, rfl, rfl⟩) (unhide G2) (unhide G3) (unhide G4) (unhide K2) (unhide K3) (unhide K4) m1 m2 m3)
    clear m1 m2 m3
    go_wp2
    go_ret
    obtain ⟨us, r1, r2, r3, r4⟩ := unhide hfin
    exact ⟨_, us, rfl, r1, by simpa using r2, r3, r4⟩


/-! The values of the nodes. -/
def eV : Value := .iface 90 (.agg #[])
def sV (g : Nat → Nat) : Value := .iface 101 (ws4 g)
def cV (u v : Value) : Value := .iface 95 (.agg #[u, v])
def aV (u v : Value) : Value := .iface 85 (.agg #[u, v])
def rV (u : Value) (mn mx : Int) : Value := .iface 93 (.agg #[u, .int .i64 mn, .int .i64 mx])


theorem ops_e (w : World) : Sem.run Try.prog (method 226 90 (.agg #[]) "loop.example/s0027/impl.appendOps") w = .ok (95, .agg #[]) w := by kernel_rfl
theorem ocall_e (y : Value) (w : World) : Sem.run Try.prog (callFunc 95 #[.agg #[], y]) w = .ok (.enter 95 #[.agg #[], y]) w := by kernel_rfl
theorem ops_s (x : Value) (w : World) : Sem.run Try.prog (method 226 101 x "loop.example/s0027/impl.appendOps") w = .ok (102, x) w := by kernel_rfl
theorem ocall_s (x y : Value) (w : World) : Sem.run Try.prog (callFunc 102 #[x, y]) w = .ok (.enter 102 #[x, y]) w := by kernel_rfl
theorem ops_cat (x : Value) (w : World) : Sem.run Try.prog (method 226 95 x "loop.example/s0027/impl.appendOps") w = .ok (99, x) w := by kernel_rfl
theorem ocall_cat (x y : Value) (w : World) : Sem.run Try.prog (callFunc 99 #[x, y]) w = .ok (.enter 99 #[x, y]) w := by kernel_rfl
theorem ops_alt (x : Value) (w : World) : Sem.run Try.prog (method 226 85 x "loop.example/s0027/impl.appendOps") w = .ok (92, x) w := by kernel_rfl
theorem ocall_alt (x y : Value) (w : World) : Sem.run Try.prog (callFunc 92 #[x, y]) w = .ok (.enter 92 #[x, y]) w := by kernel_rfl
theorem ops_rep (x : Value) (w : World) : Sem.run Try.prog (method 226 93 x "loop.example/s0027/impl.appendOps") w = .ok (97, x) w := by kernel_rfl
theorem ocall_rep (x y : Value) (w : World) : Sem.run Try.prog (callFunc 97 #[x, y]) w = .ok (.enter 97 #[x, y]) w := by kernel_rfl

theorem OpsAs.e : OpsAs eV [⟨0, [], 0, 0⟩] := ⟨_, _, _, rfl, ops_e, ocall_e, fun base v ps w h1 h2 h3 => eOps_any base v ps w h1 h2 (by omega)⟩
theorem OpsAs.s {g : Nat → Nat} {xs : List Int} (hg : WordsOf xs g) (hc : Canon xs) : OpsAs (sV g) [⟨1, xs, 0, 0⟩] := ⟨_, _, _, rfl, ops_s _, ocall_s _, fun base v ps w h1 h2 h3 => sOps_any g xs hg hc base v ps w h1 h2 (by omega)⟩
theorem OpsAs.cat {u v : Value} {L R : List El} (hu : OpsAs u L) (hv : OpsAs v R) : OpsAs (cV u v) (L ++ R ++ [⟨2, [], 0, 0⟩]) := ⟨_, _, _, rfl, ops_cat _, ocall_cat _, fun base y ps w h1 h2 h3 => catOps_any u v L R hu hv base y ps w h1 h2 (by simp only [List.length_append, List.length_singleton] at h3; omega)⟩
theorem OpsAs.alt {u v : Value} {L R : List El} (hu : OpsAs u L) (hv : OpsAs v R) : OpsAs (aV u v) (L ++ R ++ [⟨3, [], 0, 0⟩]) := ⟨_, _, _, rfl, ops_alt _, ocall_alt _, fun base y ps w h1 h2 h3 => altOps_any u v L R hu hv base y ps w h1 h2 (by simp only [List.length_append, List.length_singleton] at h3; omega)⟩
theorem OpsAs.rep {u : Value} {L : List El} (hu : OpsAs u L) (mn mx : Int) : OpsAs (rV u mn mx) (L ++ [⟨4, [], mn, mx⟩]) := ⟨_, _, _, rfl, ops_rep _, ocall_rep _, fun base y ps w h1 h2 h3 => repOps_any u L mn mx hu base y ps w h1 h2 (by simp only [List.length_append, List.length_singleton] at h3; omega)⟩

end Go.Proofs.Ytjjmgegbeccjoaa
