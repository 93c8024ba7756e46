import Derived.Test.YtinhliecfjlocaaGreatW1
import Derived.Test.YtinhliecfjlocaaGreatPk5
import Derived.Test.YtinhliecfjlocaaGreatC5
import Derived.Test.YtinhliecfjlocaaGreatD3
import Derived.Test.YtinhliecfjlocaaGreatD1
import Derived.RegionTactic
import Derived.BigRegion
namespace Go.Proofs.YtinhliecfjlocaaGreat
open Go.RowKit
/-! The values of the nodes. -/
def eV : Value := .iface 124 (.agg #[])
def sV (g : Nat → Nat) : Value := .iface 128 (ws4 g)
def cV (u v : Value) : Value := .iface 132 (.agg #[u, v])
def aV (u v : Value) : Value := .iface 134 (.agg #[u, v])
def rV (u : Value) (mn mx : Int) : Value := .iface 136 (.agg #[u, .int .i64 mn, .int .i64 mx])
theorem w64q {n : Int} (h0 : 0 ≤ n) (h1 : n ≤ 1000000) : wrap64 n = n := by unfold wrap64; omega
theorem cap_self {c : Int} (h : c ≤ 501) : cap c = c := by unfold cap; split <;> omega
set_option maxHeartbeats 400000 in
set_option maxRecDepth 100000 in
theorem repSize_any (c mn mx : Int) (u : Value) (w : World) (hu : SizeAs u c) (a0 : 0 ≤ c) (a1 : c ≤ 501) (o2 : 0 ≤ mn) (o3 : mn ≤ 250) (o4 : mx = -1 ∨ (mn ≤ mx ∧ mx ≤ 250)) :
    Calls Tryz.prog 176 #[.agg #[u, .int .i64 mn, .int .i64 mx]] w fun e w' => e = .returned (.int .i64 (cap (repSize c mn mx))) ∧ Below w.heap.size w w' := by
  obtain ⟨T, x, F, rfl, hm, hcf, hF⟩ := hu
  have HF := hide hF
  clear hF
  have m1 : mn * c ≤ 250 * 501 := Int.mul_le_mul o3 a1 a0 (by omega)
  have m0 : 0 ≤ mn * c := Int.mul_nonneg o2 a0
  have x1 : wrap64 (mn * c) = mn * c := w64q (by omega) (by omega)
  have x2 : wrap64 (mn * c + 1) = mn * c + 1 := w64q (by omega) (by omega)
  rcases o4 with rfl | ⟨o4, o5⟩
  · by_cases hm1 : mn < 1
    · rw [repSize_a hm1]
      have hmx : max (1 : Int) mn = 1 := by omega
      go_enter Tryz.func176, Tryz.ntmps176
      go_wp2_with ((first | ((with_reducible refine (unhide HF _).mono ?_); rintro e w1 ⟨rfl, hb1⟩; have hc1 := (bcell hb1).1; simp only [sz_alloc] at hc1) | (go_at_call 172; refine (cappedSize_any _ _).mono ?_; rintro e w3 ⟨rfl, hw3⟩; subst hw3)))
      go_ret
      exact ⟨rfl, (below1 w _).trans (hb1.mono (by rw [sz_alloc]; omega))⟩
    · rw [repSize_b hm1]
      by_cases hm2 : 1 < mn
      · have hm3 : ¬ mn ≤ 1 := by omega
        have hmx : max (1 : Int) mn = mn := by omega
        go_enter Tryz.func176, Tryz.ntmps176
        go_wp2_with ((first | ((with_reducible refine (unhide HF _).mono ?_); rintro e w1 ⟨rfl, hb1⟩; have hc1 := (bcell hb1).1; simp only [sz_alloc] at hc1) | (go_at_call 172; refine (cappedSize_any _ _).mono ?_; rintro e w3 ⟨rfl, hw3⟩; subst hw3)))
        go_ret
        exact ⟨rfl, (below1 w _).trans (hb1.mono (by rw [sz_alloc]; omega))⟩
      · obtain rfl : mn = 1 := by omega
        rw [Int.one_mul]
        clear m1 m0 x1 x2
        go_enter Tryz.func176, Tryz.ntmps176
        go_wp2_with ((first | ((with_reducible refine (unhide HF _).mono ?_); rintro e w1 ⟨rfl, hb1⟩; have hc1 := (bcell hb1).1; simp only [sz_alloc] at hc1) | (go_at_call 172; refine (cappedSize_any _ _).mono ?_; rintro e w3 ⟨rfl, hw3⟩; subst hw3)))
        go_ret
        exact ⟨rfl, (below1 w _).trans (hb1.mono (by rw [sz_alloc]; omega))⟩
  · by_cases hx0 : mx = 0
    · subst hx0
      rw [repSize_c, cap_self a1]
      go_enter Tryz.func176, Tryz.ntmps176
      go_wp2_with ((first | ((with_reducible refine (unhide HF _).mono ?_); rintro e w1 ⟨rfl, hb1⟩; have hc1 := (bcell hb1).1; simp only [sz_alloc] at hc1) | (go_at_call 172; refine (cappedSize_any _ _).mono ?_; rintro e w3 ⟨rfl, hw3⟩; subst hw3)))
      go_ret
      exact ⟨rfl, (below1 w _).trans (hb1.mono (by rw [sz_alloc]; omega))⟩
    · rw [repSize_d (by omega) hx0]
      have hx1 : (mx == -1) = false := by simp; omega
      have hx2 : (mx == 0) = false := by simp [hx0]
      have m2 : (mx - mn) * (c + 1) ≤ 250 * 502 := Int.mul_le_mul (by omega) (by omega) (by omega) (by omega)
      have m3 : 0 ≤ (mx - mn) * (c + 1) := Int.mul_nonneg (by omega) (by omega)
      have x3 : wrap64 ((mx - mn) * (c + 1)) = (mx - mn) * (c + 1) := w64q (by omega) (by omega)
      have x4 : wrap64 (mn * c + (mx - mn) * (c + 1)) = mn * c + (mx - mn) * (c + 1) := w64q (by omega) (by omega)
      go_enter Tryz.func176, Tryz.ntmps176
      go_wp2_with ((first | ((with_reducible refine (unhide HF _).mono ?_); rintro e w1 ⟨rfl, hb1⟩; have hc1 := (bcell hb1).1; simp only [sz_alloc] at hc1) | (go_at_call 172; refine (cappedSize_any _ _).mono ?_; rintro e w3 ⟨rfl, hw3⟩; subst hw3)))
      go_ret
      exact ⟨rfl, (below1 w _).trans (hb1.mono (by rw [sz_alloc]; omega))⟩
set_option maxHeartbeats 400000 in
theorem eSize_any (w : World) : Calls Tryz.prog 167 #[.agg #[]] w fun e w' => e = .returned (.int .i64 1) ∧ Below w.heap.size w w' := by
  go_enter Tryz.func167, Tryz.ntmps167
  go_wp2
  go_ret
  exact ⟨rfl, below1 w _⟩
set_option maxHeartbeats 400000 in
theorem sSize_any (a b c d : Int) (w : World) : Calls Tryz.prog 169 #[.agg #[.int .u64 a, .int .u64 b, .int .u64 c, .int .u64 d]] w fun e w' => e = .returned (.int .i64 1) ∧ Below w.heap.size w w' := by
  go_enter Tryz.func169, Tryz.ntmps169
  go_wp2
  go_ret
  exact ⟨rfl, below1 w _⟩
theorem size_e (w : World) : Sem.run Tryz.prog (method 310 124 (.agg #[]) "loop.example/s0027/impl.size") w = .ok (167, .agg #[]) w := by kernel_rfl
theorem call_e (w : World) : Sem.run Tryz.prog (callFunc 167 #[.agg #[]]) w = .ok (.enter 167 #[.agg #[]]) w := by kernel_rfl
theorem size_s (x : Value) (w : World) : Sem.run Tryz.prog (method 310 128 x "loop.example/s0027/impl.size") w = .ok (169, x) w := by kernel_rfl
theorem call_s (x : Value) (w : World) : Sem.run Tryz.prog (callFunc 169 #[x]) w = .ok (.enter 169 #[x]) w := by kernel_rfl
theorem size_cat (x : Value) (w : World) : Sem.run Tryz.prog (method 310 132 x "loop.example/s0027/impl.size") w = .ok (171, x) w := by kernel_rfl
theorem call_cat (x : Value) (w : World) : Sem.run Tryz.prog (callFunc 171 #[x]) w = .ok (.enter 171 #[x]) w := by kernel_rfl
theorem size_alt (x : Value) (w : World) : Sem.run Tryz.prog (method 310 134 x "loop.example/s0027/impl.size") w = .ok (174, x) w := by kernel_rfl
theorem call_alt (x : Value) (w : World) : Sem.run Tryz.prog (callFunc 174 #[x]) w = .ok (.enter 174 #[x]) w := by kernel_rfl
theorem size_rep (x : Value) (w : World) : Sem.run Tryz.prog (method 310 136 x "loop.example/s0027/impl.size") w = .ok (176, x) w := by kernel_rfl
theorem call_rep (x : Value) (w : World) : Sem.run Tryz.prog (callFunc 176 #[x]) w = .ok (.enter 176 #[x]) w := by kernel_rfl
def SzV (u : Value) (c : Int) : Prop := SizeAs u c ∧ 0 ≤ c ∧ c ≤ 501
theorem SzV.iface {u : Value} {c : Int} (h : SzV u c) : ∃ T x, u = .iface T x := by
  obtain ⟨⟨T, x, F, rfl, -⟩, -⟩ := h
  exact ⟨T, x, rfl⟩
theorem SzV.e : SzV (.iface 124 (.agg #[])) 1 := ⟨⟨124, _, 167, rfl, size_e, call_e, eSize_any⟩, by omega⟩
theorem SzV.s (a b c d : Int) : SzV (.iface 128 (.agg #[.int .u64 a, .int .u64 b, .int .u64 c, .int .u64 d])) 1 := ⟨⟨128, _, 169, rfl, size_s _, call_s _, sSize_any a b c d⟩, by omega⟩
theorem SzV.cat {u v : Value} {a b : Int} (hu : SzV u a) (hv : SzV v b) : SzV (.iface 132 (.agg #[u, v])) (cap (a + b)) :=
  ⟨⟨132, _, 171, rfl, size_cat _, call_cat _, fun w => catSize_any _ _ u v w hu.1 hv.1 hu.2.1 hu.2.2 hv.2.1 hv.2.2⟩, cap_bd (by have := hu.2; have := hv.2; omega)⟩
theorem SzV.alt {u v : Value} {a b : Int} (hu : SzV u a) (hv : SzV v b) : SzV (.iface 134 (.agg #[u, v])) (cap (a + b)) :=
  ⟨⟨134, _, 174, rfl, size_alt _, call_alt _, fun w => altSize_any _ _ u v w hu.1 hv.1 hu.2.1 hu.2.2 hv.2.1 hv.2.2⟩, cap_bd (by have := hu.2; have := hv.2; omega)⟩
theorem SzV.rep {u : Value} {c mn mx : Int} (hu : SzV u c) (o2 : 0 ≤ mn) (o3 : mn ≤ 250) (o4 : mx = -1 ∨ (mn ≤ mx ∧ mx ≤ 250)) : SzV (.iface 136 (.agg #[u, .int .i64 mn, .int .i64 mx])) (cap (repSize c mn mx)) := by
  refine ⟨⟨136, _, 176, rfl, size_rep _, call_rep _, fun w => repSize_any _ mn mx u w hu.1 hu.2.1 hu.2.2 o2 o3 o4⟩, cap_bd ?_⟩
  have hc := hu.2
  unfold repSize
  split
  · have : 0 ≤ (if mn < 1 then 1 else mn) * c := Int.mul_nonneg (by split <;> omega) hc.1
    omega
  · split
    · exact hc.1
    · have h1 : 0 ≤ mn * c := Int.mul_nonneg o2 hc.1
      have h2 : 0 ≤ (mx - mn) * (c + 1) := Int.mul_nonneg (by omega) (by omega)
      omega
theorem Tryz.info82 : (Tryz.prog.info? 82).map (fun i => (i.zero, i.size, i.bytes)) = some (some .nilIface, 1, 16) := by kernel_rfl
def NVals : List (List El × Int) → List Value → Prop
  | [], [] => True
  | t :: ts, u :: us => SzV u t.2 ∧ NVals ts us
  | _, _ => False
theorem NVals.len : ∀ {ts : List (List El × Int)} {us : List Value}, NVals ts us → ts.length = us.length
  | [], [], _ => rfl
  | _ :: _, _ :: _, h => by simp [NVals.len h.2]
  | [], _ :: _, h => h.elim
  | _ :: _, [], h => h.elim
theorem NVals.append : ∀ {a b : List (List El × Int)} {us vs : List Value}, NVals a us → NVals b vs → NVals (a ++ b) (us ++ vs)
  | [], _, [], _, _, k => k
  | _ :: _, _, _ :: _, _, h, k => ⟨h.1, NVals.append h.2 k⟩
  | [], _, _ :: _, _, h, _ => h.elim
  | _ :: _, _, [], _, h, _ => h.elim
theorem NVals.split : ∀ {a b : List (List El × Int)} {us : List Value}, NVals (a ++ b) us → ∃ u v, us = u ++ v ∧ NVals a u ∧ NVals b v
  | [], _, us, h => ⟨[], us, rfl, trivial, h⟩
  | _ :: _, _, y :: _, h => by
    obtain ⟨u, v, rfl, hu, hv⟩ := NVals.split h.2
    exact ⟨y :: u, v, rfl, ⟨h.1, hu⟩, hv⟩
  | _ :: _, _, [], h => h.elim
theorem NVals.one {t : List El × Int} {us : List Value} (h : NVals [t] us) : ∃ u, us = [u] ∧ SzV u t.2 := by
  match us, h with
  | [u], h => exact ⟨u, rfl, h.1⟩
theorem NVals.two {s t : List El × Int} {us : List Value} (h : NVals [s, t] us) : ∃ u v, us = [u, v] ∧ SzV u s.2 ∧ SzV v t.2 := by
  match us, h with
  | [u, v], h => exact ⟨u, v, rfl, h.1, h.2.1⟩
theorem oc (k c : Int) (h : cnt k = c) (w : World) : Calls Tryz.prog 76 #[.int .i64 k] w fun e w' => e = .returned (.int .i64 c) ∧ w' = w := h ▸ operandCount_any k w
theorem cell_one {W : World} {N : Nat} {u : Value} (h : W.cell? ⟨N, 0, none⟩ = some u) : ∀ (j : Nat) (y : Value), [u][j]? = some y → W.cell? ((⟨N, 0, none⟩ : Addr).add j) = some y := by
  intro j y hj
  match j, hj with
  | 0, hj => simp at hj; subst hj; exact h
theorem grown_of_below {m : Nat} {w w' : World} (h : Below m w w') (hm : w.heap.size ≤ m) : w.grownBy w' none := ⟨h.os, h.tape, h.output, h.size, fun k hk _ => h.block k (by omega)⟩
theorem own_below {base n m : Nat} {w w' : World} {v : Value} {xs : List Value} (h : w.ownsRow base 82 1 v n xs) (hb : Below m w w') (hm : w.heap.size ≤ m) : w'.ownsRow base 82 1 v n xs :=
  h.kept (grown_of_below hb hm) (by cases v.ownBlock <;> simp)
theorem drew_own {base n : Nat} {w : World} {v : Value} {xs : List Value} {q : Nat} (h : w.ownsRow base 82 1 v n xs) : (w.drewN q).ownsRow base 82 1 v n xs := h
theorem sz_drewN (w : World) (q : Nat) : (w.drewN q).heap.size = w.heap.size := rfl
set_option maxHeartbeats 1000000 in
theorem validElement_any (v : Value) (x : El) (w : World) (hv : IntsAt 0 w.heap.size w v x.set) :
    Calls Tryz.prog 75 #[.agg #[.int .i64 x.kind, v, .int .i64 x.mn, .int .i64 x.mx]] w fun e w' => RetB e (ElOk x) ∧ Below w.heap.size w w' := by
  obtain ⟨a, cap, rfl, hl, -, -⟩ := id hv
  unfold maxLen at hl
  obtain ⟨k, xs, mn, mx⟩ := x
  simp only at *
  have Hv := hide hv
  clear hv
  by_cases h1 : k = 1
  · subst h1
    go_enter Tryz.func75, Tryz.ntmps75
    go_wp2_with fail
    refine (canonical_any _ xs _ (by exact (unhide Hv).below (below1 w _) (Nat.le_refl _))).mono ?_
    rintro e w1 ⟨hret, hb1⟩
    obtain ⟨hc1, hf1⟩ := bcell hb1
    simp only [sz_alloc] at hc1 hf1
    have hB : Below w.heap.size w w1 := (below1 w _).trans (hb1.mono (by rw [sz_alloc]; omega))
    clear hb1
    rcases hret.cases with ⟨rfl, hcn⟩ | ⟨rfl, hcn⟩
    · have Hcn := hide hcn
      clear hcn
      by_cases h2 : mn = 0
      · by_cases h3 : mx = 0
        · go_wp2
          go_ret
          exact ⟨RetB.yes (Or.inl ⟨rfl, unhide Hcn, h2, h3⟩), hB⟩
        · have h3' : (mx == 0) = false := by simp [h3]
          go_wp2
          go_ret
          exact ⟨RetB.no (by rintro (⟨q1, q2, q3, q4⟩ | ⟨q1, q2, q3, q4⟩ | ⟨q1, q2, q3, q4, q5⟩) <;> simp only at * <;> omega), hB⟩
      · have h2' : (mn == 0) = false := by simp [h2]
        go_wp2
        go_ret
        exact ⟨RetB.no (by rintro (⟨q1, q2, q3, q4⟩ | ⟨q1, q2, q3, q4⟩ | ⟨q1, q2, q3, q4, q5⟩) <;> simp only at * <;> omega), hB⟩
    · have Hcn := hide hcn
      clear hcn
      go_wp2
      go_ret
      exact ⟨RetB.no (by rintro (⟨q1, q2, q3, q4⟩ | ⟨q1, q2, q3, q4⟩ | ⟨q1, q2, q3, q4, q5⟩) <;> simp only at * <;> first | exact unhide Hcn q2 | omega), hB⟩
  · have b1 : (k == 1) = false := by simp [h1]
    by_cases h4 : k = 4
    · subst h4
      by_cases hlen : xs.length = 0
      · have hlen' : ((xs.length : Int) == 0) = true := by simp; exact List.eq_nil_of_length_eq_zero hlen
        have Hlen := hide hlen
        clear hlen
        go_enter Tryz.func75, Tryz.ntmps75
        go_wp2_with fail
        refine (validBounds_any mn mx _).mono ?_
        rintro e w1 ⟨hret, rfl⟩
        rcases hret.cases with ⟨rfl, hcn⟩ | ⟨rfl, hcn⟩
        · have Hcn := hide hcn
          clear hcn
          go_wp2
          go_ret
          exact ⟨RetB.yes (Or.inr (Or.inr ⟨rfl, unhide Hlen, unhide Hcn⟩)), below1 w _⟩
        · have Hcn := hide hcn
          clear hcn
          go_wp2
          go_ret
          exact ⟨RetB.no (by rintro (⟨q1, q2, q3, q4⟩ | ⟨q1, q2, q3, q4⟩ | ⟨q1, q2, q3⟩) <;> simp only at * <;> first | exact unhide Hcn q3 | omega), below1 w _⟩
      · have hlen' : ((xs.length : Int) == 0) = false := by simp; intro e; exact hlen (by rw [e]; rfl)
        go_enter Tryz.func75, Tryz.ntmps75
        go_wp2
        go_ret
        exact ⟨RetB.no (by rintro (⟨q1, q2, q3, q4⟩ | ⟨q1, q2, q3, q4⟩ | ⟨q1, q2, q3⟩) <;> simp only at * <;> omega), below1 w _⟩
    · have b4 : (k == 4) = false := by simp [h4]
      by_cases hk : k = 0 ∨ k = 2 ∨ k = 3
      · by_cases hlen : xs.length = 0
        · have hlen' : ((xs.length : Int) == 0) = true := by simp; exact List.eq_nil_of_length_eq_zero hlen
          have Hlen := hide hlen
          clear hlen h1 h4
          by_cases h2 : mn = 0
          · by_cases h3 : mx = 0
            · rcases hk with rfl | rfl | rfl
              all_goals
                go_enter Tryz.func75, Tryz.ntmps75
                go_wp2
                go_ret
                exact ⟨RetB.yes (Or.inr (Or.inl ⟨by simp, unhide Hlen, h2, h3⟩)), below1 w _⟩
            · have h3' : (mx == 0) = false := by simp [h3]
              rcases hk with rfl | rfl | rfl
              all_goals
                go_enter Tryz.func75, Tryz.ntmps75
                go_wp2
                go_ret
                exact ⟨RetB.no (by rintro (⟨q1, q2, q3, q4⟩ | ⟨q1, q2, q3, q4⟩ | ⟨q1, q2, q3, q4, q5⟩) <;> simp only at * <;> omega), below1 w _⟩
          · have h2' : (mn == 0) = false := by simp [h2]
            rcases hk with rfl | rfl | rfl
            all_goals
              go_enter Tryz.func75, Tryz.ntmps75
              go_wp2
              go_ret
              exact ⟨RetB.no (by rintro (⟨q1, q2, q3, q4⟩ | ⟨q1, q2, q3, q4⟩ | ⟨q1, q2, q3, q4, q5⟩) <;> simp only at * <;> omega), below1 w _⟩
        · have hlen' : ((xs.length : Int) == 0) = false := by simp; intro e; exact hlen (by rw [e]; rfl)
          clear h1 h4
          rcases hk with rfl | rfl | rfl
          all_goals
            go_enter Tryz.func75, Tryz.ntmps75
            go_wp2
            go_ret
            exact ⟨RetB.no (by rintro (⟨q1, q2, q3, q4⟩ | ⟨q1, q2, q3, q4⟩ | ⟨q1, q2, q3, q4, q5⟩) <;> simp only at * <;> omega), below1 w _⟩
      · have b0 : (k == 0) = false := by simp; omega
        have b2 : (k == 2) = false := by simp; omega
        have b3 : (k == 3) = false := by simp; omega
        go_enter Tryz.func75, Tryz.ntmps75
        go_wp2
        go_ret
        exact ⟨RetB.no (by rintro (⟨q1, q2, q3, q4⟩ | ⟨q1, q2, q3, q4⟩ | ⟨q1, q2, q3, q4, q5⟩) <;> simp only at * <;> omega), below1 w _⟩
theorem own_len {base n : Nat} {w : World} {v : Value} {vals : List Value} (hown : w.ownsRow base 82 1 v n vals) (h : 0 < n) : ∃ g cap, v = .slice (some ⟨g, 0, none⟩) n cap ∧ n ≤ cap ∧ cap ≤ maxLen := by
  rcases hown.2 with ⟨rfl, hn⟩ | ⟨g, cap, cur, rfl, hbg, hg, hnc, hcm, hcs, htake⟩
  · omega
  · exact ⟨g, cap, rfl, hnc, hcm⟩
end Go.Proofs.YtinhliecfjlocaaGreat
