import Derived.Test.YtjefklagedidmaaGreatP15
import Derived.Test.YtjefklagedidmaaGreatP13
import Derived.Test.YtjefklagedidmaaGreatP9
import Derived.RegionTactic
import Derived.BigRegion
namespace Go.Proofs.YtjefklagedidmaaGreat
open Go.RowKit

set_option maxHeartbeats 400000 in
set_option maxRecDepth 100000 in
theorem altSize_any (a b : Int) (u v : Value) (w : World) (hu : SizeAs u a) (hv : SizeAs v b) (a0 : 0 ≤ a) (a1 : a ≤ 501) (b0 : 0 ≤ b) (b1 : b ≤ 501) : Calls Tryz.prog 160 #[.agg #[u, v]] w fun e w' => e = .returned (.int .i64 (cap (a + b))) ∧ Below w.heap.size w w' := by
  obtain ⟨T, x, F, rfl, hm, hcf, hF⟩ := hu
  obtain ⟨T', x', F', rfl, hm', hcf', hF'⟩ := hv
  have hw2 : IntKind.i64.wrap (a + b) = a + b := by rw [IntKind.wrap_i64]; omega
  have hw1 : wrap64 (a + b) = a + b := by unfold wrap64; omega
  have HF := hide hF
  have HG := hide hF'
  clear hF hF'
  go_enter Tryz.func160, Tryz.ntmps160
  go_wp2
  go_region_with ((first | ((with_reducible refine (unhide HF _).mono ?_); rintro e w1 ⟨rfl, hb1⟩; have hb1' : Below (w.heap.size + 1) (w.alloc (.cells #[.iface T x, .iface T' x'] 106)) w1 := ⟨hb1.os, hb1.tape, hb1.output, hb1.size, fun k hk => hb1.block k (by simpa using hk)⟩; have hc1 := (bcell hb1').1; clear hb1) | ((with_reducible refine (unhide HG _).mono ?_); rintro e w2 ⟨rfl, hb2⟩) | (go_at_call 158; refine (cappedSize_any _ _).mono ?_; rintro e w3 ⟨rfl, rfl⟩)))
  all_goals
    have hB1 : Below w.heap.size w w1 := (below1 w _).trans (hb1'.mono (by omega))
    have hB2 : Below w.heap.size w w3 := hB1.trans (hb2.mono hB1.size)
    clear hc1 hb1' hb2
    go_wp2
    go_ret
    exact ⟨rfl, hB2⟩
end Go.Proofs.YtjefklagedidmaaGreat

namespace Go.Proofs.YtjefklagedidmaaGreat
open Go.RowKit

theorem w64q {n : Int} (h0 : 0 ≤ n) (h1 : n ≤ 1000000) : wrap64 n = n := by unfold wrap64; omega
theorem cap_self {c : Int} (h : c ≤ 501) : cap c = c := by unfold cap; split <;> omega

set_option maxHeartbeats 400000 in
set_option maxRecDepth 100000 in
theorem repSize_any (c mn mx : Int) (u : Value) (w : World) (hu : SizeAs u c) (a0 : 0 ≤ c) (a1 : c ≤ 501) (o2 : 0 ≤ mn) (o3 : mn ≤ 250) (o4 : mx = -1 ∨ (mn ≤ mx ∧ mx ≤ 250)) :
    Calls Tryz.prog 162 #[.agg #[u, .int .i64 mn, .int .i64 mx]] w fun e w' => e = .returned (.int .i64 (cap (repSize c mn mx))) ∧ Below w.heap.size w w' := by
  obtain ⟨T, x, F, rfl, hm, hcf, hF⟩ := hu
  have HF := hide hF
  clear hF
  have m1 : mn * c ≤ 250 * 501 := Int.mul_le_mul o3 a1 a0 (by omega)
  have m0 : 0 ≤ mn * c := Int.mul_nonneg o2 a0
  have x1 : wrap64 (mn * c) = mn * c := w64q (by omega) (by omega)
  have x2 : wrap64 (mn * c + 1) = mn * c + 1 := w64q (by omega) (by omega)
  rcases o4 with rfl | ⟨o4, o5⟩
  · by_cases hm1 : mn < 1
    · rw [repSize_a hm1]
      have hmx : max (1 : Int) mn = 1 := by omega
      go_enter Tryz.func162, Tryz.ntmps162
      go_wp2_with ((first | ((with_reducible refine (unhide HF _).mono ?_); rintro e w1 ⟨rfl, hb1⟩; have hc1 := (bcell hb1).1; simp only [sz_alloc] at hc1) | (go_at_call 158; refine (cappedSize_any _ _).mono ?_; rintro e w3 ⟨rfl, hw3⟩; subst hw3)))
      go_ret
      exact ⟨rfl, (below1 w _).trans (hb1.mono (by rw [sz_alloc]; omega))⟩
    · rw [repSize_b hm1]
      by_cases hm2 : 1 < mn
      · have hm3 : ¬ mn ≤ 1 := by omega
        have hmx : max (1 : Int) mn = mn := by omega
        go_enter Tryz.func162, Tryz.ntmps162
        go_wp2_with ((first | ((with_reducible refine (unhide HF _).mono ?_); rintro e w1 ⟨rfl, hb1⟩; have hc1 := (bcell hb1).1; simp only [sz_alloc] at hc1) | (go_at_call 158; refine (cappedSize_any _ _).mono ?_; rintro e w3 ⟨rfl, hw3⟩; subst hw3)))
        go_ret
        exact ⟨rfl, (below1 w _).trans (hb1.mono (by rw [sz_alloc]; omega))⟩
      · obtain rfl : mn = 1 := by omega
        rw [Int.one_mul]
        clear m1 m0 x1 x2
        go_enter Tryz.func162, Tryz.ntmps162
        go_wp2_with ((first | ((with_reducible refine (unhide HF _).mono ?_); rintro e w1 ⟨rfl, hb1⟩; have hc1 := (bcell hb1).1; simp only [sz_alloc] at hc1) | (go_at_call 158; refine (cappedSize_any _ _).mono ?_; rintro e w3 ⟨rfl, hw3⟩; subst hw3)))
        go_ret
        exact ⟨rfl, (below1 w _).trans (hb1.mono (by rw [sz_alloc]; omega))⟩
  · by_cases hx0 : mx = 0
    · subst hx0
      rw [repSize_c, cap_self a1]
      go_enter Tryz.func162, Tryz.ntmps162
      go_wp2_with ((first | ((with_reducible refine (unhide HF _).mono ?_); rintro e w1 ⟨rfl, hb1⟩; have hc1 := (bcell hb1).1; simp only [sz_alloc] at hc1) | (go_at_call 158; refine (cappedSize_any _ _).mono ?_; rintro e w3 ⟨rfl, hw3⟩; subst hw3)))
      go_ret
      exact ⟨rfl, (below1 w _).trans (hb1.mono (by rw [sz_alloc]; omega))⟩
    · rw [repSize_d (by omega) hx0]
      have hx1 : (mx == -1) = false := by simp; omega
      have hx2 : (mx == 0) = false := by simp [hx0]
      have m2 : (mx - mn) * (c + 1) ≤ 250 * 502 := Int.mul_le_mul (by omega) (by omega) (by omega) (by omega)
      have m3 : 0 ≤ (mx - mn) * (c + 1) := Int.mul_nonneg (by omega) (by omega)
      have x3 : wrap64 ((mx - mn) * (c + 1)) = (mx - mn) * (c + 1) := w64q (by omega) (by omega)
      have x4 : wrap64 (mn * c + (mx - mn) * (c + 1)) = mn * c + (mx - mn) * (c + 1) := w64q (by omega) (by omega)
      go_enter Tryz.func162, Tryz.ntmps162
      go_wp2_with ((first | ((with_reducible refine (unhide HF _).mono ?_); rintro e w1 ⟨rfl, hb1⟩; have hc1 := (bcell hb1).1; simp only [sz_alloc] at hc1) | (go_at_call 158; refine (cappedSize_any _ _).mono ?_; rintro e w3 ⟨rfl, hw3⟩; subst hw3)))
      go_ret
      exact ⟨rfl, (below1 w _).trans (hb1.mono (by rw [sz_alloc]; omega))⟩

set_option maxHeartbeats 400000 in
theorem eSize_any (w : World) : Calls Tryz.prog 153 #[.agg #[]] w fun e w' => e = .returned (.int .i64 1) ∧ Below w.heap.size w w' := by
  go_enter Tryz.func153, Tryz.ntmps153
  go_wp2
  go_ret
  exact ⟨rfl, below1 w _⟩

set_option maxHeartbeats 400000 in
theorem sSize_any (a b c d : Int) (w : World) : Calls Tryz.prog 155 #[.agg #[.int .u64 a, .int .u64 b, .int .u64 c, .int .u64 d]] w fun e w' => e = .returned (.int .i64 1) ∧ Below w.heap.size w w' := by
  go_enter Tryz.func155, Tryz.ntmps155
  go_wp2
  go_ret
  exact ⟨rfl, below1 w _⟩

theorem size_e (w : World) : Sem.run Tryz.prog (method 276 94 (.agg #[]) "loop.example/s0027/impl.size") w = .ok (153, .agg #[]) w := by kernel_rfl
theorem call_e (w : World) : Sem.run Tryz.prog (callFunc 153 #[.agg #[]]) w = .ok (.enter 153 #[.agg #[]]) w := by kernel_rfl
theorem size_s (x : Value) (w : World) : Sem.run Tryz.prog (method 276 100 x "loop.example/s0027/impl.size") w = .ok (155, x) w := by kernel_rfl
theorem call_s (x : Value) (w : World) : Sem.run Tryz.prog (callFunc 155 #[x]) w = .ok (.enter 155 #[x]) w := by kernel_rfl
theorem size_cat (x : Value) (w : World) : Sem.run Tryz.prog (method 276 104 x "loop.example/s0027/impl.size") w = .ok (157, x) w := by kernel_rfl
theorem call_cat (x : Value) (w : World) : Sem.run Tryz.prog (callFunc 157 #[x]) w = .ok (.enter 157 #[x]) w := by kernel_rfl
theorem size_alt (x : Value) (w : World) : Sem.run Tryz.prog (method 276 106 x "loop.example/s0027/impl.size") w = .ok (160, x) w := by kernel_rfl
theorem call_alt (x : Value) (w : World) : Sem.run Tryz.prog (callFunc 160 #[x]) w = .ok (.enter 160 #[x]) w := by kernel_rfl
theorem size_rep (x : Value) (w : World) : Sem.run Tryz.prog (method 276 108 x "loop.example/s0027/impl.size") w = .ok (162, x) w := by kernel_rfl
theorem call_rep (x : Value) (w : World) : Sem.run Tryz.prog (callFunc 162 #[x]) w = .ok (.enter 162 #[x]) w := by kernel_rfl

/-- u is an interface value whose method size answers c, a size within the bounds. -/
def SzV (u : Value) (c : Int) : Prop := SizeAs u c ∧ 0 ≤ c ∧ c ≤ 501

theorem SzV.iface {u : Value} {c : Int} (h : SzV u c) : ∃ T x, u = .iface T x := by
  obtain ⟨⟨T, x, F, rfl, -⟩, -⟩ := h
  exact ⟨T, x, rfl⟩
theorem SzV.e : SzV (.iface 94 (.agg #[])) 1 := ⟨⟨94, _, 153, rfl, size_e, call_e, eSize_any⟩, by omega⟩
theorem SzV.s (a b c d : Int) : SzV (.iface 100 (.agg #[.int .u64 a, .int .u64 b, .int .u64 c, .int .u64 d])) 1 := ⟨⟨100, _, 155, rfl, size_s _, call_s _, sSize_any a b c d⟩, by omega⟩
theorem SzV.cat {u v : Value} {a b : Int} (hu : SzV u a) (hv : SzV v b) : SzV (.iface 104 (.agg #[u, v])) (cap (a + b)) :=
  ⟨⟨104, _, 157, rfl, size_cat _, call_cat _, fun w => catSize_any _ _ u v w hu.1 hv.1 hu.2.1 hu.2.2 hv.2.1 hv.2.2⟩, cap_bd (by have := hu.2; have := hv.2; omega)⟩
theorem SzV.alt {u v : Value} {a b : Int} (hu : SzV u a) (hv : SzV v b) : SzV (.iface 106 (.agg #[u, v])) (cap (a + b)) :=
  ⟨⟨106, _, 160, rfl, size_alt _, call_alt _, fun w => altSize_any _ _ u v w hu.1 hv.1 hu.2.1 hu.2.2 hv.2.1 hv.2.2⟩, cap_bd (by have := hu.2; have := hv.2; omega)⟩
theorem SzV.rep {u : Value} {c mn mx : Int} (hu : SzV u c) (o2 : 0 ≤ mn) (o3 : mn ≤ 250) (o4 : mx = -1 ∨ (mn ≤ mx ∧ mx ≤ 250)) : SzV (.iface 108 (.agg #[u, .int .i64 mn, .int .i64 mx])) (cap (repSize c mn mx)) := by
  refine ⟨⟨108, _, 162, rfl, size_rep _, call_rep _, fun w => repSize_any _ mn mx u w hu.1 hu.2.1 hu.2.2 o2 o3 o4⟩, cap_bd ?_⟩
  have hc := hu.2
  unfold repSize
  split
  · have : 0 ≤ (if mn < 1 then 1 else mn) * c := Int.mul_nonneg (by split <;> omega) hc.1
    omega
  · split
    · exact hc.1
    · have h1 : 0 ≤ mn * c := Int.mul_nonneg o2 hc.1
      have h2 : 0 ≤ (mx - mn) * (c + 1) := Int.mul_nonneg (by omega) (by omega)
      omega

end Go.Proofs.YtjefklagedidmaaGreat

namespace Go.Proofs.YtjefklagedidmaaGreat
open Go.RowKit

theorem Tryz.info62 : (Tryz.prog.info? 62).map (fun i => (i.zero, i.size, i.bytes)) = some (some .nilIface, 1, 16) := by kernel_rfl

/-- The values of a stack of trees. -/
def NVals : List (List El × Int) → List Value → Prop
  | [], [] => True
  | t :: ts, u :: us => SzV u t.2 ∧ NVals ts us
  | _, _ => False

theorem NVals.len : ∀ {ts : List (List El × Int)} {us : List Value}, NVals ts us → ts.length = us.length
  | [], [], _ => rfl
  | _ :: _, _ :: _, h => by simp [NVals.len h.2]
  | [], _ :: _, h => h.elim
  | _ :: _, [], h => h.elim

theorem NVals.append : ∀ {a b : List (List El × Int)} {us vs : List Value}, NVals a us → NVals b vs → NVals (a ++ b) (us ++ vs)
  | [], _, [], _, _, k => k
  | _ :: _, _, _ :: _, _, h, k => ⟨h.1, NVals.append h.2 k⟩
  | [], _, _ :: _, _, h, _ => h.elim
  | _ :: _, _, [], _, h, _ => h.elim

theorem NVals.split : ∀ {a b : List (List El × Int)} {us : List Value}, NVals (a ++ b) us → ∃ u v, us = u ++ v ∧ NVals a u ∧ NVals b v
  | [], _, us, h => ⟨[], us, rfl, trivial, h⟩
  | _ :: _, _, y :: _, h => by
    obtain ⟨u, v, rfl, hu, hv⟩ := NVals.split h.2
    exact ⟨y :: u, v, rfl, ⟨h.1, hu⟩, hv⟩
  | _ :: _, _, [], h => h.elim

theorem NVals.one {t : List El × Int} {us : List Value} (h : NVals [t] us) : ∃ u, us = [u] ∧ SzV u t.2 := by
  match us, h with
  | [u], h => exact ⟨u, rfl, h.1⟩
theorem NVals.two {s t : List El × Int} {us : List Value} (h : NVals [s, t] us) : ∃ u v, us = [u, v] ∧ SzV u s.2 ∧ SzV v t.2 := by
  match us, h with
  | [u, v], h => exact ⟨u, v, rfl, h.1, h.2.1⟩

/-- What pushElement leaves. -/
def Pushed (base : Nat) (w w' : World) (e : Ending) (st : List (List El × Int)) (x : El) : Prop :=
  ∃ v' vals' st', e = .returned v' ∧ w'.ownsRow base 62 1 v' vals'.length vals' ∧ PushR st x st' ∧ NVals st' vals' ∧ Below base w w'

theorem oc (k c : Int) (h : cnt k = c) (w : World) : Calls Tryz.prog 68 #[.int .i64 k] w fun e w' => e = .returned (.int .i64 c) ∧ w' = w := h ▸ operandCount_any k w

theorem cell_one {W : World} {N : Nat} {u : Value} (h : W.cell? ⟨N, 0, none⟩ = some u) : ∀ (j : Nat) (y : Value), [u][j]? = some y → W.cell? ((⟨N, 0, none⟩ : Addr).add j) = some y := by
  intro j y hj
  match j, hj with
  | 0, hj => simp at hj; subst hj; exact h

theorem pushed_mk {base : Nat} {w W w' : World} {v' v0 : Value} {n : Nat} {xs : List Value} {u : Value} {st st' : List (List El × Int)} {x : El} (hW : Below base w W) (hB : base ≤ W.heap.size) (h0 : W.ownsRow base 62 1 v0 n xs)
    (hg : W.grownBy w' v0.ownBlock) (h1 : w'.ownsRow base 62 1 v' (n + 1) (xs ++ [u])) (hp : PushR st x st') (hn : NVals st' (xs ++ [u])) : Pushed base w w' (.returned v') st x := by
  have hl := h1.1
  rw [Nat.mul_one] at hl
  refine ⟨v', xs ++ [u], st', rfl, by rw [hl]; exact h1, hp, hn, hW.grown hg hB (fun k hk => ?_)⟩
  exact (h0.lt k hk).1

set_option maxHeartbeats 1000000 in
set_option maxRecDepth 100000 in
theorem push_e_nil (base : Nat) (w : World) (hown : w.ownsRow base 62 1 (.slice none 0 0) 0 []) (hbase : base ≤ w.heap.size) (a : Option Addr) (cp : Nat) :
    Calls Tryz.prog 69 #[.slice none 0 0, .agg #[.int .i64 0, .slice a 0 cp, .int .i64 0, .int .i64 0]] w fun e w' => Pushed base w w' e [] ⟨0, [], 0, 0⟩ := by
  obtain ⟨i0, hi, hz0, hz1, hz2⟩ := info_parts Tryz.info62
  have Hown := hide hown
  clear hown
  go_enter Tryz.func69, Tryz.ntmps69
  go_wp2_with (first | (go_at_call 68; refine (oc _ 0 rfl _).mono ?_; rintro e w1 ⟨rfl, hw3⟩; subst hw3) | (at_builtin; refine wpList_append_own _ rfl _ _ 88 rfl base 62 i0 .nilIface 1 16 Tryz.underlying88 hi hz0 hz1 hz2 rfl (by decide) _ _ _ rfl (((unhide Hown).alloc _).alloc _) ⟨w.heap.size + 1, 0, none⟩ 1 1 [.iface 94 (.agg #[])] rfl rfl ?c1 ?c2 ?c3 ?c4 ?c5 ?_))
  case c1 => exact cell_one (by simp)
  case c2 => intro u hu; simp at hu; subst hu; rfl
  case c3 => unfold maxLen; simp
  case c4 => simp
  case c5 => simp only [sz_alloc]; omega
  intro v' w' h1 hg _
  have hfin := hide (pushed_mk ((below2 w _ _).mono hbase) (by simp only [sz_alloc]; omega) (((unhide Hown).alloc _).alloc _) hg h1 (st := []) (x := ⟨0, [], 0, 0⟩) (Or.inl ⟨Or.inl rfl, rfl⟩) ⟨SzV.e, trivial⟩)
  clear hg h1
  go_wp2
  go_ret
  exact unhide hfin

set_option maxHeartbeats 1000000 in
set_option maxRecDepth 100000 in
theorem push_e (base : Nat) (g cap : Nat) (vals : List Value) (st : List (List El × Int)) (w : World) (hown : w.ownsRow base 62 1 (.slice (some ⟨g, 0, none⟩) vals.length cap) vals.length vals) (hst : NVals st vals) (hbase : base ≤ w.heap.size) (hlen : vals.length ≤ 3000) (hnc : vals.length ≤ cap) (a : Option Addr) (cp : Nat) :
    Calls Tryz.prog 69 #[.slice (some ⟨g, 0, none⟩) vals.length cap, .agg #[.int .i64 0, .slice a 0 cp, .int .i64 0, .int .i64 0]] w fun e w' => Pushed base w w' e st ⟨0, [], 0, 0⟩ := by
  obtain ⟨i0, hi, hz0, hz1, hz2⟩ := info_parts Tryz.info62
  have Hown := hide hown
  clear hown
  have hnc' : (vals.length : Int) ≤ (cap : Int) := by omega
  go_enter Tryz.func69, Tryz.ntmps69
  go_wp2_with (first | (go_at_call 68; refine (oc _ 0 rfl _).mono ?_; rintro e w1 ⟨rfl, hw3⟩; subst hw3) | (at_builtin; refine wpList_append_own _ rfl _ _ 88 rfl base 62 i0 .nilIface 1 16 Tryz.underlying88 hi hz0 hz1 hz2 rfl (by decide) _ _ _ rfl (((unhide Hown).alloc _).alloc _) ⟨w.heap.size + 1, 0, none⟩ 1 1 [.iface 94 (.agg #[])] rfl rfl ?_ ?_ ?_ ?_ ?_ ?_))
  · exact cell_one (by simp)
  · intro u hu; simp at hu; subst hu; rfl
  · unfold maxLen; omega
  · omega
  · simp only [sz_alloc]; omega
  all_goals
    intro v' w' h1 hg _
    have hfin := hide (pushed_mk (v0 := .slice (some ⟨g, 0, none⟩) vals.length cap) (x := ⟨0, [], 0, 0⟩) ((below2 w _ _).mono hbase) (by simp only [sz_alloc]; omega) (((unhide Hown).alloc _).alloc _) hg h1 (Or.inl ⟨Or.inl rfl, rfl⟩) (hst.append ⟨SzV.e, trivial⟩))
    clear hg h1
    go_wp2
    go_ret
    exact unhide hfin

theorem grown_of_below {m : Nat} {w w' : World} (h : Below m w w') (hm : w.heap.size ≤ m) : w.grownBy w' none := ⟨h.os, h.tape, h.output, h.size, fun k hk _ => h.block k (by omega)⟩

theorem own_below {base n m : Nat} {w w' : World} {v : Value} {xs : List Value} (h : w.ownsRow base 62 1 v n xs) (hb : Below m w w') (hm : w.heap.size ≤ m) : w'.ownsRow base 62 1 v n xs :=
  h.kept (grown_of_below hb hm) (by cases v.ownBlock <;> simp)

set_option maxHeartbeats 1000000 in
set_option maxRecDepth 100000 in
theorem push_s_nil (base : Nat) (sv : Value) (xs : List Int) (w : World) (hown : w.ownsRow base 62 1 (.slice none 0 0) 0 []) (hbase : base ≤ w.heap.size) (hv : IntsAt 0 w.heap.size w sv xs) (hcn : Canon xs) :
    Calls Tryz.prog 69 #[.slice none 0 0, .agg #[.int .i64 1, sv, .int .i64 0, .int .i64 0]] w fun e w' => Pushed base w w' e [] ⟨1, xs, 0, 0⟩ := by
  obtain ⟨i0, hi, hz0, hz1, hz2⟩ := info_parts Tryz.info62
  obtain ⟨a, cp, rfl, -, -, -⟩ := id hv
  have Hown := hide hown
  have Hv := hide hv
  clear hown hv
  go_enter Tryz.func69, Tryz.ntmps69
  go_wp2_with (first | (go_at_call 68; refine (oc _ 0 rfl _).mono ?_; rintro e w1 ⟨rfl, hw3⟩; subst hw3))
  refine (setOf_any _ xs _ (by exact (unhide Hv).below (below1 w _) (Nat.le_refl _)) hcn).mono ?_
  rintro e w1 ⟨⟨a', b', c', d', rfl⟩, hb1⟩
  have hB : Below w.heap.size w w1 := (below1 w _).trans (hb1.mono (by rw [sz_alloc]; omega))
  have Hown1 := hide (own_below (unhide Hown) hB (Nat.le_refl _))
  have hsz := hB.size
  clear hb1
  go_wp2_with (at_builtin; refine wpList_append_own _ rfl _ _ 88 rfl base 62 i0 .nilIface 1 16 Tryz.underlying88 hi hz0 hz1 hz2 rfl (by decide) _ _ _ rfl ((unhide Hown1).alloc _) ⟨w1.heap.size, 0, none⟩ 1 1 [.iface 100 (.agg #[.int .u64 a', .int .u64 b', .int .u64 c', .int .u64 d'])] rfl rfl ?_ ?_ ?_ ?_ ?_ ?_)
  · exact cell_one (by simp)
  · intro u hu; simp at hu; subst hu; rfl
  · unfold maxLen; simp
  · simp
  · simp only [sz_alloc]; omega
  all_goals
    intro v' w' h1 hg _
    have hfin := hide (pushed_mk (v0 := .slice none 0 0) (st := []) (x := ⟨1, xs, 0, 0⟩) (((hB.mono hbase)).alloc (by omega) _) (by simp only [sz_alloc]; omega) ((unhide Hown1).alloc _) hg h1 (Or.inl ⟨Or.inr rfl, rfl⟩) ⟨SzV.s a' b' c' d', trivial⟩)
    clear hg h1
    go_wp2
    go_ret
    exact unhide hfin

set_option maxHeartbeats 1000000 in
set_option maxRecDepth 100000 in
theorem push_s (base : Nat) (g cap : Nat) (vals : List Value) (st : List (List El × Int)) (sv : Value) (xs : List Int) (w : World) (hown : w.ownsRow base 62 1 (.slice (some ⟨g, 0, none⟩) vals.length cap) vals.length vals) (hst : NVals st vals) (hbase : base ≤ w.heap.size) (hlen : vals.length ≤ 3000) (hnc : vals.length ≤ cap) (hcm : cap ≤ maxLen) (hv : IntsAt 0 w.heap.size w sv xs) (hcn : Canon xs) :
    Calls Tryz.prog 69 #[.slice (some ⟨g, 0, none⟩) vals.length cap, .agg #[.int .i64 1, sv, .int .i64 0, .int .i64 0]] w fun e w' => Pushed base w w' e st ⟨1, xs, 0, 0⟩ := by
  obtain ⟨i0, hi, hz0, hz1, hz2⟩ := info_parts Tryz.info62
  obtain ⟨a, cp, rfl, -, -, -⟩ := id hv
  have Hown := hide hown
  have Hv := hide hv
  clear hown hv
  unfold maxLen at hcm
  rcases Nat.lt_or_eq_of_le hnc with hlt | rfl
  all_goals
    go_enter Tryz.func69, Tryz.ntmps69
    go_wp2_with (first | (go_at_call 68; refine (oc _ 0 rfl _).mono ?_; rintro e w1 ⟨rfl, hw3⟩; subst hw3))
    refine (setOf_any _ xs _ (by exact (unhide Hv).below (below1 w _) (Nat.le_refl _)) hcn).mono ?_
    rintro e w1 ⟨⟨a', b', c', d', rfl⟩, hb1⟩
    have hB : Below w.heap.size w w1 := (below1 w _).trans (hb1.mono (by rw [sz_alloc]; omega))
    have Hown1 := hide (own_below (unhide Hown) hB (Nat.le_refl _))
    have hsz := hB.size
    clear hb1
    go_wp2_with (at_builtin; refine wpList_append_own _ rfl _ _ 88 rfl base 62 i0 .nilIface 1 16 Tryz.underlying88 hi hz0 hz1 hz2 rfl (by decide) _ _ _ rfl ((unhide Hown1).alloc _) ⟨w1.heap.size, 0, none⟩ 1 1 [.iface 100 (.agg #[.int .u64 a', .int .u64 b', .int .u64 c', .int .u64 d'])] rfl rfl ?_ ?_ ?_ ?_ ?_ ?_)
    · exact cell_one (by simp)
    · intro u hu; simp at hu; subst hu; rfl
    · unfold maxLen; omega
    · omega
    · simp only [sz_alloc]; omega
    intro v' w' h1 hg _
    have hfin := hide (pushed_mk (v0 := _) (x := ⟨1, xs, 0, 0⟩) (((hB.mono hbase)).alloc (by omega) _) (by simp only [sz_alloc]; omega) ((unhide Hown1).alloc _) hg h1 (Or.inl ⟨Or.inr rfl, rfl⟩) (hst.append ⟨SzV.s a' b' c' d', trivial⟩))
    clear hg h1
    go_wp2
    go_ret
    exact unhide hfin

end Go.Proofs.YtjefklagedidmaaGreat

namespace Go.Proofs.YtjefklagedidmaaGreat
open Go.RowKit

theorem drew_own {base n : Nat} {w : World} {v : Value} {xs : List Value} {q : Nat} (h : w.ownsRow base 62 1 v n xs) : (w.drewN q).ownsRow base 62 1 v n xs := h

theorem sz_drewN (w : World) (q : Nat) : (w.drewN q).heap.size = w.heap.size := rfl

set_option maxHeartbeats 1000000 in
set_option maxRecDepth 100000 in
theorem push_rep (base : Nat) (g cap : Nat) (vals : List Value) (T : TypeId) (y : Value) (st : List (List El × Int)) (o : List El × Int) (mn mx : Int) (w : World)
    (hown : w.ownsRow base 62 1 (.slice (some ⟨g, 0, none⟩) (vals.length + 1) cap) (vals.length + 1) (vals ++ [.iface T y])) (hst : NVals st vals) (ho : SzV (.iface T y) o.2) (o2 : 0 ≤ mn) (o3 : mn ≤ 250) (o4 : mx = -1 ∨ (mn ≤ mx ∧ mx ≤ 250)) (hbase : base ≤ w.heap.size) (hlen : vals.length + 1 ≤ 3000) (hnc : vals.length + 1 ≤ cap) (a : Option Addr) (cp : Nat) :
    Calls Tryz.prog 69 #[.slice (some ⟨g, 0, none⟩) (vals.length + 1) cap, .agg #[.int .i64 4, .slice a 0 cp, .int .i64 mn, .int .i64 mx]] w fun e w' => Pushed base w w' e (st ++ [o]) ⟨4, [], mn, mx⟩ := by
  obtain ⟨i0, hi, hz0, hz1, hz2⟩ := info_parts Tryz.info62
  have hgl : g < w.heap.size := (hown.lt g rfl).2
  have hcell : w.cell? ⟨g, vals.length, none⟩ = some (.iface T y) := by rw [hown.cellAt vals.length (by omega)]; simp
  have Hpop := hide (ownsRow_pop (by omega) hown)
  clear hown
  have hnc' : (vals.length : Int) + 1 ≤ (cap : Int) := by omega
  go_enter Tryz.func69, Tryz.ntmps69
  go_wp2_with (first | (go_at_call 68; refine (oc _ 1 rfl _).mono ?_; rintro e w1 ⟨rfl, hw3⟩; subst hw3))
  go_quiet (fail)
  go_wp2_with (at_builtin; refine wpList_append_own _ rfl _ _ 88 rfl base 62 i0 .nilIface 1 16 Tryz.underlying88 hi hz0 hz1 hz2 rfl (by decide) _ _ _ rfl ((drew_own ((unhide Hpop).alloc _)).alloc _) ⟨w.heap.size + 1, 0, none⟩ 1 1 [.iface 108 (.agg #[.iface T y, .int .i64 mn, .int .i64 mx])] rfl rfl ?_ ?_ ?_ ?_ ?_ ?_)
  · refine cell_one ?_
    rw [World.cell?_alloc_at _ _ _ _ (by rw [sz_drewN, sz_alloc])]
    rfl
  · intro u hu; simp at hu; subst hu; rfl
  · unfold maxLen; omega
  · omega
  · simp only [sz_alloc, sz_drewN]; omega
  intro v' w' h1 hg _
  have hfin := hide (pushed_mk (st := st ++ [o]) (x := ⟨4, [], mn, mx⟩) ((below_drewN ((below1 w _).mono hbase) nq).alloc (by simp only [sz_alloc, sz_drewN]; omega) _) (by simp only [sz_alloc, sz_drewN]; omega) ((drew_own ((unhide Hpop).alloc _)).alloc _) hg h1 (Or.inr (Or.inr ⟨rfl, st, o, rfl, rfl⟩)) (hst.append ⟨SzV.rep ho o2 o3 o4, trivial⟩))
  clear hg h1
  go_wp2
  go_ret
  exact unhide hfin

set_option maxHeartbeats 1000000 in
set_option maxRecDepth 100000 in
theorem push_cat (base : Nat) (g cap : Nat) (vals : List Value) (T T' : TypeId) (y y' : Value) (st : List (List El × Int)) (l r : List El × Int) (w : World)
    (hown : w.ownsRow base 62 1 (.slice (some ⟨g, 0, none⟩) (vals.length + 2) cap) (vals.length + 2) (vals ++ [.iface T y, .iface T' y'])) (hst : NVals st vals) (hl : SzV (.iface T y) l.2) (hr : SzV (.iface T' y') r.2) (hbase : base ≤ w.heap.size) (hlen : vals.length + 2 ≤ 3000) (hnc : vals.length + 2 ≤ cap) (a : Option Addr) (cp : Nat) :
    Calls Tryz.prog 69 #[.slice (some ⟨g, 0, none⟩) (vals.length + 2) cap, .agg #[.int .i64 2, .slice a 0 cp, .int .i64 0, .int .i64 0]] w fun e w' => Pushed base w w' e (st ++ [l, r]) ⟨2, [], 0, 0⟩ := by
  obtain ⟨i0, hi, hz0, hz1, hz2⟩ := info_parts Tryz.info62
  have hgl : g < w.heap.size := (hown.lt g rfl).2
  have hcell : w.cell? ⟨g, vals.length, none⟩ = some (.iface T y) := by rw [hown.cellAt vals.length (by omega)]; simp
  have hcell2 : w.cell? ⟨g, vals.length + 1, none⟩ = some (.iface T' y') := by rw [hown.cellAt (vals.length + 1) (by omega)]; simp
  have hown1 : w.ownsRow base 62 1 (.slice (some ⟨g, 0, none⟩) (vals.length + 1) cap) (vals.length + 1) (vals ++ [.iface T y]) := ownsRow_pop (n := vals.length + 1) (last := [.iface T' y']) (by simp) (by rw [List.append_assoc]; exact hown)
  have Hpop := hide (ownsRow_pop (by omega) hown1)
  clear hown hown1
  have hnc' : (vals.length : Int) + 2 ≤ (cap : Int) := by omega
  go_enter Tryz.func69, Tryz.ntmps69
  go_wp2_with (first | (go_at_call 68; refine (oc _ 2 rfl _).mono ?_; rintro e w1 ⟨rfl, hw3⟩; subst hw3))
  go_quiet (fail)
  go_wp2_with (at_builtin; refine wpList_append_own _ rfl _ _ 88 rfl base 62 i0 .nilIface 1 16 Tryz.underlying88 hi hz0 hz1 hz2 rfl (by decide) _ _ _ rfl ((drew_own ((unhide Hpop).alloc _)).alloc _) ⟨w.heap.size + 1, 0, none⟩ 1 1 [.iface 104 (.agg #[.iface T y, .iface T' y'])] rfl rfl ?_ ?_ ?_ ?_ ?_ ?_)
  · refine cell_one ?_
    rw [World.cell?_alloc_at _ _ _ _ (by rw [sz_drewN, sz_alloc])]
    rfl
  · intro u hu; simp at hu; subst hu; rfl
  · unfold maxLen; omega
  · omega
  · simp only [sz_alloc, sz_drewN]; omega
  intro v' w' h1 hg _
  have hfin := hide (pushed_mk (st := st ++ [l, r]) (x := ⟨2, [], 0, 0⟩) ((below_drewN ((below1 w _).mono hbase) nq).alloc (by simp only [sz_alloc, sz_drewN]; omega) _) (by simp only [sz_alloc, sz_drewN]; omega) ((drew_own ((unhide Hpop).alloc _)).alloc _) hg h1 (Or.inr (Or.inl ⟨Or.inl rfl, st, l, r, rfl, rfl⟩)) (hst.append ⟨SzV.cat hl hr, trivial⟩))
  clear hg h1
  go_wp2
  go_ret
  exact unhide hfin

set_option maxHeartbeats 1000000 in
set_option maxRecDepth 100000 in
theorem push_alt (base : Nat) (g cap : Nat) (vals : List Value) (T T' : TypeId) (y y' : Value) (st : List (List El × Int)) (l r : List El × Int) (w : World)
    (hown : w.ownsRow base 62 1 (.slice (some ⟨g, 0, none⟩) (vals.length + 2) cap) (vals.length + 2) (vals ++ [.iface T y, .iface T' y'])) (hst : NVals st vals) (hl : SzV (.iface T y) l.2) (hr : SzV (.iface T' y') r.2) (hbase : base ≤ w.heap.size) (hlen : vals.length + 2 ≤ 3000) (hnc : vals.length + 2 ≤ cap) (a : Option Addr) (cp : Nat) :
    Calls Tryz.prog 69 #[.slice (some ⟨g, 0, none⟩) (vals.length + 2) cap, .agg #[.int .i64 3, .slice a 0 cp, .int .i64 0, .int .i64 0]] w fun e w' => Pushed base w w' e (st ++ [l, r]) ⟨3, [], 0, 0⟩ := by
  obtain ⟨i0, hi, hz0, hz1, hz2⟩ := info_parts Tryz.info62
  have hgl : g < w.heap.size := (hown.lt g rfl).2
  have hcell : w.cell? ⟨g, vals.length, none⟩ = some (.iface T y) := by rw [hown.cellAt vals.length (by omega)]; simp
  have hcell2 : w.cell? ⟨g, vals.length + 1, none⟩ = some (.iface T' y') := by rw [hown.cellAt (vals.length + 1) (by omega)]; simp
  have hown1 : w.ownsRow base 62 1 (.slice (some ⟨g, 0, none⟩) (vals.length + 1) cap) (vals.length + 1) (vals ++ [.iface T y]) := ownsRow_pop (n := vals.length + 1) (last := [.iface T' y']) (by simp) (by rw [List.append_assoc]; exact hown)
  have Hpop := hide (ownsRow_pop (by omega) hown1)
  clear hown hown1
  have hnc' : (vals.length : Int) + 2 ≤ (cap : Int) := by omega
  go_enter Tryz.func69, Tryz.ntmps69
  go_wp2_with (first | (go_at_call 68; refine (oc _ 2 rfl _).mono ?_; rintro e w1 ⟨rfl, hw3⟩; subst hw3))
  go_quiet (fail)
  go_wp2_with (at_builtin; refine wpList_append_own _ rfl _ _ 88 rfl base 62 i0 .nilIface 1 16 Tryz.underlying88 hi hz0 hz1 hz2 rfl (by decide) _ _ _ rfl ((drew_own ((unhide Hpop).alloc _)).alloc _) ⟨w.heap.size + 1, 0, none⟩ 1 1 [.iface 106 (.agg #[.iface T y, .iface T' y'])] rfl rfl ?_ ?_ ?_ ?_ ?_ ?_)
  · refine cell_one ?_
    rw [World.cell?_alloc_at _ _ _ _ (by rw [sz_drewN, sz_alloc])]
    rfl
  · intro u hu; simp at hu; subst hu; rfl
  · unfold maxLen; omega
  · omega
  · simp only [sz_alloc, sz_drewN]; omega
  intro v' w' h1 hg _
  have hfin := hide (pushed_mk (st := st ++ [l, r]) (x := ⟨3, [], 0, 0⟩) ((below_drewN ((below1 w _).mono hbase) nq).alloc (by simp only [sz_alloc, sz_drewN]; omega) _) (by simp only [sz_alloc, sz_drewN]; omega) ((drew_own ((unhide Hpop).alloc _)).alloc _) hg h1 (Or.inr (Or.inl ⟨Or.inr rfl, st, l, r, rfl, rfl⟩)) (hst.append ⟨SzV.alt hl hr, trivial⟩))
  clear hg h1
  go_wp2
  go_ret
  exact unhide hfin

end Go.Proofs.YtjefklagedidmaaGreat

namespace Go.Proofs.YtjefklagedidmaaGreat
open Go.RowKit

theorem validElement_iff {x : El} : ElOk x ↔ (x.kind = 1 ∧ Canon x.set ∧ x.mn = 0 ∧ x.mx = 0) ∨ ((x.kind = 0 ∨ x.kind = 2 ∨ x.kind = 3) ∧ x.set.length = 0 ∧ x.mn = 0 ∧ x.mx = 0) ∨ (x.kind = 4 ∧ x.set.length = 0 ∧ BdOk x.mn x.mx) := Iff.rfl

set_option maxHeartbeats 1000000 in
theorem validElement_any (v : Value) (x : El) (w : World) (hv : IntsAt 0 w.heap.size w v x.set) :
    Calls Tryz.prog 67 #[.agg #[.int .i64 x.kind, v, .int .i64 x.mn, .int .i64 x.mx]] w fun e w' => RetB e (ElOk x) ∧ Below w.heap.size w w' := by
  obtain ⟨a, cap, rfl, hl, -, -⟩ := id hv
  unfold maxLen at hl
  obtain ⟨k, xs, mn, mx⟩ := x
  simp only at *
  have Hv := hide hv
  clear hv
  by_cases h1 : k = 1
  · subst h1
    go_enter Tryz.func67, Tryz.ntmps67
    go_wp2_with fail
    refine (canonical_any _ xs _ (by exact (unhide Hv).below (below1 w _) (Nat.le_refl _))).mono ?_
    rintro e w1 ⟨hret, hb1⟩
    obtain ⟨hc1, hf1⟩ := bcell hb1
    simp only [sz_alloc] at hc1 hf1
    have hB : Below w.heap.size w w1 := (below1 w _).trans (hb1.mono (by rw [sz_alloc]; omega))
    clear hb1
    rcases hret.cases with ⟨rfl, hcn⟩ | ⟨rfl, hcn⟩
    · have Hcn := hide hcn
      clear hcn
      by_cases h2 : mn = 0
      · by_cases h3 : mx = 0
        · go_wp2
          go_ret
          exact ⟨RetB.yes (Or.inl ⟨rfl, unhide Hcn, h2, h3⟩), hB⟩
        · have h3' : (mx == 0) = false := by simp [h3]
          go_wp2
          go_ret
          exact ⟨RetB.no (by rintro (⟨q1, q2, q3, q4⟩ | ⟨q1, q2, q3, q4⟩ | ⟨q1, q2, q3, q4, q5⟩) <;> simp only at * <;> omega), hB⟩
      · have h2' : (mn == 0) = false := by simp [h2]
        go_wp2
        go_ret
        exact ⟨RetB.no (by rintro (⟨q1, q2, q3, q4⟩ | ⟨q1, q2, q3, q4⟩ | ⟨q1, q2, q3, q4, q5⟩) <;> simp only at * <;> omega), hB⟩
    · have Hcn := hide hcn
      clear hcn
      go_wp2
      go_ret
      exact ⟨RetB.no (by rintro (⟨q1, q2, q3, q4⟩ | ⟨q1, q2, q3, q4⟩ | ⟨q1, q2, q3, q4, q5⟩) <;> simp only at * <;> first | exact unhide Hcn q2 | omega), hB⟩
  · have b1 : (k == 1) = false := by simp [h1]
    by_cases h4 : k = 4
    · subst h4
      by_cases hlen : xs.length = 0
      · have hlen' : ((xs.length : Int) == 0) = true := by simp; exact List.eq_nil_of_length_eq_zero hlen
        have Hlen := hide hlen
        clear hlen
        go_enter Tryz.func67, Tryz.ntmps67
        go_wp2_with fail
        refine (validBounds_any mn mx _).mono ?_
        rintro e w1 ⟨hret, rfl⟩
        rcases hret.cases with ⟨rfl, hcn⟩ | ⟨rfl, hcn⟩
        · have Hcn := hide hcn
          clear hcn
          go_wp2
          go_ret
          exact ⟨RetB.yes (Or.inr (Or.inr ⟨rfl, unhide Hlen, unhide Hcn⟩)), below1 w _⟩
        · have Hcn := hide hcn
          clear hcn
          go_wp2
          go_ret
          exact ⟨RetB.no (by rintro (⟨q1, q2, q3, q4⟩ | ⟨q1, q2, q3, q4⟩ | ⟨q1, q2, q3⟩) <;> simp only at * <;> first | exact unhide Hcn q3 | omega), below1 w _⟩
      · have hlen' : ((xs.length : Int) == 0) = false := by simp; intro e; exact hlen (by rw [e]; rfl)
        go_enter Tryz.func67, Tryz.ntmps67
        go_wp2
        go_ret
        exact ⟨RetB.no (by rintro (⟨q1, q2, q3, q4⟩ | ⟨q1, q2, q3, q4⟩ | ⟨q1, q2, q3⟩) <;> simp only at * <;> omega), below1 w _⟩
    · have b4 : (k == 4) = false := by simp [h4]
      by_cases hk : k = 0 ∨ k = 2 ∨ k = 3
      · by_cases hlen : xs.length = 0
        · have hlen' : ((xs.length : Int) == 0) = true := by simp; exact List.eq_nil_of_length_eq_zero hlen
          have Hlen := hide hlen
          clear hlen h1 h4
          by_cases h2 : mn = 0
          · by_cases h3 : mx = 0
            · rcases hk with rfl | rfl | rfl
              all_goals
                go_enter Tryz.func67, Tryz.ntmps67
                go_wp2
                go_ret
                exact ⟨RetB.yes (Or.inr (Or.inl ⟨by simp, unhide Hlen, h2, h3⟩)), below1 w _⟩
            · have h3' : (mx == 0) = false := by simp [h3]
              rcases hk with rfl | rfl | rfl
              all_goals
                go_enter Tryz.func67, Tryz.ntmps67
                go_wp2
                go_ret
                exact ⟨RetB.no (by rintro (⟨q1, q2, q3, q4⟩ | ⟨q1, q2, q3, q4⟩ | ⟨q1, q2, q3, q4, q5⟩) <;> simp only at * <;> omega), below1 w _⟩
          · have h2' : (mn == 0) = false := by simp [h2]
            rcases hk with rfl | rfl | rfl
            all_goals
              go_enter Tryz.func67, Tryz.ntmps67
              go_wp2
              go_ret
              exact ⟨RetB.no (by rintro (⟨q1, q2, q3, q4⟩ | ⟨q1, q2, q3, q4⟩ | ⟨q1, q2, q3, q4, q5⟩) <;> simp only at * <;> omega), below1 w _⟩
        · have hlen' : ((xs.length : Int) == 0) = false := by simp; intro e; exact hlen (by rw [e]; rfl)
          clear h1 h4
          rcases hk with rfl | rfl | rfl
          all_goals
            go_enter Tryz.func67, Tryz.ntmps67
            go_wp2
            go_ret
            exact ⟨RetB.no (by rintro (⟨q1, q2, q3, q4⟩ | ⟨q1, q2, q3, q4⟩ | ⟨q1, q2, q3, q4, q5⟩) <;> simp only at * <;> omega), below1 w _⟩
      · have b0 : (k == 0) = false := by simp; omega
        have b2 : (k == 2) = false := by simp; omega
        have b3 : (k == 3) = false := by simp; omega
        go_enter Tryz.func67, Tryz.ntmps67
        go_wp2
        go_ret
        exact ⟨RetB.no (by rintro (⟨q1, q2, q3, q4⟩ | ⟨q1, q2, q3, q4⟩ | ⟨q1, q2, q3, q4, q5⟩) <;> simp only at * <;> omega), below1 w _⟩

end Go.Proofs.YtjefklagedidmaaGreat
