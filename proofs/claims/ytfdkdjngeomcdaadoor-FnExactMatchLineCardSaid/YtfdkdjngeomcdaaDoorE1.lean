import Derived.Test.YtfdkdjngeomcdaaDoorP3
import Derived.Test.YtfdkdjngeomcdaaDoorD6
namespace Go.Proofs.YtfdkdjngeomcdaaDoor
open Go.RowKit

theorem Tryd.info40 : (Tryd.prog.info? 40).map (fun i => (i.zero, i.size, i.bytes)) = some (some .nilIface, 1, 16) := by kernel_rfl

/-- The values of a stack of trees. -/
def NVals : List (List El × Int) → List Value → Prop
  | [], [] => True
  | t :: ts, u :: us => SzV u t.2 ∧ NVals ts us
  | _, _ => False

theorem NVals.len : ∀ {ts : List (List El × Int)} {us : List Value}, NVals ts us → ts.length = us.length
  | [], [], _ => rfl
  | _ :: _, _ :: _, h => by simp [NVals.len h.2]
  | [], _ :: _, h => h.elim
  | _ :: _, [], h => h.elim

theorem NVals.append : ∀ {a b : List (List El × Int)} {us vs : List Value}, NVals a us → NVals b vs → NVals (a ++ b) (us ++ vs)
  | [], _, [], _, _, k => k
  | _ :: _, _, _ :: _, _, h, k => ⟨h.1, NVals.append h.2 k⟩
  | [], _, _ :: _, _, h, _ => h.elim
  | _ :: _, _, [], _, h, _ => h.elim

theorem NVals.split : ∀ {a b : List (List El × Int)} {us : List Value}, NVals (a ++ b) us → ∃ u v, us = u ++ v ∧ NVals a u ∧ NVals b v
  | [], _, us, h => ⟨[], us, rfl, trivial, h⟩
  | _ :: _, _, y :: _, h => by
    obtain ⟨u, v, rfl, hu, hv⟩ := NVals.split h.2
    exact ⟨y :: u, v, rfl, ⟨h.1, hu⟩, hv⟩
  | _ :: _, _, [], h => h.elim

theorem NVals.one {t : List El × Int} {us : List Value} (h : NVals [t] us) : ∃ u, us = [u] ∧ SzV u t.2 := by
  match us, h with
  | [u], h => exact ⟨u, rfl, h.1⟩
theorem NVals.two {s t : List El × Int} {us : List Value} (h : NVals [s, t] us) : ∃ u v, us = [u, v] ∧ SzV u s.2 ∧ SzV v t.2 := by
  match us, h with
  | [u, v], h => exact ⟨u, v, rfl, h.1, h.2.1⟩

/-- What pushElement leaves. -/
def Pushed (base : Nat) (w w' : World) (e : Ending) (st : List (List El × Int)) (x : El) : Prop :=
  ∃ v' vals' st', e = .returned v' ∧ w'.ownsRow base 40 1 v' vals'.length vals' ∧ PushR st x st' ∧ NVals st' vals' ∧ Below base w w'

theorem oc (k c : Int) (h : cnt k = c) (w : World) : Calls Tryd.prog 44 #[.int .i64 k] w fun e w' => e = .returned (.int .i64 c) ∧ w' = w := h ▸ operandCount_any k w

theorem cell_one {W : World} {N : Nat} {u : Value} (h : W.cell? ⟨N, 0, none⟩ = some u) : ∀ (j : Nat) (y : Value), [u][j]? = some y → W.cell? ((⟨N, 0, none⟩ : Addr).add j) = some y := by
  intro j y hj
  match j, hj with
  | 0, hj => simp at hj; subst hj; exact h

theorem pushed_mk {base : Nat} {w W w' : World} {v' v0 : Value} {n : Nat} {xs : List Value} {u : Value} {st st' : List (List El × Int)} {x : El} (hW : Below base w W) (hB : base ≤ W.heap.size) (h0 : W.ownsRow base 40 1 v0 n xs)
    (hg : W.grownBy w' v0.ownBlock) (h1 : w'.ownsRow base 40 1 v' (n + 1) (xs ++ [u])) (hp : PushR st x st') (hn : NVals st' (xs ++ [u])) : Pushed base w w' (.returned v') st x := by
  have hl := h1.1
  rw [Nat.mul_one] at hl
  refine ⟨v', xs ++ [u], st', rfl, by rw [hl]; exact h1, hp, hn, hW.grown hg hB (fun k hk => ?_)⟩
  exact (h0.lt k hk).1

set_option maxHeartbeats 1000000 in
set_option maxRecDepth 100000 in
theorem push_e_nil (base : Nat) (w : World) (hown : w.ownsRow base 40 1 (.slice none 0 0) 0 []) (hbase : base ≤ w.heap.size) (a : Option Addr) (cp : Nat) :
    Calls Tryd.prog 45 #[.slice none 0 0, .agg #[.int .i64 0, .slice a 0 cp, .int .i64 0, .int .i64 0]] w fun e w' => Pushed base w w' e [] ⟨0, [], 0, 0⟩ := by
  obtain ⟨i0, hi, hz0, hz1, hz2⟩ := info_parts Tryd.info40
  have Hown := hide hown
  clear hown
  go_enter Tryd.func45, Tryd.ntmps45
  go_wp2_with (first | (go_at_call 44; refine (oc _ 0 rfl _).mono ?_; rintro e w1 ⟨rfl, hw3⟩; subst hw3) | (at_builtin; refine wpList_append_own _ rfl _ _ 102 rfl base 40 i0 .nilIface 1 16 Tryd.underlying102 hi hz0 hz1 hz2 rfl (by decide) _ _ _ rfl (((unhide Hown).alloc _).alloc _) ⟨w.heap.size + 1, 0, none⟩ 1 1 [.iface 125 (.agg #[])] rfl rfl ?c1 ?c2 ?c3 ?c4 ?c5 ?_))
  case c1 => exact cell_one (by simp)
  case c2 => intro u hu; simp at hu; subst hu; rfl
  case c3 => unfold maxLen; simp
  case c4 => simp
  case c5 => simp only [sz_alloc]; omega
  intro v' w' h1 hg _
  have hfin := hide (pushed_mk ((below2 w _ _).mono hbase) (by simp only [sz_alloc]; omega) (((unhide Hown).alloc _).alloc _) hg h1 (st := []) (x := ⟨0, [], 0, 0⟩) (Or.inl ⟨Or.inl rfl, rfl⟩) ⟨SzV.e, trivial⟩)
  clear hg h1
  go_wp2
  go_ret
  exact unhide hfin

set_option maxHeartbeats 1000000 in
set_option maxRecDepth 100000 in
theorem push_e (base : Nat) (g cap : Nat) (vals : List Value) (st : List (List El × Int)) (w : World) (hown : w.ownsRow base 40 1 (.slice (some ⟨g, 0, none⟩) vals.length cap) vals.length vals) (hst : NVals st vals) (hbase : base ≤ w.heap.size) (hlen : vals.length ≤ 3000) (hnc : vals.length ≤ cap) (a : Option Addr) (cp : Nat) :
    Calls Tryd.prog 45 #[.slice (some ⟨g, 0, none⟩) vals.length cap, .agg #[.int .i64 0, .slice a 0 cp, .int .i64 0, .int .i64 0]] w fun e w' => Pushed base w w' e st ⟨0, [], 0, 0⟩ := by
  obtain ⟨i0, hi, hz0, hz1, hz2⟩ := info_parts Tryd.info40
  have Hown := hide hown
  clear hown
  have hnc' : (vals.length : Int) ≤ (cap : Int) := by omega
  go_enter Tryd.func45, Tryd.ntmps45
  go_wp2_with (first | (go_at_call 44; refine (oc _ 0 rfl _).mono ?_; rintro e w1 ⟨rfl, hw3⟩; subst hw3) | (at_builtin; refine wpList_append_own _ rfl _ _ 102 rfl base 40 i0 .nilIface 1 16 Tryd.underlying102 hi hz0 hz1 hz2 rfl (by decide) _ _ _ rfl (((unhide Hown).alloc _).alloc _) ⟨w.heap.size + 1, 0, none⟩ 1 1 [.iface 125 (.agg #[])] rfl rfl ?_ ?_ ?_ ?_ ?_ ?_))
  · exact cell_one (by simp)
  · intro u hu; simp at hu; subst hu; rfl
  · unfold maxLen; omega
  · omega
  · simp only [sz_alloc]; omega
  all_goals
    intro v' w' h1 hg _
    have hfin := hide (pushed_mk (v0 := .slice (some ⟨g, 0, none⟩) vals.length cap) (x := ⟨0, [], 0, 0⟩) ((below2 w _ _).mono hbase) (by simp only [sz_alloc]; omega) (((unhide Hown).alloc _).alloc _) hg h1 (Or.inl ⟨Or.inl rfl, rfl⟩) (hst.append ⟨SzV.e, trivial⟩))
    clear hg h1
    go_wp2
    go_ret
    exact unhide hfin

theorem grown_of_below {m : Nat} {w w' : World} (h : Below m w w') (hm : w.heap.size ≤ m) : w.grownBy w' none := ⟨h.os, h.tape, h.output, h.size, fun k hk _ => h.block k (by omega)⟩

theorem own_below {base n m : Nat} {w w' : World} {v : Value} {xs : List Value} (h : w.ownsRow base 40 1 v n xs) (hb : Below m w w') (hm : w.heap.size ≤ m) : w'.ownsRow base 40 1 v n xs :=
  h.kept (grown_of_below hb hm) (by cases v.ownBlock <;> simp)

set_option maxHeartbeats 1000000 in
set_option maxRecDepth 100000 in
theorem push_s_nil (base : Nat) (sv : Value) (xs : List Int) (w : World) (hown : w.ownsRow base 40 1 (.slice none 0 0) 0 []) (hbase : base ≤ w.heap.size) (hv : IntsAt 0 w.heap.size w sv xs) (hcn : Canon xs) :
    Calls Tryd.prog 45 #[.slice none 0 0, .agg #[.int .i64 1, sv, .int .i64 0, .int .i64 0]] w fun e w' => Pushed base w w' e [] ⟨1, xs, 0, 0⟩ := by
  obtain ⟨i0, hi, hz0, hz1, hz2⟩ := info_parts Tryd.info40
  obtain ⟨a, cp, rfl, -, -, -⟩ := id hv
  have Hown := hide hown
  have Hv := hide hv
  clear hown hv
  go_enter Tryd.func45, Tryd.ntmps45
  go_wp2_with (first | (go_at_call 44; refine (oc _ 0 rfl _).mono ?_; rintro e w1 ⟨rfl, hw3⟩; subst hw3))
  refine (setOf_any _ xs _ (by exact (unhide Hv).below (below1 w _) (Nat.le_refl _)) hcn).mono ?_
  rintro e w1 ⟨⟨a', b', c', d', rfl⟩, hb1⟩
  have hB : Below w.heap.size w w1 := (below1 w _).trans (hb1.mono (by rw [sz_alloc]; omega))
  have Hown1 := hide (own_below (unhide Hown) hB (Nat.le_refl _))
  have hsz := hB.size
  clear hb1
  go_wp2_with (at_builtin; refine wpList_append_own _ rfl _ _ 102 rfl base 40 i0 .nilIface 1 16 Tryd.underlying102 hi hz0 hz1 hz2 rfl (by decide) _ _ _ rfl ((unhide Hown1).alloc _) ⟨w1.heap.size, 0, none⟩ 1 1 [.iface 67 (.agg #[.int .u64 a', .int .u64 b', .int .u64 c', .int .u64 d'])] rfl rfl ?_ ?_ ?_ ?_ ?_ ?_)
  · exact cell_one (by simp)
  · intro u hu; simp at hu; subst hu; rfl
  · unfold maxLen; simp
  · simp
  · simp only [sz_alloc]; omega
  all_goals
    intro v' w' h1 hg _
    have hfin := hide (pushed_mk (v0 := .slice none 0 0) (st := []) (x := ⟨1, xs, 0, 0⟩) (((hB.mono hbase)).alloc (by omega) _) (by simp only [sz_alloc]; omega) ((unhide Hown1).alloc _) hg h1 (Or.inl ⟨Or.inr rfl, rfl⟩) ⟨SzV.s a' b' c' d', trivial⟩)
    clear hg h1
    go_wp2
    go_ret
    exact unhide hfin

set_option maxHeartbeats 1000000 in
set_option maxRecDepth 100000 in
theorem push_s (base : Nat) (g cap : Nat) (vals : List Value) (st : List (List El × Int)) (sv : Value) (xs : List Int) (w : World) (hown : w.ownsRow base 40 1 (.slice (some ⟨g, 0, none⟩) vals.length cap) vals.length vals) (hst : NVals st vals) (hbase : base ≤ w.heap.size) (hlen : vals.length ≤ 3000) (hnc : vals.length ≤ cap) (hcm : cap ≤ maxLen) (hv : IntsAt 0 w.heap.size w sv xs) (hcn : Canon xs) :
    Calls Tryd.prog 45 #[.slice (some ⟨g, 0, none⟩) vals.length cap, .agg #[.int .i64 1, sv, .int .i64 0, .int .i64 0]] w fun e w' => Pushed base w w' e st ⟨1, xs, 0, 0⟩ := by
  obtain ⟨i0, hi, hz0, hz1, hz2⟩ := info_parts Tryd.info40
  obtain ⟨a, cp, rfl, -, -, -⟩ := id hv
  have Hown := hide hown
  have Hv := hide hv
  clear hown hv
  unfold maxLen at hcm
  rcases Nat.lt_or_eq_of_le hnc with hlt | rfl
  all_goals
    go_enter Tryd.func45, Tryd.ntmps45
    go_wp2_with (first | (go_at_call 44; refine (oc _ 0 rfl _).mono ?_; rintro e w1 ⟨rfl, hw3⟩; subst hw3))
    refine (setOf_any _ xs _ (by exact (unhide Hv).below (below1 w _) (Nat.le_refl _)) hcn).mono ?_
    rintro e w1 ⟨⟨a', b', c', d', rfl⟩, hb1⟩
    have hB : Below w.heap.size w w1 := (below1 w _).trans (hb1.mono (by rw [sz_alloc]; omega))
    have Hown1 := hide (own_below (unhide Hown) hB (Nat.le_refl _))
    have hsz := hB.size
    clear hb1
    go_wp2_with (at_builtin; refine wpList_append_own _ rfl _ _ 102 rfl base 40 i0 .nilIface 1 16 Tryd.underlying102 hi hz0 hz1 hz2 rfl (by decide) _ _ _ rfl ((unhide Hown1).alloc _) ⟨w1.heap.size, 0, none⟩ 1 1 [.iface 67 (.agg #[.int .u64 a', .int .u64 b', .int .u64 c', .int .u64 d'])] rfl rfl ?_ ?_ ?_ ?_ ?_ ?_)
    · exact cell_one (by simp)
    · intro u hu; simp at hu; subst hu; rfl
    · unfold maxLen; omega
    · omega
    · simp only [sz_alloc]; omega
    intro v' w' h1 hg _
    have hfin := hide (pushed_mk (v0 := _) (x := ⟨1, xs, 0, 0⟩) (((hB.mono hbase)).alloc (by omega) _) (by simp only [sz_alloc]; omega) ((unhide Hown1).alloc _) hg h1 (Or.inl ⟨Or.inr rfl, rfl⟩) (hst.append ⟨SzV.s a' b' c' d', trivial⟩))
    clear hg h1
    go_wp2
    go_ret
    exact unhide hfin

end Go.Proofs.YtfdkdjngeomcdaaDoor
