import Derived.Test.YtfdkdjngeomcdaaDoorP3
import Derived.Test.YtfdkdjngeomcdaaDoorP15
import Derived.RegionTactic
import Derived.BigRegion
import Derived.Test.YtfdkdjngeomcdaaDoorP14
namespace Go.Proofs.YtfdkdjngeomcdaaDoor
open Go.RowKit

theorem Tryd.info40 : (Tryd.prog.info? 40).map (fun i => (i.zero, i.size, i.bytes)) = some (some .nilIface, 1, 16) := by kernel_rfl

/-- The values of a stack of trees. -/
def NVals : List (List El × Int) → List Value → Prop
  | [], [] => True
  | t :: ts, u :: us => SzV u t.2 ∧ NVals ts us
  | _, _ => False

theorem NVals.len : ∀ {ts : List (List El × Int)} {us : List Value}, NVals ts us → ts.length = us.length
  | [], [], _ => rfl
  | _ :: _, _ :: _, h => by simp [NVals.len h.2]
  | [], _ :: _, h => h.elim
  | _ :: _, [], h => h.elim

theorem NVals.append : ∀ {a b : List (List El × Int)} {us vs : List Value}, NVals a us → NVals b vs → NVals (a ++ b) (us ++ vs)
  | [], _, [], _, _, k => k
  | _ :: _, _, _ :: _, _, h, k => ⟨h.1, NVals.append h.2 k⟩
  | [], _, _ :: _, _, h, _ => h.elim
  | _ :: _, _, [], _, h, _ => h.elim

theorem NVals.split : ∀ {a b : List (List El × Int)} {us : List Value}, NVals (a ++ b) us → ∃ u v, us = u ++ v ∧ NVals a u ∧ NVals b v
  | [], _, us, h => ⟨[], us, rfl, trivial, h⟩
  | _ :: _, _, y :: _, h => by
    obtain ⟨u, v, rfl, hu, hv⟩ := NVals.split h.2
    exact ⟨y :: u, v, rfl, ⟨h.1, hu⟩, hv⟩
  | _ :: _, _, [], h => h.elim

theorem NVals.one {t : List El × Int} {us : List Value} (h : NVals [t] us) : ∃ u, us = [u] ∧ SzV u t.2 := by
  match us, h with
  | [u], h => exact ⟨u, rfl, h.1⟩
theorem NVals.two {s t : List El × Int} {us : List Value} (h : NVals [s, t] us) : ∃ u v, us = [u, v] ∧ SzV u s.2 ∧ SzV v t.2 := by
  match us, h with
  | [u, v], h => exact ⟨u, v, rfl, h.1, h.2.1⟩

/-- What pushElement leaves. -/
def Pushed (base : Nat) (w w' : World) (e : Ending) (st : List (List El × Int)) (x : El) : Prop :=
  ∃ v' vals' st', e = .returned v' ∧ w'.ownsRow base 40 1 v' vals'.length vals' ∧ PushR st x st' ∧ NVals st' vals' ∧ Below base w w'

theorem oc (k c : Int) (h : cnt k = c) (w : World) : Calls Tryd.prog 44 #[.int .i64 k] w fun e w' => e = .returned (.int .i64 c) ∧ w' = w := h ▸ operandCount_any k w

theorem cell_one {W : World} {N : Nat} {u : Value} (h : W.cell? ⟨N, 0, none⟩ = some u) : ∀ (j : Nat) (y : Value), [u][j]? = some y → W.cell? ((⟨N, 0, none⟩ : Addr).add j) = some y := by
  intro j y hj
  match j, hj with
  | 0, hj => simp at hj; subst hj; exact h

theorem pushed_mk {base : Nat} {w W w' : World} {v' v0 : Value} {n : Nat} {xs : List Value} {u : Value} {st st' : List (List El × Int)} {x : El} (hW : Below base w W) (hB : base ≤ W.heap.size) (h0 : W.ownsRow base 40 1 v0 n xs)
    (hg : W.grownBy w' v0.ownBlock) (h1 : w'.ownsRow base 40 1 v' (n + 1) (xs ++ [u])) (hp : PushR st x st') (hn : NVals st' (xs ++ [u])) : Pushed base w w' (.returned v') st x := by
  have hl := h1.1
  rw [Nat.mul_one] at hl
  refine ⟨v', xs ++ [u], st', rfl, by rw [hl]; exact h1, hp, hn, hW.grown hg hB (fun k hk => ?_)⟩
  exact (h0.lt k hk).1

set_option maxHeartbeats 1000000 in
set_option maxRecDepth 100000 in
theorem push_e_nil (base : Nat) (w : World) (hown : w.ownsRow base 40 1 (.slice none 0 0) 0 []) (hbase : base ≤ w.heap.size) (a : Option Addr) (cp : Nat) :
    Calls Tryd.prog 45 #[.slice none 0 0, .agg #[.int .i64 0, .slice a 0 cp, .int .i64 0, .int .i64 0]] w fun e w' => Pushed base w w' e [] ⟨0, [], 0, 0⟩ := by
  obtain ⟨i0, hi, hz0, hz1, hz2⟩ := info_parts Tryd.info40
  have Hown := hide hown
  clear hown
  go_enter Tryd.func45, Tryd.ntmps45
  go_wp2_with (first | (go_at_call 44; refine (oc _ 0 rfl _).mono ?_; rintro e w1 ⟨rfl, hw3⟩; subst hw3) | (at_builtin; refine wpList_append_own _ rfl _ _ 102 rfl base 40 i0 .nilIface 1 16 Tryd.underlying102 hi hz0 hz1 hz2 rfl (by decide) _ _ _ rfl (((unhide Hown).alloc _).alloc _) ⟨w.heap.size + 1, 0, none⟩ 1 1 [.iface 125 (.agg #[])] rfl rfl ?c1 ?c2 ?c3 ?c4 ?c5 ?_))
  case c1 => exact cell_one (by simp)
  case c2 => intro u hu; simp at hu; subst hu; rfl
  case c3 => unfold maxLen; simp
  case c4 => simp
  case c5 => simp only [sz_alloc]; omega
  intro v' w' h1 hg _
  have hfin := hide (pushed_mk ((below2 w _ _).mono hbase) (by simp only [sz_alloc]; omega) (((unhide Hown).alloc _).alloc _) hg h1 (st := []) (x := ⟨0, [], 0, 0⟩) (Or.inl ⟨Or.inl rfl, rfl⟩) ⟨SzV.e, trivial⟩)
  clear hg h1
  go_wp2
  go_ret
  exact unhide hfin

set_option maxHeartbeats 1000000 in
set_option maxRecDepth 100000 in
theorem push_e (base : Nat) (g cap : Nat) (vals : List Value) (st : List (List El × Int)) (w : World) (hown : w.ownsRow base 40 1 (.slice (some ⟨g, 0, none⟩) vals.length cap) vals.length vals) (hst : NVals st vals) (hbase : base ≤ w.heap.size) (hlen : vals.length ≤ 3000) (hnc : vals.length ≤ cap) (a : Option Addr) (cp : Nat) :
    Calls Tryd.prog 45 #[.slice (some ⟨g, 0, none⟩) vals.length cap, .agg #[.int .i64 0, .slice a 0 cp, .int .i64 0, .int .i64 0]] w fun e w' => Pushed base w w' e st ⟨0, [], 0, 0⟩ := by
  obtain ⟨i0, hi, hz0, hz1, hz2⟩ := info_parts Tryd.info40
  have Hown := hide hown
  clear hown
  have hnc' : (vals.length : Int) ≤ (cap : Int) := by omega
  go_enter Tryd.func45, Tryd.ntmps45
  go_wp2_with (first | (go_at_call 44; refine (oc _ 0 rfl _).mono ?_; rintro e w1 ⟨rfl, hw3⟩; subst hw3) | (at_builtin; refine wpList_append_own _ rfl _ _ 102 rfl base 40 i0 .nilIface 1 16 Tryd.underlying102 hi hz0 hz1 hz2 rfl (by decide) _ _ _ rfl (((unhide Hown).alloc _).alloc _) ⟨w.heap.size + 1, 0, none⟩ 1 1 [.iface 125 (.agg #[])] rfl rfl ?_ ?_ ?_ ?_ ?_ ?_))
  · exact cell_one (by simp)
  · intro u hu; simp at hu; subst hu; rfl
  · unfold maxLen; omega
  · omega
  · simp only [sz_alloc]; omega
  all_goals
    intro v' w' h1 hg _
    have hfin := hide (pushed_mk (v0 := .slice (some ⟨g, 0, none⟩) vals.length cap) (x := ⟨0, [], 0, 0⟩) ((below2 w _ _).mono hbase) (by simp only [sz_alloc]; omega) (((unhide Hown).alloc _).alloc _) hg h1 (Or.inl ⟨Or.inl rfl, rfl⟩) (hst.append ⟨SzV.e, trivial⟩))
    clear hg h1
    go_wp2
    go_ret
    exact unhide hfin

theorem grown_of_below {m : Nat} {w w' : World} (h : Below m w w') (hm : w.heap.size ≤ m) : w.grownBy w' none := ⟨h.os, h.tape, h.output, h.size, fun k hk _ => h.block k (by omega)⟩

theorem own_below {base n m : Nat} {w w' : World} {v : Value} {xs : List Value} (h : w.ownsRow base 40 1 v n xs) (hb : Below m w w') (hm : w.heap.size ≤ m) : w'.ownsRow base 40 1 v n xs :=
  h.kept (grown_of_below hb hm) (by cases v.ownBlock <;> simp)

set_option maxHeartbeats 1000000 in
set_option maxRecDepth 100000 in
theorem push_s_nil (base : Nat) (sv : Value) (xs : List Int) (w : World) (hown : w.ownsRow base 40 1 (.slice none 0 0) 0 []) (hbase : base ≤ w.heap.size) (hv : IntsAt 0 w.heap.size w sv xs) (hcn : Canon xs) :
    Calls Tryd.prog 45 #[.slice none 0 0, .agg #[.int .i64 1, sv, .int .i64 0, .int .i64 0]] w fun e w' => Pushed base w w' e [] ⟨1, xs, 0, 0⟩ := by
  obtain ⟨i0, hi, hz0, hz1, hz2⟩ := info_parts Tryd.info40
  obtain ⟨a, cp, rfl, -, -, -⟩ := id hv
  have Hown := hide hown
  have Hv := hide hv
  clear hown hv
  go_enter Tryd.func45, Tryd.ntmps45
  go_wp2_with (first | (go_at_call 44; refine (oc _ 0 rfl _).mono ?_; rintro e w1 ⟨rfl, hw3⟩; subst hw3))
  refine (setOf_any _ xs _ (by exact (unhide Hv).below (below1 w _) (Nat.le_refl _)) hcn).mono ?_
  rintro e w1 ⟨⟨a', b', c', d', rfl⟩, hb1⟩
  have hB : Below w.heap.size w w1 := (below1 w _).trans (hb1.mono (by rw [sz_alloc]; omega))
  have Hown1 := hide (own_below (unhide Hown) hB (Nat.le_refl _))
  have hsz := hB.size
  clear hb1
  go_wp2_with (at_builtin; refine wpList_append_own _ rfl _ _ 102 rfl base 40 i0 .nilIface 1 16 Tryd.underlying102 hi hz0 hz1 hz2 rfl (by decide) _ _ _ rfl ((unhide Hown1).alloc _) ⟨w1.heap.size, 0, none⟩ 1 1 [.iface 67 (.agg #[.int .u64 a', .int .u64 b', .int .u64 c', .int .u64 d'])] rfl rfl ?_ ?_ ?_ ?_ ?_ ?_)
  · exact cell_one (by simp)
  · intro u hu; simp at hu; subst hu; rfl
  · unfold maxLen; simp
  · simp
  · simp only [sz_alloc]; omega
  all_goals
    intro v' w' h1 hg _
    have hfin := hide (pushed_mk (v0 := .slice none 0 0) (st := []) (x := ⟨1, xs, 0, 0⟩) (((hB.mono hbase)).alloc (by omega) _) (by simp only [sz_alloc]; omega) ((unhide Hown1).alloc _) hg h1 (Or.inl ⟨Or.inr rfl, rfl⟩) ⟨SzV.s a' b' c' d', trivial⟩)
    clear hg h1
    go_wp2
    go_ret
    exact unhide hfin

set_option maxHeartbeats 1000000 in
set_option maxRecDepth 100000 in
theorem push_s (base : Nat) (g cap : Nat) (vals : List Value) (st : List (List El × Int)) (sv : Value) (xs : List Int) (w : World) (hown : w.ownsRow base 40 1 (.slice (some ⟨g, 0, none⟩) vals.length cap) vals.length vals) (hst : NVals st vals) (hbase : base ≤ w.heap.size) (hlen : vals.length ≤ 3000) (hnc : vals.length ≤ cap) (hcm : cap ≤ maxLen) (hv : IntsAt 0 w.heap.size w sv xs) (hcn : Canon xs) :
    Calls Tryd.prog 45 #[.slice (some ⟨g, 0, none⟩) vals.length cap, .agg #[.int .i64 1, sv, .int .i64 0, .int .i64 0]] w fun e w' => Pushed base w w' e st ⟨1, xs, 0, 0⟩ := by
  obtain ⟨i0, hi, hz0, hz1, hz2⟩ := info_parts Tryd.info40
  obtain ⟨a, cp, rfl, -, -, -⟩ := id hv
  have Hown := hide hown
  have Hv := hide hv
  clear hown hv
  unfold maxLen at hcm
  rcases Nat.lt_or_eq_of_le hnc with hlt | rfl
  all_goals
    go_enter Tryd.func45, Tryd.ntmps45
    go_wp2_with (first | (go_at_call 44; refine (oc _ 0 rfl _).mono ?_; rintro e w1 ⟨rfl, hw3⟩; subst hw3))
    refine (setOf_any _ xs _ (by exact (unhide Hv).below (below1 w _) (Nat.le_refl _)) hcn).mono ?_
    rintro e w1 ⟨⟨a', b', c', d', rfl⟩, hb1⟩
    have hB : Below w.heap.size w w1 := (below1 w _).trans (hb1.mono (by rw [sz_alloc]; omega))
    have Hown1 := hide (own_below (unhide Hown) hB (Nat.le_refl _))
    have hsz := hB.size
    clear hb1
    go_wp2_with (at_builtin; refine wpList_append_own _ rfl _ _ 102 rfl base 40 i0 .nilIface 1 16 Tryd.underlying102 hi hz0 hz1 hz2 rfl (by decide) _ _ _ rfl ((unhide Hown1).alloc _) ⟨w1.heap.size, 0, none⟩ 1 1 [.iface 67 (.agg #[.int .u64 a', .int .u64 b', .int .u64 c', .int .u64 d'])] rfl rfl ?_ ?_ ?_ ?_ ?_ ?_)
    · exact cell_one (by simp)
    · intro u hu; simp at hu; subst hu; rfl
    · unfold maxLen; omega
    · omega
    · simp only [sz_alloc]; omega
    intro v' w' h1 hg _
    have hfin := hide (pushed_mk (v0 := _) (x := ⟨1, xs, 0, 0⟩) (((hB.mono hbase)).alloc (by omega) _) (by simp only [sz_alloc]; omega) ((unhide Hown1).alloc _) hg h1 (Or.inl ⟨Or.inr rfl, rfl⟩) (hst.append ⟨SzV.s a' b' c' d', trivial⟩))
    clear hg h1
    go_wp2
    go_ret
    exact unhide hfin

end Go.Proofs.YtfdkdjngeomcdaaDoor

namespace Go.Proofs.YtfdkdjngeomcdaaDoor
open Go.RowKit

theorem drew_own {base n : Nat} {w : World} {v : Value} {xs : List Value} {q : Nat} (h : w.ownsRow base 40 1 v n xs) : (w.drewN q).ownsRow base 40 1 v n xs := h

theorem sz_drewN (w : World) (q : Nat) : (w.drewN q).heap.size = w.heap.size := rfl

set_option maxHeartbeats 1000000 in
set_option maxRecDepth 100000 in
theorem push_rep (base : Nat) (g cap : Nat) (vals : List Value) (T : TypeId) (y : Value) (st : List (List El × Int)) (o : List El × Int) (mn mx : Int) (w : World)
    (hown : w.ownsRow base 40 1 (.slice (some ⟨g, 0, none⟩) (vals.length + 1) cap) (vals.length + 1) (vals ++ [.iface T y])) (hst : NVals st vals) (ho : SzV (.iface T y) o.2) (o2 : 0 ≤ mn) (o3 : mn ≤ 250) (o4 : mx = -1 ∨ (mn ≤ mx ∧ mx ≤ 250)) (hbase : base ≤ w.heap.size) (hlen : vals.length + 1 ≤ 3000) (hnc : vals.length + 1 ≤ cap) (a : Option Addr) (cp : Nat) :
    Calls Tryd.prog 45 #[.slice (some ⟨g, 0, none⟩) (vals.length + 1) cap, .agg #[.int .i64 4, .slice a 0 cp, .int .i64 mn, .int .i64 mx]] w fun e w' => Pushed base w w' e (st ++ [o]) ⟨4, [], mn, mx⟩ := by
  obtain ⟨i0, hi, hz0, hz1, hz2⟩ := info_parts Tryd.info40
  have hgl : g < w.heap.size := (hown.lt g rfl).2
  have hcell : w.cell? ⟨g, vals.length, none⟩ = some (.iface T y) := by rw [hown.cellAt vals.length (by omega)]; simp
  have Hpop := hide (ownsRow_pop (by omega) hown)
  clear hown
  have hnc' : (vals.length : Int) + 1 ≤ (cap : Int) := by omega
  go_enter Tryd.func45, Tryd.ntmps45
  go_wp2_with (first | (go_at_call 44; refine (oc _ 1 rfl _).mono ?_; rintro e w1 ⟨rfl, hw3⟩; subst hw3))
  go_quiet (fail)
  go_wp2_with (at_builtin; refine wpList_append_own _ rfl _ _ 102 rfl base 40 i0 .nilIface 1 16 Tryd.underlying102 hi hz0 hz1 hz2 rfl (by decide) _ _ _ rfl ((drew_own ((unhide Hpop).alloc _)).alloc _) ⟨w.heap.size + 1, 0, none⟩ 1 1 [.iface 69 (.agg #[.iface T y, .int .i64 mn, .int .i64 mx])] rfl rfl ?_ ?_ ?_ ?_ ?_ ?_)
  · refine cell_one ?_
    rw [World.cell?_alloc_at _ _ _ _ (by rw [sz_drewN, sz_alloc])]
    rfl
  · intro u hu; simp at hu; subst hu; rfl
  · unfold maxLen; omega
  · omega
  · simp only [sz_alloc, sz_drewN]; omega
  intro v' w' h1 hg _
  have hfin := hide (pushed_mk (st := st ++ [o]) (x := ⟨4, [], mn, mx⟩) ((below_drewN ((below1 w _).mono hbase) nq).alloc (by simp only [sz_alloc, sz_drewN]; omega) _) (by simp only [sz_alloc, sz_drewN]; omega) ((drew_own ((unhide Hpop).alloc _)).alloc _) hg h1 (Or.inr (Or.inr ⟨rfl, st, o, rfl, rfl⟩)) (hst.append ⟨SzV.rep ho o2 o3 o4, trivial⟩))
  clear hg h1
  go_wp2
  go_ret
  exact unhide hfin

set_option maxHeartbeats 1000000 in
set_option maxRecDepth 100000 in
theorem push_cat (base : Nat) (g cap : Nat) (vals : List Value) (T T' : TypeId) (y y' : Value) (st : List (List El × Int)) (l r : List El × Int) (w : World)
    (hown : w.ownsRow base 40 1 (.slice (some ⟨g, 0, none⟩) (vals.length + 2) cap) (vals.length + 2) (vals ++ [.iface T y, .iface T' y'])) (hst : NVals st vals) (hl : SzV (.iface T y) l.2) (hr : SzV (.iface T' y') r.2) (hbase : base ≤ w.heap.size) (hlen : vals.length + 2 ≤ 3000) (hnc : vals.length + 2 ≤ cap) (a : Option Addr) (cp : Nat) :
    Calls Tryd.prog 45 #[.slice (some ⟨g, 0, none⟩) (vals.length + 2) cap, .agg #[.int .i64 2, .slice a 0 cp, .int .i64 0, .int .i64 0]] w fun e w' => Pushed base w w' e (st ++ [l, r]) ⟨2, [], 0, 0⟩ := by
  obtain ⟨i0, hi, hz0, hz1, hz2⟩ := info_parts Tryd.info40
  have hgl : g < w.heap.size := (hown.lt g rfl).2
  have hcell : w.cell? ⟨g, vals.length, none⟩ = some (.iface T y) := by rw [hown.cellAt vals.length (by omega)]; simp
  have hcell2 : w.cell? ⟨g, vals.length + 1, none⟩ = some (.iface T' y') := by rw [hown.cellAt (vals.length + 1) (by omega)]; simp
  have hown1 : w.ownsRow base 40 1 (.slice (some ⟨g, 0, none⟩) (vals.length + 1) cap) (vals.length + 1) (vals ++ [.iface T y]) := ownsRow_pop (n := vals.length + 1) (last := [.iface T' y']) (by simp) (by rw [List.append_assoc]; exact hown)
  have Hpop := hide (ownsRow_pop (by omega) hown1)
  clear hown hown1
  have hnc' : (vals.length : Int) + 2 ≤ (cap : Int) := by omega
  go_enter Tryd.func45, Tryd.ntmps45
  go_wp2_with (first | (go_at_call 44; refine (oc _ 2 rfl _).mono ?_; rintro e w1 ⟨rfl, hw3⟩; subst hw3))
  go_quiet (fail)
  go_wp2_with (at_builtin; refine wpList_append_own _ rfl _ _ 102 rfl base 40 i0 .nilIface 1 16 Tryd.underlying102 hi hz0 hz1 hz2 rfl (by decide) _ _ _ rfl ((drew_own ((unhide Hpop).alloc _)).alloc _) ⟨w.heap.size + 1, 0, none⟩ 1 1 [.iface 71 (.agg #[.iface T y, .iface T' y'])] rfl rfl ?_ ?_ ?_ ?_ ?_ ?_)
  · refine cell_one ?_
    rw [World.cell?_alloc_at _ _ _ _ (by rw [sz_drewN, sz_alloc])]
    rfl
  · intro u hu; simp at hu; subst hu; rfl
  · unfold maxLen; omega
  · omega
  · simp only [sz_alloc, sz_drewN]; omega
  intro v' w' h1 hg _
  have hfin := hide (pushed_mk (st := st ++ [l, r]) (x := ⟨2, [], 0, 0⟩) ((below_drewN ((below1 w _).mono hbase) nq).alloc (by simp only [sz_alloc, sz_drewN]; omega) _) (by simp only [sz_alloc, sz_drewN]; omega) ((drew_own ((unhide Hpop).alloc _)).alloc _) hg h1 (Or.inr (Or.inl ⟨Or.inl rfl, st, l, r, rfl, rfl⟩)) (hst.append ⟨SzV.cat hl hr, trivial⟩))
  clear hg h1
  go_wp2
  go_ret
  exact unhide hfin

set_option maxHeartbeats 1000000 in
set_option maxRecDepth 100000 in
theorem push_alt (base : Nat) (g cap : Nat) (vals : List Value) (T T' : TypeId) (y y' : Value) (st : List (List El × Int)) (l r : List El × Int) (w : World)
    (hown : w.ownsRow base 40 1 (.slice (some ⟨g, 0, none⟩) (vals.length + 2) cap) (vals.length + 2) (vals ++ [.iface T y, .iface T' y'])) (hst : NVals st vals) (hl : SzV (.iface T y) l.2) (hr : SzV (.iface T' y') r.2) (hbase : base ≤ w.heap.size) (hlen : vals.length + 2 ≤ 3000) (hnc : vals.length + 2 ≤ cap) (a : Option Addr) (cp : Nat) :
    Calls Tryd.prog 45 #[.slice (some ⟨g, 0, none⟩) (vals.length + 2) cap, .agg #[.int .i64 3, .slice a 0 cp, .int .i64 0, .int .i64 0]] w fun e w' => Pushed base w w' e (st ++ [l, r]) ⟨3, [], 0, 0⟩ := by
  obtain ⟨i0, hi, hz0, hz1, hz2⟩ := info_parts Tryd.info40
  have hgl : g < w.heap.size := (hown.lt g rfl).2
  have hcell : w.cell? ⟨g, vals.length, none⟩ = some (.iface T y) := by rw [hown.cellAt vals.length (by omega)]; simp
  have hcell2 : w.cell? ⟨g, vals.length + 1, none⟩ = some (.iface T' y') := by rw [hown.cellAt (vals.length + 1) (by omega)]; simp
  have hown1 : w.ownsRow base 40 1 (.slice (some ⟨g, 0, none⟩) (vals.length + 1) cap) (vals.length + 1) (vals ++ [.iface T y]) := ownsRow_pop (n := vals.length + 1) (last := [.iface T' y']) (by simp) (by rw [List.append_assoc]; exact hown)
  have Hpop := hide (ownsRow_pop (by omega) hown1)
  clear hown hown1
  have hnc' : (vals.length : Int) + 2 ≤ (cap : Int) := by omega
  go_enter Tryd.func45, Tryd.ntmps45
  go_wp2_with (first | (go_at_call 44; refine (oc _ 2 rfl _).mono ?_; rintro e w1 ⟨rfl, hw3⟩; subst hw3))
  go_quiet (fail)
  go_wp2_with (at_builtin; refine wpList_append_own _ rfl _ _ 102 rfl base 40 i0 .nilIface 1 16 Tryd.underlying102 hi hz0 hz1 hz2 rfl (by decide) _ _ _ rfl ((drew_own ((unhide Hpop).alloc _)).alloc _) ⟨w.heap.size + 1, 0, none⟩ 1 1 [.iface 106 (.agg #[.iface T y, .iface T' y'])] rfl rfl ?_ ?_ ?_ ?_ ?_ ?_)
  · refine cell_one ?_
    rw [World.cell?_alloc_at _ _ _ _ (by rw [sz_drewN, sz_alloc])]
    rfl
  · intro u hu; simp at hu; subst hu; rfl
  · unfold maxLen; omega
  · omega
  · simp only [sz_alloc, sz_drewN]; omega
  intro v' w' h1 hg _
  have hfin := hide (pushed_mk (st := st ++ [l, r]) (x := ⟨3, [], 0, 0⟩) ((below_drewN ((below1 w _).mono hbase) nq).alloc (by simp only [sz_alloc, sz_drewN]; omega) _) (by simp only [sz_alloc, sz_drewN]; omega) ((drew_own ((unhide Hpop).alloc _)).alloc _) hg h1 (Or.inr (Or.inl ⟨Or.inr rfl, st, l, r, rfl, rfl⟩)) (hst.append ⟨SzV.alt hl hr, trivial⟩))
  clear hg h1
  go_wp2
  go_ret
  exact unhide hfin

end Go.Proofs.YtfdkdjngeomcdaaDoor

namespace Go.Proofs.YtfdkdjngeomcdaaDoor
open Go.RowKit

theorem validElement_iff {x : El} : ElOk x ↔ (x.kind = 1 ∧ Canon x.set ∧ x.mn = 0 ∧ x.mx = 0) ∨ ((x.kind = 0 ∨ x.kind = 2 ∨ x.kind = 3) ∧ x.set.length = 0 ∧ x.mn = 0 ∧ x.mx = 0) ∨ (x.kind = 4 ∧ x.set.length = 0 ∧ BdOk x.mn x.mx) := Iff.rfl

set_option maxHeartbeats 1000000 in
theorem validElement_any (v : Value) (x : El) (w : World) (hv : IntsAt 0 w.heap.size w v x.set) :
    Calls Tryd.prog 43 #[.agg #[.int .i64 x.kind, v, .int .i64 x.mn, .int .i64 x.mx]] w fun e w' => RetB e (ElOk x) ∧ Below w.heap.size w w' := by
  obtain ⟨a, cap, rfl, hl, -, -⟩ := id hv
  unfold maxLen at hl
  obtain ⟨k, xs, mn, mx⟩ := x
  simp only at *
  have Hv := hide hv
  clear hv
  by_cases h1 : k = 1
  · subst h1
    go_enter Tryd.func43, Tryd.ntmps43
    go_wp2_with fail
    refine (canonical_any _ xs _ (by exact (unhide Hv).below (below1 w _) (Nat.le_refl _))).mono ?_
    rintro e w1 ⟨hret, hb1⟩
    obtain ⟨hc1, hf1⟩ := bcell hb1
    simp only [sz_alloc] at hc1 hf1
    have hB : Below w.heap.size w w1 := (below1 w _).trans (hb1.mono (by rw [sz_alloc]; omega))
    clear hb1
    rcases hret.cases with ⟨rfl, hcn⟩ | ⟨rfl, hcn⟩
    · have Hcn := hide hcn
      clear hcn
      by_cases h2 : mn = 0
      · by_cases h3 : mx = 0
        · go_wp2
          go_ret
          exact ⟨RetB.yes (Or.inl ⟨rfl, unhide Hcn, h2, h3⟩), hB⟩
        · have h3' : (mx == 0) = false := by simp [h3]
          go_wp2
          go_ret
          exact ⟨RetB.no (by rintro (⟨q1, q2, q3, q4⟩ | ⟨q1, q2, q3, q4⟩ | ⟨q1, q2, q3, q4, q5⟩) <;> simp only at * <;> omega), hB⟩
      · have h2' : (mn == 0) = false := by simp [h2]
        go_wp2
        go_ret
        exact ⟨RetB.no (by rintro (⟨q1, q2, q3, q4⟩ | ⟨q1, q2, q3, q4⟩ | ⟨q1, q2, q3, q4, q5⟩) <;> simp only at * <;> omega), hB⟩
    · have Hcn := hide hcn
      clear hcn
      go_wp2
      go_ret
      exact ⟨RetB.no (by rintro (⟨q1, q2, q3, q4⟩ | ⟨q1, q2, q3, q4⟩ | ⟨q1, q2, q3, q4, q5⟩) <;> simp only at * <;> first | exact unhide Hcn q2 | omega), hB⟩
  · have b1 : (k == 1) = false := by simp [h1]
    by_cases h4 : k = 4
    · subst h4
      by_cases hlen : xs.length = 0
      · have hlen' : ((xs.length : Int) == 0) = true := by simp; exact List.eq_nil_of_length_eq_zero hlen
        have Hlen := hide hlen
        clear hlen
        go_enter Tryd.func43, Tryd.ntmps43
        go_wp2_with fail
        refine (validBounds_any mn mx _).mono ?_
        rintro e w1 ⟨hret, rfl⟩
        rcases hret.cases with ⟨rfl, hcn⟩ | ⟨rfl, hcn⟩
        · have Hcn := hide hcn
          clear hcn
          go_wp2
          go_ret
          exact ⟨RetB.yes (Or.inr (Or.inr ⟨rfl, unhide Hlen, unhide Hcn⟩)), below1 w _⟩
        · have Hcn := hide hcn
          clear hcn
          go_wp2
          go_ret
          exact ⟨RetB.no (by rintro (⟨q1, q2, q3, q4⟩ | ⟨q1, q2, q3, q4⟩ | ⟨q1, q2, q3⟩) <;> simp only at * <;> first | exact unhide Hcn q3 | omega), below1 w _⟩
      · have hlen' : ((xs.length : Int) == 0) = false := by simp; intro e; exact hlen (by rw [e]; rfl)
        go_enter Tryd.func43, Tryd.ntmps43
        go_wp2
        go_ret
        exact ⟨RetB.no (by rintro (⟨q1, q2, q3, q4⟩ | ⟨q1, q2, q3, q4⟩ | ⟨q1, q2, q3⟩) <;> simp only at * <;> omega), below1 w _⟩
    · have b4 : (k == 4) = false := by simp [h4]
      by_cases hk : k = 0 ∨ k = 2 ∨ k = 3
      · by_cases hlen : xs.length = 0
        · have hlen' : ((xs.length : Int) == 0) = true := by simp; exact List.eq_nil_of_length_eq_zero hlen
          have Hlen := hide hlen
          clear hlen h1 h4
          by_cases h2 : mn = 0
          · by_cases h3 : mx = 0
            · rcases hk with rfl | rfl | rfl
              all_goals
                go_enter Tryd.func43, Tryd.ntmps43
                go_wp2
                go_ret
                exact ⟨RetB.yes (Or.inr (Or.inl ⟨by simp, unhide Hlen, h2, h3⟩)), below1 w _⟩
            · have h3' : (mx == 0) = false := by simp [h3]
              rcases hk with rfl | rfl | rfl
              all_goals
                go_enter Tryd.func43, Tryd.ntmps43
                go_wp2
                go_ret
                exact ⟨RetB.no (by rintro (⟨q1, q2, q3, q4⟩ | ⟨q1, q2, q3, q4⟩ | ⟨q1, q2, q3, q4, q5⟩) <;> simp only at * <;> omega), below1 w _⟩
          · have h2' : (mn == 0) = false := by simp [h2]
            rcases hk with rfl | rfl | rfl
            all_goals
              go_enter Tryd.func43, Tryd.ntmps43
              go_wp2
              go_ret
              exact ⟨RetB.no (by rintro (⟨q1, q2, q3, q4⟩ | ⟨q1, q2, q3, q4⟩ | ⟨q1, q2, q3, q4, q5⟩) <;> simp only at * <;> omega), below1 w _⟩
        · have hlen' : ((xs.length : Int) == 0) = false := by simp; intro e; exact hlen (by rw [e]; rfl)
          clear h1 h4
          rcases hk with rfl | rfl | rfl
          all_goals
            go_enter Tryd.func43, Tryd.ntmps43
            go_wp2
            go_ret
            exact ⟨RetB.no (by rintro (⟨q1, q2, q3, q4⟩ | ⟨q1, q2, q3, q4⟩ | ⟨q1, q2, q3, q4, q5⟩) <;> simp only at * <;> omega), below1 w _⟩
      · have b0 : (k == 0) = false := by simp; omega
        have b2 : (k == 2) = false := by simp; omega
        have b3 : (k == 3) = false := by simp; omega
        go_enter Tryd.func43, Tryd.ntmps43
        go_wp2
        go_ret
        exact ⟨RetB.no (by rintro (⟨q1, q2, q3, q4⟩ | ⟨q1, q2, q3, q4⟩ | ⟨q1, q2, q3, q4, q5⟩) <;> simp only at * <;> omega), below1 w _⟩

end Go.Proofs.YtfdkdjngeomcdaaDoor

namespace Go.Proofs.YtfdkdjngeomcdaaDoor
open Go.RowKit

theorem own_len {base n : Nat} {w : World} {v : Value} {vals : List Value} (hown : w.ownsRow base 40 1 v n vals) (h : 0 < n) : ∃ g cap, v = .slice (some ⟨g, 0, none⟩) n cap ∧ n ≤ cap ∧ cap ≤ maxLen := by
  rcases hown.2 with ⟨rfl, hn⟩ | ⟨g, cap, cur, rfl, hbg, hg, hnc, hcm, hcs, htake⟩
  · omega
  · exact ⟨g, cap, rfl, hnc, hcm⟩

theorem pushElement_any (base : Nat) (v sv : Value) (vals : List Value) (st : List (List El × Int)) (x : El) (w : World) (hown : w.ownsRow base 40 1 v vals.length vals) (hst : NVals st vals) (hbase : base ≤ w.heap.size) (hlen : vals.length ≤ 3000)
    (hv : IntsAt 0 w.heap.size w sv x.set) (ok : ElOk x) (hcnt : cnt x.kind ≤ vals.length) :
    Calls Tryd.prog 45 #[v, .agg #[.int .i64 x.kind, sv, .int .i64 x.mn, .int .i64 x.mx]] w fun e w' => Pushed base w w' e st x := by
  obtain ⟨k, xs, mn, mx⟩ := x
  have hsl := hst.len
  rcases ok with ⟨q1, q2, q3, q4⟩ | ⟨q1, q2, q3, q4⟩ | ⟨q1, q2, q3⟩
  · simp only at q1 q2 q3 q4 hv
    subst q1 q3 q4
    rcases hown.2 with ⟨rfl, hn⟩ | ⟨g, cap, cur, rfl, hbg, hg, hnc, hcm, hcs, htake⟩
    · obtain rfl : vals = [] := List.eq_nil_of_length_eq_zero hn
      obtain rfl : st = [] := List.eq_nil_of_length_eq_zero (by simpa using hsl)
      exact push_s_nil base sv xs w hown hbase hv q2
    · exact push_s base g cap vals st sv xs w hown hst hbase hlen hnc hcm hv q2
  · simp only at q1 q2 q3 q4 hv
    subst q3 q4
    obtain rfl := List.eq_nil_of_length_eq_zero q2
    obtain ⟨a, cp, rfl, -, -, -⟩ := hv
    rcases q1 with rfl | rfl | rfl
    · rcases hown.2 with ⟨rfl, hn⟩ | ⟨g, cap, cur, rfl, hbg, hg, hnc, hcm, hcs, htake⟩
      · obtain rfl : vals = [] := List.eq_nil_of_length_eq_zero hn
        obtain rfl : st = [] := List.eq_nil_of_length_eq_zero (by simpa using hsl)
        exact push_e_nil base w hown hbase a cp
      · exact push_e base g cap vals st w hown hst hbase hlen hnc a cp
    · have hc2 : (2 : Int) ≤ vals.length := hcnt
      obtain ⟨b, l, r, rfl⟩ := snoc2 (st := st) (by omega)
      obtain ⟨u, z, rfl, hu, hz⟩ := hst.split
      obtain ⟨y1, y2, rfl, h1, h2⟩ := hz.two
      obtain ⟨T, y, rfl⟩ := h1.iface
      obtain ⟨T', y', rfl⟩ := h2.iface
      obtain ⟨g, cap, rfl, hnc, hcm⟩ := own_len hown (by omega)
      simp only [List.length_append, List.length_cons, List.length_nil] at hown hlen hnc ⊢
      exact push_cat base g cap u T T' y y' b l r w hown hu h1 h2 hbase hlen hnc a cp
    · have hc2 : (2 : Int) ≤ vals.length := hcnt
      obtain ⟨b, l, r, rfl⟩ := snoc2 (st := st) (by omega)
      obtain ⟨u, z, rfl, hu, hz⟩ := hst.split
      obtain ⟨y1, y2, rfl, h1, h2⟩ := hz.two
      obtain ⟨T, y, rfl⟩ := h1.iface
      obtain ⟨T', y', rfl⟩ := h2.iface
      obtain ⟨g, cap, rfl, hnc, hcm⟩ := own_len hown (by omega)
      simp only [List.length_append, List.length_cons, List.length_nil] at hown hlen hnc ⊢
      exact push_alt base g cap u T T' y y' b l r w hown hu h1 h2 hbase hlen hnc a cp
  · simp only at q1 q2 q3 hv
    subst q1
    obtain rfl := List.eq_nil_of_length_eq_zero q2
    obtain ⟨a, cp, rfl, -, -, -⟩ := hv
    have hc1 : (1 : Int) ≤ vals.length := hcnt
    obtain ⟨b, o, rfl⟩ := snoc1 (st := st) (by omega)
    obtain ⟨u, z, rfl, hu, hz⟩ := hst.split
    obtain ⟨y1, rfl, h1⟩ := hz.one
    obtain ⟨T, y, rfl⟩ := h1.iface
    obtain ⟨g, cap, rfl, hnc, hcm⟩ := own_len hown (by simp)
    simp only [List.length_append, List.length_cons, List.length_nil] at hown hlen hnc ⊢
    exact push_rep base g cap u T y b o mn mx w hown hu h1 q3.1 q3.2.1 q3.2.2 hbase hlen hnc a cp

end Go.Proofs.YtfdkdjngeomcdaaDoor

namespace Go.Proofs.YtfdkdjngeomcdaaDoor
open Go.RowKit

theorem own_at_g {base n e : Nat} {w : World} {v : Value} {xs : List Value} (h : w.ownsRow base e 1 v n xs) (hp : 0 < n) : ∃ g cap, v = .slice (some ⟨g, 0, none⟩) n cap ∧ ∀ j : Nat, j < n → w.cell? ⟨g, j, none⟩ = xs[j]? := by
  rcases h.2 with ⟨rfl, hz⟩ | ⟨g, cap, cur, rfl, hbg, hg, hnc, hcm, hcs, htake⟩
  · omega
  · exact ⟨g, cap, rfl, fun j hj => h.cellAt j (by omega)⟩
theorem jn_len (ps : List (List El)) (h : ∀ p ∈ ps, p.length ≤ 3002) : (jn ps).length ≤ ps.length * 3003 := by
  cases ps with
  | nil => simp [jn]
  | cons p r =>
    have key : ∀ (r : List (List El)) (acc : List El), (∀ p ∈ r, p.length ≤ 3002) → (r.foldl (fun acc q => acc ++ q ++ [catE]) acc).length ≤ acc.length + r.length * 3003 := by
      intro r
      induction r with
      | nil => intro acc _; simp
      | cons q r ih =>
        intro acc hq
        have h1 := ih (acc ++ q ++ [catE]) (fun p hp => hq p (by simp [hp]))
        have h2 := hq q (by simp)
        simp only [List.foldl_cons, List.length_cons, List.length_append, List.length_nil] at h1 ⊢
        omega
    have h1 := key r p (fun q hq => h q (by simp [hq]))
    have h2 := h p (by simp)
    simp only [jn, List.length_cons]
    omega
theorem jn_nice (ps : List (List El)) (h : ∀ p ∈ ps, Nice p) : Nice (jn ps) := by
  cases ps with
  | nil => exact Nice.nil
  | cons p r =>
    have key : ∀ (r : List (List El)) (acc : List El), Nice acc → (∀ p ∈ r, Nice p) → Nice (r.foldl (fun acc q => acc ++ q ++ [catE]) acc) := by
      intro r
      induction r with
      | nil => intro acc h _; exact h
      | cons q r ih =>
        intro acc ha hq
        exact ih _ ((ha.app (hq q (by simp))).app (Nice.op 2 0 0 (by simp [In64]) (by simp [In64]) (by simp [In64]))) (fun p hp => hq p (by simp [hp]))
    exact key r p (h p (by simp)) (fun q hq => h q (by simp [hq]))
theorem jn_next {ps : List Pt} {k : Nat} (h : k < ps.length) : jn ((ps.take (k + 1)).map Pt.P) = if k = 0 then (ps[k]).P else jn ((ps.take k).map Pt.P) ++ (ps[k]).P ++ [catE] := by
  rw [List.take_succ_eq_append_getElem h, List.map_append]
  by_cases e : k = 0
  · subst e; simp [jn]
  · rw [if_neg e]
    exact jn_snoc (by intro q; have := congrArg List.length q; rw [List.length_map, List.length_take, List.length_nil] at this; omega) _

end Go.Proofs.YtfdkdjngeomcdaaDoor
