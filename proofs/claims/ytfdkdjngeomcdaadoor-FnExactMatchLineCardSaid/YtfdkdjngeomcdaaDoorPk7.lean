import Derived.Test.YtfdkdjngeomcdaaDoorY4
import Derived.Test.YtfdkdjngeomcdaaDoorE3
import Derived.Test.YtfdkdjngeomcdaaDoorPk5
import Derived.Test.YtfdkdjngeomcdaaDoorP5
import Derived.Test.YtfdkdjngeomcdaaDoorPk2
import Derived.Laws.Bits64b
namespace Go.Proofs.YtfdkdjngeomcdaaDoor
open Go.RowKit

/-- What a predicate of nodes must bear for nodeOf. -/
structure Clos (G : Value → List El × Int → Prop) : Prop where
  sz : ∀ {u : Value} {t : List El × Int}, G u t → SzV u t.2
  e : G eV ([⟨0, [], 0, 0⟩], 1)
  s : ∀ {xs : List Int} {g : Nat → Nat}, Canon xs → WordsOf xs g → G (sV g) ([⟨1, xs, 0, 0⟩], 1)
  cat : ∀ {u v : Value} {l r : List El × Int}, G u l → G v r → G (cV u v) (l.1 ++ r.1 ++ [⟨2, [], 0, 0⟩], cap (l.2 + r.2))
  alt : ∀ {u v : Value} {l r : List El × Int}, G u l → G v r → G (aV u v) (l.1 ++ r.1 ++ [⟨3, [], 0, 0⟩], cap (l.2 + r.2))
  rep : ∀ {u : Value} {o : List El × Int} {mn mx : Int}, G u o → 0 ≤ mn → mn ≤ 250 → (mx = -1 ∨ (mn ≤ mx ∧ mx ≤ 250)) → G (rV u mn mx) (o.1 ++ [⟨4, [], mn, mx⟩], cap (repSize o.2 mn mx))

/-- The values of a stack of trees. -/
def GVals (G : Value → List El × Int → Prop) : List (List El × Int) → List Value → Prop
  | [], [] => True
  | t :: ts, u :: us => G u t ∧ GVals G ts us
  | _, _ => False

theorem GVals.len {G : Value → List El × Int → Prop} : ∀ {ts : List (List El × Int)} {us : List Value}, GVals G ts us → ts.length = us.length
  | [], [], _ => rfl
  | _ :: _, _ :: _, h => by simp [GVals.len h.2]
  | [], _ :: _, h => h.elim
  | _ :: _, [], h => h.elim

theorem GVals.append {G : Value → List El × Int → Prop} : ∀ {a b : List (List El × Int)} {us vs : List Value}, GVals G a us → GVals G b vs → GVals G (a ++ b) (us ++ vs)
  | [], _, [], _, _, k => k
  | _ :: _, _, _ :: _, _, h, k => ⟨h.1, GVals.append h.2 k⟩
  | [], _, _ :: _, _, h, _ => h.elim
  | _ :: _, _, [], _, h, _ => h.elim

theorem GVals.split {G : Value → List El × Int → Prop} : ∀ {a b : List (List El × Int)} {us : List Value}, GVals G (a ++ b) us → ∃ u v, us = u ++ v ∧ GVals G a u ∧ GVals G b v
  | [], _, us, h => ⟨[], us, rfl, trivial, h⟩
  | _ :: _, _, y :: _, h => by
    obtain ⟨u, v, rfl, hu, hv⟩ := GVals.split h.2
    exact ⟨y :: u, v, rfl, ⟨h.1, hu⟩, hv⟩
  | _ :: _, _, [], h => h.elim

theorem GVals.one {G : Value → List El × Int → Prop} {t : List El × Int} {us : List Value} (h : GVals G [t] us) : ∃ u, us = [u] ∧ G u t := by
  match us, h with
  | [u], h => exact ⟨u, rfl, h.1⟩
theorem GVals.two {G : Value → List El × Int → Prop} {s t : List El × Int} {us : List Value} (h : GVals G [s, t] us) : ∃ u v, us = [u, v] ∧ G u s ∧ G v t := by
  match us, h with
  | [u, v], h => exact ⟨u, v, rfl, h.1, h.2.1⟩

/-- What pushElement leaves. -/
def PushedG (G : Value → List El × Int → Prop) (base : Nat) (w w' : World) (e : Ending) (st : List (List El × Int)) (x : El) : Prop :=
  ∃ v' vals' st', e = .returned v' ∧ w'.ownsRow base 40 1 v' vals'.length vals' ∧ PushR st x st' ∧ GVals G st' vals' ∧ Below base w w'

theorem gpushed_mk {G : Value → List El × Int → Prop} {base : Nat} {w W w' : World} {v' v0 : Value} {n : Nat} {xs : List Value} {u : Value} {st st' : List (List El × Int)} {x : El} (hW : Below base w W) (hB : base ≤ W.heap.size) (h0 : W.ownsRow base 40 1 v0 n xs)
    (hg : W.grownBy w' v0.ownBlock) (h1 : w'.ownsRow base 40 1 v' (n + 1) (xs ++ [u])) (hp : PushR st x st') (hn : GVals G st' (xs ++ [u])) : PushedG G base w w' (.returned v') st x := by
  have hl := h1.1
  rw [Nat.mul_one] at hl
  refine ⟨v', xs ++ [u], st', rfl, by rw [hl]; exact h1, hp, hn, hW.grown hg hB (fun k hk => ?_)⟩
  exact (h0.lt k hk).1

set_option maxHeartbeats 1000000 in
set_option maxRecDepth 100000 in
theorem gpush_e_nil {G : Value → List El × Int → Prop} (hG : Clos G) (base : Nat) (w : World) (hown : w.ownsRow base 40 1 (.slice none 0 0) 0 []) (hbase : base ≤ w.heap.size) (a : Option Addr) (cp : Nat) :
    Calls Tryd.prog 45 #[.slice none 0 0, .agg #[.int .i64 0, .slice a 0 cp, .int .i64 0, .int .i64 0]] w fun e w' => PushedG G base w w' e [] ⟨0, [], 0, 0⟩ := by
  obtain ⟨i0, hi, hz0, hz1, hz2⟩ := info_parts Tryd.info40
  have Hown := hide hown
  clear hown
  go_enter Tryd.func45, Tryd.ntmps45
  go_wp2_with (first | (go_at_call 44; refine (oc _ 0 rfl _).mono ?_; rintro e w1 ⟨rfl, hw3⟩; subst hw3) | (at_builtin; refine wpList_append_own _ rfl _ _ 102 rfl base 40 i0 .nilIface 1 16 Tryd.underlying102 hi hz0 hz1 hz2 rfl (by decide) _ _ _ rfl (((unhide Hown).alloc _).alloc _) ⟨w.heap.size + 1, 0, none⟩ 1 1 [.iface 125 (.agg #[])] rfl rfl ?c1 ?c2 ?c3 ?c4 ?c5 ?_))
  case c1 => exact cell_one (by simp)
  case c2 => intro u hu; simp at hu; subst hu; rfl
  case c3 => unfold maxLen; simp
  case c4 => simp
  case c5 => simp only [sz_alloc]; omega
  intro v' w' h1 hg _
  have hfin := hide (gpushed_mk ((below2 w _ _).mono hbase) (by simp only [sz_alloc]; omega) (((unhide Hown).alloc _).alloc _) hg h1 (st := []) (x := ⟨0, [], 0, 0⟩) (Or.inl ⟨Or.inl rfl, rfl⟩) ⟨hG.e, trivial⟩)
  clear hg h1
  go_wp2
  go_ret
  exact unhide hfin

set_option maxHeartbeats 1000000 in
set_option maxRecDepth 100000 in
theorem gpush_e {G : Value → List El × Int → Prop} (hG : Clos G) (base : Nat) (g cap : Nat) (vals : List Value) (st : List (List El × Int)) (w : World) (hown : w.ownsRow base 40 1 (.slice (some ⟨g, 0, none⟩) vals.length cap) vals.length vals) (hst : GVals G st vals) (hbase : base ≤ w.heap.size) (hlen : vals.length ≤ 3000) (hnc : vals.length ≤ cap) (a : Option Addr) (cp : Nat) :
    Calls Tryd.prog 45 #[.slice (some ⟨g, 0, none⟩) vals.length cap, .agg #[.int .i64 0, .slice a 0 cp, .int .i64 0, .int .i64 0]] w fun e w' => PushedG G base w w' e st ⟨0, [], 0, 0⟩ := by
  obtain ⟨i0, hi, hz0, hz1, hz2⟩ := info_parts Tryd.info40
  have Hown := hide hown
  clear hown
  have hnc' : (vals.length : Int) ≤ (cap : Int) := by omega
  go_enter Tryd.func45, Tryd.ntmps45
  go_wp2_with (first | (go_at_call 44; refine (oc _ 0 rfl _).mono ?_; rintro e w1 ⟨rfl, hw3⟩; subst hw3) | (at_builtin; refine wpList_append_own _ rfl _ _ 102 rfl base 40 i0 .nilIface 1 16 Tryd.underlying102 hi hz0 hz1 hz2 rfl (by decide) _ _ _ rfl (((unhide Hown).alloc _).alloc _) ⟨w.heap.size + 1, 0, none⟩ 1 1 [.iface 125 (.agg #[])] rfl rfl ?_ ?_ ?_ ?_ ?_ ?_))
  · exact cell_one (by simp)
  · intro u hu; simp at hu; subst hu; rfl
  · unfold maxLen; omega
  · omega
  · simp only [sz_alloc]; omega
  all_goals
    intro v' w' h1 hg _
    have hfin := hide (gpushed_mk (v0 := .slice (some ⟨g, 0, none⟩) vals.length cap) (x := ⟨0, [], 0, 0⟩) ((below2 w _ _).mono hbase) (by simp only [sz_alloc]; omega) (((unhide Hown).alloc _).alloc _) hg h1 (Or.inl ⟨Or.inl rfl, rfl⟩) (hst.append ⟨hG.e, trivial⟩))
    clear hg h1
    go_wp2
    go_ret
    exact unhide hfin

set_option maxHeartbeats 1000000 in
set_option maxRecDepth 100000 in
theorem gpush_s_nil {G : Value → List El × Int → Prop} (hG : Clos G) (base : Nat) (sv : Value) (xs : List Int) (w : World) (hown : w.ownsRow base 40 1 (.slice none 0 0) 0 []) (hbase : base ≤ w.heap.size) (hv : IntsAt 0 w.heap.size w sv xs) (hcn : Canon xs) :
    Calls Tryd.prog 45 #[.slice none 0 0, .agg #[.int .i64 1, sv, .int .i64 0, .int .i64 0]] w fun e w' => PushedG G base w w' e [] ⟨1, xs, 0, 0⟩ := by
  obtain ⟨i0, hi, hz0, hz1, hz2⟩ := info_parts Tryd.info40
  obtain ⟨a, cp, rfl, -, -, -⟩ := id hv
  have Hown := hide hown
  have Hv := hide hv
  clear hown hv
  go_enter Tryd.func45, Tryd.ntmps45
  go_wp2_with (first | (go_at_call 44; refine (oc _ 0 rfl _).mono ?_; rintro e w1 ⟨rfl, hw3⟩; subst hw3))
  refine (setOf_w _ xs _ (by exact (unhide Hv).below (below1 w _) (Nat.le_refl _)) hcn).mono ?_
  rintro e w1 ⟨q, rfl, hwo, hb1⟩
  unfold ws4
  have HWO := hide hwo
  clear hwo
  have hB : Below w.heap.size w w1 := (below1 w _).trans (hb1.mono (by rw [sz_alloc]; omega))
  have Hown1 := hide (own_below (unhide Hown) hB (Nat.le_refl _))
  have hsz := hB.size
  clear hb1
  go_wp2_with (at_builtin; refine wpList_append_own _ rfl _ _ 102 rfl base 40 i0 .nilIface 1 16 Tryd.underlying102 hi hz0 hz1 hz2 rfl (by decide) _ _ _ rfl ((unhide Hown1).alloc _) ⟨w1.heap.size, 0, none⟩ 1 1 [.iface 67 (.agg #[.int .u64 (q 0 : Nat), .int .u64 (q 1 : Nat), .int .u64 (q 2 : Nat), .int .u64 (q 3 : Nat)])] rfl rfl ?_ ?_ ?_ ?_ ?_ ?_)
  · exact cell_one (by simp)
  · intro u hu; simp at hu; subst hu; rfl
  · unfold maxLen; simp
  · simp
  · simp only [sz_alloc]; omega
  all_goals
    intro v' w' h1 hg _
    have hfin := hide (gpushed_mk (v0 := .slice none 0 0) (st := []) (x := ⟨1, xs, 0, 0⟩) (((hB.mono hbase)).alloc (by omega) _) (by simp only [sz_alloc]; omega) ((unhide Hown1).alloc _) hg h1 (Or.inl ⟨Or.inr rfl, rfl⟩) ⟨hG.s hcn (unhide HWO), trivial⟩)
    clear hg h1
    go_wp2
    go_ret
    exact unhide hfin

set_option maxHeartbeats 1000000 in
set_option maxRecDepth 100000 in
theorem gpush_s {G : Value → List El × Int → Prop} (hG : Clos G) (base : Nat) (g cap : Nat) (vals : List Value) (st : List (List El × Int)) (sv : Value) (xs : List Int) (w : World) (hown : w.ownsRow base 40 1 (.slice (some ⟨g, 0, none⟩) vals.length cap) vals.length vals) (hst : GVals G st vals) (hbase : base ≤ w.heap.size) (hlen : vals.length ≤ 3000) (hnc : vals.length ≤ cap) (hcm : cap ≤ maxLen) (hv : IntsAt 0 w.heap.size w sv xs) (hcn : Canon xs) :
    Calls Tryd.prog 45 #[.slice (some ⟨g, 0, none⟩) vals.length cap, .agg #[.int .i64 1, sv, .int .i64 0, .int .i64 0]] w fun e w' => PushedG G base w w' e st ⟨1, xs, 0, 0⟩ := by
  obtain ⟨i0, hi, hz0, hz1, hz2⟩ := info_parts Tryd.info40
  obtain ⟨a, cp, rfl, -, -, -⟩ := id hv
  have Hown := hide hown
  have Hv := hide hv
  clear hown hv
  unfold maxLen at hcm
  rcases Nat.lt_or_eq_of_le hnc with hlt | rfl
  all_goals
    go_enter Tryd.func45, Tryd.ntmps45
    go_wp2_with (first | (go_at_call 44; refine (oc _ 0 rfl _).mono ?_; rintro e w1 ⟨rfl, hw3⟩; subst hw3))
    refine (setOf_w _ xs _ (by exact (unhide Hv).below (below1 w _) (Nat.le_refl _)) hcn).mono ?_
    rintro e w1 ⟨q, rfl, hwo, hb1⟩
    unfold ws4
    have HWO := hide hwo
    clear hwo
    have hB : Below w.heap.size w w1 := (below1 w _).trans (hb1.mono (by rw [sz_alloc]; omega))
    have Hown1 := hide (own_below (unhide Hown) hB (Nat.le_refl _))
    have hsz := hB.size
    clear hb1
    go_wp2_with (at_builtin; refine wpList_append_own _ rfl _ _ 102 rfl base 40 i0 .nilIface 1 16 Tryd.underlying102 hi hz0 hz1 hz2 rfl (by decide) _ _ _ rfl ((unhide Hown1).alloc _) ⟨w1.heap.size, 0, none⟩ 1 1 [.iface 67 (.agg #[.int .u64 (q 0 : Nat), .int .u64 (q 1 : Nat), .int .u64 (q 2 : Nat), .int .u64 (q 3 : Nat)])] rfl rfl ?_ ?_ ?_ ?_ ?_ ?_)
    · exact cell_one (by simp)
    · intro u hu; simp at hu; subst hu; rfl
    · unfold maxLen; omega
    · omega
    · simp only [sz_alloc]; omega
    intro v' w' h1 hg _
    have hfin := hide (gpushed_mk (v0 := _) (x := ⟨1, xs, 0, 0⟩) (((hB.mono hbase)).alloc (by omega) _) (by simp only [sz_alloc]; omega) ((unhide Hown1).alloc _) hg h1 (Or.inl ⟨Or.inr rfl, rfl⟩) (hst.append ⟨hG.s hcn (unhide HWO), trivial⟩))
    clear hg h1
    go_wp2
    go_ret
    exact unhide hfin

end Go.Proofs.YtfdkdjngeomcdaaDoor

namespace Go.Proofs.YtfdkdjngeomcdaaDoor
open Go.RowKit

set_option maxHeartbeats 1000000 in
set_option maxRecDepth 100000 in
theorem gpush_rep {G : Value → List El × Int → Prop} (hG : Clos G) (base : Nat) (g cap : Nat) (vals : List Value) (T : TypeId) (y : Value) (st : List (List El × Int)) (o : List El × Int) (mn mx : Int) (w : World)
    (hown : w.ownsRow base 40 1 (.slice (some ⟨g, 0, none⟩) (vals.length + 1) cap) (vals.length + 1) (vals ++ [.iface T y])) (hst : GVals G st vals) (ho : G (.iface T y) o) (o2 : 0 ≤ mn) (o3 : mn ≤ 250) (o4 : mx = -1 ∨ (mn ≤ mx ∧ mx ≤ 250)) (hbase : base ≤ w.heap.size) (hlen : vals.length + 1 ≤ 3000) (hnc : vals.length + 1 ≤ cap) (a : Option Addr) (cp : Nat) :
    Calls Tryd.prog 45 #[.slice (some ⟨g, 0, none⟩) (vals.length + 1) cap, .agg #[.int .i64 4, .slice a 0 cp, .int .i64 mn, .int .i64 mx]] w fun e w' => PushedG G base w w' e (st ++ [o]) ⟨4, [], mn, mx⟩ := by
  obtain ⟨i0, hi, hz0, hz1, hz2⟩ := info_parts Tryd.info40
  have hgl : g < w.heap.size := (hown.lt g rfl).2
  have hcell : w.cell? ⟨g, vals.length, none⟩ = some (.iface T y) := by rw [hown.cellAt vals.length (by omega)]; simp
  have Hpop := hide (ownsRow_pop (by omega) hown)
  clear hown
  have hnc' : (vals.length : Int) + 1 ≤ (cap : Int) := by omega
  go_enter Tryd.func45, Tryd.ntmps45
  go_wp2_with (first | (go_at_call 44; refine (oc _ 1 rfl _).mono ?_; rintro e w1 ⟨rfl, hw3⟩; subst hw3))
  go_quiet (fail)
  go_wp2_with (at_builtin; refine wpList_append_own _ rfl _ _ 102 rfl base 40 i0 .nilIface 1 16 Tryd.underlying102 hi hz0 hz1 hz2 rfl (by decide) _ _ _ rfl ((drew_own ((unhide Hpop).alloc _)).alloc _) ⟨w.heap.size + 1, 0, none⟩ 1 1 [.iface 69 (.agg #[.iface T y, .int .i64 mn, .int .i64 mx])] rfl rfl ?_ ?_ ?_ ?_ ?_ ?_)
  · refine cell_one ?_
    rw [World.cell?_alloc_at _ _ _ _ (by rw [sz_drewN, sz_alloc])]
    rfl
  · intro u hu; simp at hu; subst hu; rfl
  · unfold maxLen; omega
  · omega
  · simp only [sz_alloc, sz_drewN]; omega
  intro v' w' h1 hg _
  have hfin := hide (gpushed_mk (st := st ++ [o]) (x := ⟨4, [], mn, mx⟩) ((below_drewN ((below1 w _).mono hbase) nq).alloc (by simp only [sz_alloc, sz_drewN]; omega) _) (by simp only [sz_alloc, sz_drewN]; omega) ((drew_own ((unhide Hpop).alloc _)).alloc _) hg h1 (Or.inr (Or.inr ⟨rfl, st, o, rfl, rfl⟩)) (hst.append ⟨hG.rep ho o2 o3 o4, trivial⟩))
  clear hg h1
  go_wp2
  go_ret
  exact unhide hfin

set_option maxHeartbeats 1000000 in
set_option maxRecDepth 100000 in
theorem gpush_cat {G : Value → List El × Int → Prop} (hG : Clos G) (base : Nat) (g cap : Nat) (vals : List Value) (T T' : TypeId) (y y' : Value) (st : List (List El × Int)) (l r : List El × Int) (w : World)
    (hown : w.ownsRow base 40 1 (.slice (some ⟨g, 0, none⟩) (vals.length + 2) cap) (vals.length + 2) (vals ++ [.iface T y, .iface T' y'])) (hst : GVals G st vals) (hl : G (.iface T y) l) (hr : G (.iface T' y') r) (hbase : base ≤ w.heap.size) (hlen : vals.length + 2 ≤ 3000) (hnc : vals.length + 2 ≤ cap) (a : Option Addr) (cp : Nat) :
    Calls Tryd.prog 45 #[.slice (some ⟨g, 0, none⟩) (vals.length + 2) cap, .agg #[.int .i64 2, .slice a 0 cp, .int .i64 0, .int .i64 0]] w fun e w' => PushedG G base w w' e (st ++ [l, r]) ⟨2, [], 0, 0⟩ := by
  obtain ⟨i0, hi, hz0, hz1, hz2⟩ := info_parts Tryd.info40
  have hgl : g < w.heap.size := (hown.lt g rfl).2
  have hcell : w.cell? ⟨g, vals.length, none⟩ = some (.iface T y) := by rw [hown.cellAt vals.length (by omega)]; simp
  have hcell2 : w.cell? ⟨g, vals.length + 1, none⟩ = some (.iface T' y') := by rw [hown.cellAt (vals.length + 1) (by omega)]; simp
  have hown1 : w.ownsRow base 40 1 (.slice (some ⟨g, 0, none⟩) (vals.length + 1) cap) (vals.length + 1) (vals ++ [.iface T y]) := ownsRow_pop (n := vals.length + 1) (last := [.iface T' y']) (by simp) (by rw [List.append_assoc]; exact hown)
  have Hpop := hide (ownsRow_pop (by omega) hown1)
  clear hown hown1
  have hnc' : (vals.length : Int) + 2 ≤ (cap : Int) := by omega
  go_enter Tryd.func45, Tryd.ntmps45
  go_wp2_with (first | (go_at_call 44; refine (oc _ 2 rfl _).mono ?_; rintro e w1 ⟨rfl, hw3⟩; subst hw3))
  go_quiet (fail)
  go_wp2_with (at_builtin; refine wpList_append_own _ rfl _ _ 102 rfl base 40 i0 .nilIface 1 16 Tryd.underlying102 hi hz0 hz1 hz2 rfl (by decide) _ _ _ rfl ((drew_own ((unhide Hpop).alloc _)).alloc _) ⟨w.heap.size + 1, 0, none⟩ 1 1 [.iface 71 (.agg #[.iface T y, .iface T' y'])] rfl rfl ?_ ?_ ?_ ?_ ?_ ?_)
  · refine cell_one ?_
    rw [World.cell?_alloc_at _ _ _ _ (by rw [sz_drewN, sz_alloc])]
    rfl
  · intro u hu; simp at hu; subst hu; rfl
  · unfold maxLen; omega
  · omega
  · simp only [sz_alloc, sz_drewN]; omega
  intro v' w' h1 hg _
  have hfin := hide (gpushed_mk (st := st ++ [l, r]) (x := ⟨2, [], 0, 0⟩) ((below_drewN ((below1 w _).mono hbase) nq).alloc (by simp only [sz_alloc, sz_drewN]; omega) _) (by simp only [sz_alloc, sz_drewN]; omega) ((drew_own ((unhide Hpop).alloc _)).alloc _) hg h1 (Or.inr (Or.inl ⟨Or.inl rfl, st, l, r, rfl, rfl⟩)) (hst.append ⟨hG.cat hl hr, trivial⟩))
  clear hg h1
  go_wp2
  go_ret
  exact unhide hfin

set_option maxHeartbeats 1000000 in
set_option maxRecDepth 100000 in
theorem gpush_alt {G : Value → List El × Int → Prop} (hG : Clos G) (base : Nat) (g cap : Nat) (vals : List Value) (T T' : TypeId) (y y' : Value) (st : List (List El × Int)) (l r : List El × Int) (w : World)
    (hown : w.ownsRow base 40 1 (.slice (some ⟨g, 0, none⟩) (vals.length + 2) cap) (vals.length + 2) (vals ++ [.iface T y, .iface T' y'])) (hst : GVals G st vals) (hl : G (.iface T y) l) (hr : G (.iface T' y') r) (hbase : base ≤ w.heap.size) (hlen : vals.length + 2 ≤ 3000) (hnc : vals.length + 2 ≤ cap) (a : Option Addr) (cp : Nat) :
    Calls Tryd.prog 45 #[.slice (some ⟨g, 0, none⟩) (vals.length + 2) cap, .agg #[.int .i64 3, .slice a 0 cp, .int .i64 0, .int .i64 0]] w fun e w' => PushedG G base w w' e (st ++ [l, r]) ⟨3, [], 0, 0⟩ := by
  obtain ⟨i0, hi, hz0, hz1, hz2⟩ := info_parts Tryd.info40
  have hgl : g < w.heap.size := (hown.lt g rfl).2
  have hcell : w.cell? ⟨g, vals.length, none⟩ = some (.iface T y) := by rw [hown.cellAt vals.length (by omega)]; simp
  have hcell2 : w.cell? ⟨g, vals.length + 1, none⟩ = some (.iface T' y') := by rw [hown.cellAt (vals.length + 1) (by omega)]; simp
  have hown1 : w.ownsRow base 40 1 (.slice (some ⟨g, 0, none⟩) (vals.length + 1) cap) (vals.length + 1) (vals ++ [.iface T y]) := ownsRow_pop (n := vals.length + 1) (last := [.iface T' y']) (by simp) (by rw [List.append_assoc]; exact hown)
  have Hpop := hide (ownsRow_pop (by omega) hown1)
  clear hown hown1
  have hnc' : (vals.length : Int) + 2 ≤ (cap : Int) := by omega
  go_enter Tryd.func45, Tryd.ntmps45
  go_wp2_with (first | (go_at_call 44; refine (oc _ 2 rfl _).mono ?_; rintro e w1 ⟨rfl, hw3⟩; subst hw3))
  go_quiet (fail)
  go_wp2_with (at_builtin; refine wpList_append_own _ rfl _ _ 102 rfl base 40 i0 .nilIface 1 16 Tryd.underlying102 hi hz0 hz1 hz2 rfl (by decide) _ _ _ rfl ((drew_own ((unhide Hpop).alloc _)).alloc _) ⟨w.heap.size + 1, 0, none⟩ 1 1 [.iface 106 (.agg #[.iface T y, .iface T' y'])] rfl rfl ?_ ?_ ?_ ?_ ?_ ?_)
  · refine cell_one ?_
    rw [World.cell?_alloc_at _ _ _ _ (by rw [sz_drewN, sz_alloc])]
    rfl
  · intro u hu; simp at hu; subst hu; rfl
  · unfold maxLen; omega
  · omega
  · simp only [sz_alloc, sz_drewN]; omega
  intro v' w' h1 hg _
  have hfin := hide (gpushed_mk (st := st ++ [l, r]) (x := ⟨3, [], 0, 0⟩) ((below_drewN ((below1 w _).mono hbase) nq).alloc (by simp only [sz_alloc, sz_drewN]; omega) _) (by simp only [sz_alloc, sz_drewN]; omega) ((drew_own ((unhide Hpop).alloc _)).alloc _) hg h1 (Or.inr (Or.inl ⟨Or.inr rfl, st, l, r, rfl, rfl⟩)) (hst.append ⟨hG.alt hl hr, trivial⟩))
  clear hg h1
  go_wp2
  go_ret
  exact unhide hfin

end Go.Proofs.YtfdkdjngeomcdaaDoor

namespace Go.Proofs.YtfdkdjngeomcdaaDoor
open Go.RowKit

/-- What nodeOf answers. -/
def NodeRet (e : Ending) (xs : List El) : Prop :=
  (∃ u, e = .returned (.tuple #[u, .bool true]) ∧ ValidT xs) ∨ (e = .returned (.tuple #[.nilIface, .bool false]) ∧ ¬ ValidT xs)

theorem NodeRet.no {xs : List El} (h : ¬ ValidT xs) : NodeRet (.returned (.tuple #[.nilIface, .bool false])) xs := Or.inr ⟨rfl, h⟩

theorem short_bad {xs : List El} {st : List (List El × Int)} {k : Nat} (hk : k < xs.length) (hst : flats st = xs.take k) (hw : ∀ s ∈ st, SegM s.1 s.2) (ok : ElOk (xs[k]?.getD dE)) (hlt : (st.length : Int) < cnt (xs[k]?.getD dE).kind) : ¬ ValidT xs := by
  intro hv
  have sh := hv.2.2.1
  have htk := take_next hk
  have h1 : wsum (xs.take (k + 1)) + wsum (xs.drop (k + 1)) = 1 := by rw [← wsum_append, List.take_append_drop]; exact sh.1
  have h2 := sh.2 (k + 1) (by omega) (by omega)
  have h3 := wsum_flats (fun s hs => (hw s hs).ws)
  rw [hst] at h3
  rw [htk, wsum_append, h3] at h1
  simp only [wsum] at h1
  generalize xs[k]?.getD dE = x at *
  rcases ok with ⟨q1, -⟩ | ⟨q1 | q1 | q1, -⟩ | ⟨q1, -⟩ <;> simp [cnt, wt, q1] at hlt h1 <;> omega

theorem own_slice {base n : Nat} {w : World} {v : Value} {vals : List Value} (hown : w.ownsRow base 40 1 v n vals) : ∃ ao c, v = .slice ao n c := by
  rcases hown.2 with ⟨rfl, hn⟩ | ⟨g, cap, cur, rfl, hbg, hg, hnc, hcm, hcs, htake⟩
  · exact ⟨none, 0, by rw [hn]⟩
  · exact ⟨_, _, rfl⟩

set_option maxHeartbeats 2000000 in
set_option maxRecDepth 100000 in
theorem nodeOf_any (v : Value) (xs : List El) (w : World) (hv : ElsAt 0 w.heap.size w v xs) :
    Calls Tryd.prog 24 #[v] w fun e w' => NodeRet e xs ∧ Below w.heap.size w w' := by
  obtain ⟨a, cp, rfl, hl, hc⟩ := hv
  unfold maxLen at hl
  by_cases n1 : xs.length < 1
  · have n1' : (xs.length : Int) < 1 := by omega
    go_enter Tryd.func24, Tryd.ntmps24
    go_wp2
    go_ret2
    exact ⟨NodeRet.no (fun h => by have := h.1; omega), Below.refl _ _⟩
  · have n1' : ¬ (xs.length : Int) < 1 := by omega
    by_cases n2 : 3000 < xs.length
    · have n2' : 3000 < (xs.length : Int) := by omega
      go_enter Tryd.func24, Tryd.ntmps24
      go_wp2
      go_ret2
      exact ⟨NodeRet.no (fun h => by have := h.1; omega), Below.refl _ _⟩
    · have n2' : ¬ 3000 < (xs.length : Int) := by omega
      go_enter Tryd.func24, Tryd.ntmps24
      go_wp2
      go_loopw [4, 17] (fun sv i wr => ∃ (k : Nat) (vals : List Value) (st : List (List El × Int)), k ≤ xs.length ∧ i = .int .i64 k ∧ wr.ownsRow w.heap.size 40 1 sv vals.length vals ∧ NVals st vals ∧ flats st = xs.take k ∧ (∀ s ∈ st, SegM s.1 s.2) ∧ (∀ j : Nat, j < k → ElOk (xs[j]?.getD dE)) ∧ Below w.heap.size w wr) (fun _ i _ => xs.length - (intOf i).toNat)
      case atStart => exact ⟨0, [], [], Nat.zero_le _, rfl, World.ownsRow_nil _ _ _ _, trivial, by simp [flats], by simp, fun j hj => absurd hj (Nat.not_lt_zero _), Below.refl _ _⟩
      case round =>
        obtain ⟨k, vals, st, hk, rfl, hown, hst, hfl, htr, hok, hb⟩ := hrel
        have hsl := hst.len
        have hvl : vals.length ≤ k := by
          have h1 := wsum_flats (fun s hs => (htr s hs).ws)
          have h2 := (wsum_bd (flats st)).2
          rw [h1, hfl, List.length_take] at h2
          omega
        obtain ⟨ao, sc, rfl⟩ := own_slice hown
        have Hown := hide hown
        have Hst := hide hst
        have Hfl := hide hfl
        have Htr := hide htr
        have Hok := hide hok
        clear hown hst hfl htr hok
        by_cases hlt : k < xs.length
        · obtain ⟨b, off, rfl, -, hbn, hel⟩ := hc (by omega)
          obtain ⟨i1, i2, i3, v, c0, c1, c2, c3, hints⟩ := (hel k hlt).same (Same.of_below hb (Nat.le_refl _)) (Nat.zero_le _) hbn
          have hlt' : (k : Int) < (xs.length : Int) := by omega
          generalize hX : xs[k]?.getD dE = x at *
          have HX := hide hX
          clear hX hel
          obtain ⟨a', cap', rfl, -, -, -⟩ := id hints
          go_wp2_with fail
          refine (validElement_any _ x _ (by exact (hints.mono (Nat.le_refl _) hb.size).below (below1 wr _) (Nat.le_refl _))).mono ?_
          rintro e w1 ⟨hret, hb1⟩
          obtain ⟨hc1, hf1⟩ := bcell hb1
          simp only [sz_alloc] at hc1 hf1
          have hB1 : Below wr.heap.size wr w1 := (below1 wr _).trans (hb1.mono (by rw [sz_alloc]; omega))
          have hBW : Below w.heap.size w w1 := hb.trans (hB1.mono hb.size)
          have hsz1 := hB1.size
          have hsz0 := hb.size
          clear hb1
          rcases hret.cases with ⟨rfl, hgood⟩ | ⟨rfl, hbad⟩
          · have Hgood := hide hgood
            clear hgood
            by_cases hcn : (vals.length : Int) < cnt x.kind
            · go_wp2_with (go_at_call 44; refine (operandCount_any _ _).mono ?_; rintro e w2 ⟨rfl, hw2⟩; subst hw2)
              go_ret2
              exact ⟨NodeRet.no (short_bad hlt (unhide Hfl) (unhide Htr) (by rw [unhide HX]; exact unhide Hgood) (by rw [unhide HX, hsl]; exact hcn)), hBW⟩
            · go_wp2_with (go_at_call 44; refine (operandCount_any _ _).mono ?_; rintro e w2 ⟨rfl, hw2⟩; subst hw2)
              refine (pushElement_any w.heap.size _ _ vals st x _ (own_below (unhide Hown) hB1 (Nat.le_refl _)) (unhide Hst) (by omega) (by omega) ((hints.mono (Nat.le_refl _) hb.size).below hB1 (Nat.le_refl _)) (unhide Hgood) (by omega)).mono ?_
              rintro e w3 ⟨v', vals', st', rfl, hown', hp, hn, hb3⟩
              have hnext := hide (show flats st' = xs.take (k + 1) ∧ (∀ s ∈ st', SegM s.1 s.2) ∧ NVals st' vals' from ⟨hp.flats.trans (by rw [unhide Hfl, take_next hlt, unhide HX]), hp.seg (unhide Hgood) (unhide Htr), hn⟩)
              have Hown' := hide hown'
              have hB3 := hBW.trans hb3
              clear hown' hp hn hb3 hc1 hf1
              go_wp2
              go_roundw
              case rel => exact ⟨k + 1, vals', st', by omega, by go_num, unhide Hown', (unhide hnext).2.2, (unhide hnext).1, (unhide hnext).2.1, fun j hj => by
                by_cases e : j = k
                · subst e; rw [unhide HX]; exact unhide Hgood
                · exact unhide Hok j (by omega), hB3⟩
              case measure => simp [intOf]; omega
          · have Hbad := hide hbad
            clear hbad
            go_wp2
            go_ret2
            exact ⟨NodeRet.no (fun h => by have := h.2.1 k hlt; rw [unhide HX] at this; exact unhide Hbad this), hBW⟩
        · obtain rfl : k = xs.length := by omega
          have hxs : flats st = xs := by have h := unhide Hfl; rwa [List.take_length] at h
          have Hxs := hide hxs
          clear hxs Hfl
          by_cases hone : vals.length = 1
          · obtain ⟨u, rfl⟩ := List.length_eq_one_iff.1 hone
            obtain ⟨t, rfl⟩ := List.length_eq_one_iff.1 (hsl.trans hone)
            obtain ⟨u', e1, hu⟩ := (unhide Hst).one
            simp only [List.cons.injEq, and_true] at e1
            subst e1
            have hT := unhide Htr t (by simp)
            have hft : xs = t.1 := by rw [← unhide Hxs, flats_one]
            rw [← hft] at hT
            have Hrun := hide (hT.run [])
            have Hsh := hide (show Shape xs from ⟨hT.ws, hT.tl⟩)
            clear hft hT
            have bt := hu.2
            obtain ⟨T, y, F, rfl, hm, hcf, hF⟩ := hu.1
            generalize t.2 = c at *
            have HF := hide hF
            clear hF hu
            obtain ⟨g, cap, e2, hnc, hcm⟩ := own_len (unhide Hown) (by simp)
            simp only [Value.slice.injEq] at e2
            obtain ⟨rfl, -, rfl⟩ := e2
            have hcell : wr.cell? ⟨g, 0, none⟩ = some (.iface T y) := by rw [(unhide Hown).cellAt 0 (by simp)]; rfl
            have hgl : g < wr.heap.size := ((unhide Hown).lt g rfl).2
            clear hone
            simp only [List.length_cons, List.length_nil, Nat.zero_add] at *
            go_wp2_with fail
            with_reducible refine (unhide HF _).mono ?_
            rintro e w1 ⟨rfl, hb1⟩
            obtain ⟨hc1, hf1⟩ := bcell hb1
            have hB1 := hb.trans (hb1.mono hb.size)
            clear hb1
            by_cases h5 : 500 < c
            · go_wp2
              go_ret2
              exact ⟨NodeRet.no (fun h => by obtain ⟨-, -, -, t2, e2, h2⟩ := h; rw [unhide Hrun] at e2; simp only [List.cons.injEq, and_true] at e2; omega), hB1⟩
            · go_wp2
              go_ret2
              exact ⟨Or.inl ⟨_, rfl, ⟨by omega, by omega⟩, unhide Hok, unhide Hsh, c, unhide Hrun, by omega⟩, hB1⟩
          · have hone' : ((vals.length : Int) != 1) = true := by simp; omega
            go_wp2
            go_ret2
            exact ⟨NodeRet.no (fun h => by have h1 := wsum_flats (fun s hs => (unhide Htr s hs).ws); rw [unhide Hxs, h.2.2.1.1] at h1; omega), hb⟩

end Go.Proofs.YtfdkdjngeomcdaaDoor

namespace Go.Proofs.YtfdkdjngeomcdaaDoor
open Go.RowKit

/-- The first j parts of a counted repetition. -/
def tk (X : List El) (m j : Nat) : List (List El) := List.replicate (min j m) X ++ List.replicate (j - m) (optE X)
theorem tk_lt {X : List El} {m j : Nat} (h : j < m) : tk X m (j + 1) = tk X m j ++ [X] := by
  unfold tk
  rw [show min (j + 1) m = j + 1 by omega, show j + 1 - m = 0 by omega, show min j m = j by omega, show j - m = 0 by omega, List.replicate_succ']
  simp
theorem tk_ge {X : List El} {m j : Nat} (h : m ≤ j) : tk X m (j + 1) = tk X m j ++ [optE X] := by
  unfold tk
  rw [show min (j + 1) m = m by omega, show j + 1 - m = (j - m) + 1 by omega, show min j m = m by omega, List.replicate_succ', List.append_assoc]
theorem tk_all {X : List El} {m M : Nat} (h : m ≤ M) : tk X m M = partsX X m M := by
  unfold tk partsX
  rw [if_neg (by omega), show min M m = m by omega, show ((m : Int)).toNat = m by omega, show ((M : Int) - (m : Int)).toNat = M - m by omega]
theorem tk_mem {X : List El} {m j : Nat} {p : List El} (h : p ∈ tk X m j) : p = X ∨ p = optE X := by
  unfold tk at h
  rcases List.mem_append.1 h with h | h
  · exact Or.inl (List.mem_replicate.1 h).2
  · exact Or.inr (List.mem_replicate.1 h).2
theorem tk_len (X : List El) (m j : Nat) : (tk X m j).length = j := by unfold tk; simp; omega
theorem optE_nice {X : List El} (h : Nice X) : Nice (optE X) := (h.app (Nice.op 0 0 0 (by simp [In64]) (by simp [In64]) (by simp [In64]))).app (Nice.op 3 0 0 (by simp [In64]) (by simp [In64]) (by simp [In64]))

end Go.Proofs.YtfdkdjngeomcdaaDoor

namespace Go.Proofs.YtfdkdjngeomcdaaDoor
open Go.RowKit

set_option maxHeartbeats 2000000 in
theorem l1treeOK_any (v : Value) (xs : List El) (w : World) (hv : ElsAt 0 w.heap.size w v xs) :
    Calls Tryd.prog 21 #[v] w fun e w' => RetB e (ValidT xs) ∧ Below w.heap.size w w' := by
  have hv0 := hv
  obtain ⟨a, cp, rfl, hl, hc⟩ := hv
  unfold maxLen at hl
  by_cases n1 : xs.length < 1
  · have n1' : (xs.length : Int) < 1 := by omega
    go_enter Tryd.func21, Tryd.ntmps21
    go_wp2
    go_ret
    exact ⟨RetB.no (fun h => by have := h.1; omega), Below.refl _ _⟩
  · have n1' : ¬ (xs.length : Int) < 1 := by omega
    by_cases n2 : 3000 < xs.length
    · have n2' : 3000 < (xs.length : Int) := by omega
      go_enter Tryd.func21, Tryd.ntmps21
      go_wp2
      go_ret
      exact ⟨RetB.no (fun h => by have := h.1; omega), Below.refl _ _⟩
    · have n2' : ¬ 3000 < (xs.length : Int) := by omega
      have Hv0 := hide hv0
      clear hv0
      go_enter Tryd.func21, Tryd.ntmps21
      go_wp2
      go_loopw [3] (fun i wr => ∃ k : Nat, k ≤ xs.length ∧ i = .int .i64 k ∧ (∀ j : Nat, j < k → ElOk (xs[j]?.getD dE)) ∧ Below w.heap.size w wr) (fun i _ => xs.length - (intOf i).toNat)
      case atStart => exact ⟨0, Nat.zero_le _, rfl, fun j hj => absurd hj (Nat.not_lt_zero _), Below.refl _ _⟩
      case round =>
        obtain ⟨k, hk, rfl, hok, hb⟩ := hrel
        have Hok := hide hok
        clear hok
        by_cases hlt : k < xs.length
        · obtain ⟨b, off, rfl, -, hbn, hel⟩ := hc (by omega)
          obtain ⟨i1, i2, i3, v, c0, c1, c2, c3, hints⟩ := (hel k hlt).same (Same.of_below hb (Nat.le_refl _)) (Nat.zero_le _) hbn
          have hlt' : (k : Int) < (xs.length : Int) := by omega
          generalize hX : xs[k]?.getD dE = x at *
          have HX := hide hX
          clear hX hel
          obtain ⟨a', cap', rfl, -, -, -⟩ := id hints
          go_wp2_with fail
          refine (l1opOK_any _ x _ (hints.mono (Nat.le_refl _) hb.size)).mono ?_
          rintro e w1 ⟨hret, hb1⟩
          have hB1 := hb.trans (hb1.mono hb.size)
          rcases hret.cases with ⟨rfl, hgood⟩ | ⟨rfl, hbad⟩
          · have Hgood := hide hgood
            clear hgood hb1
            go_wp2
            go_roundw
            case rel => exact ⟨k + 1, by omega, by go_num, fun j hj => by
              by_cases e : j = k
              · subst e; rw [unhide HX]; exact unhide Hgood
              · exact unhide Hok j (by omega), hB1⟩
            case measure => simp [intOf]; omega
          · have Hbad := hide hbad
            clear hbad hb1
            go_wp2
            go_ret
            exact ⟨RetB.no (fun h => by have := h.2.1 k hlt; rw [unhide HX] at this; exact unhide Hbad this), hB1⟩
        · obtain rfl : k = xs.length := by omega
          have hv1 := (unhide Hv0).below hb (Nat.le_refl _)
          go_wp2_with fail
          refine (l1shape_any _ xs _ hv1 (by omega)).mono ?_
          rintro e w1 ⟨hret, rfl⟩
          rcases hret.cases with ⟨rfl, hgood⟩ | ⟨rfl, hbad⟩
          · obtain ⟨c, hseg, hsz⟩ := exists_seg (unhide Hok) hgood
            have Hgood := hide hgood
            have Hrun := hide (hseg.run [])
            have hts := hseg.bd
            clear hgood hseg
            go_wp2_with fail
            refine (hsz _ _ hv1 (by omega)).mono ?_
            rintro e w2 ⟨rfl, hb2⟩
            have hB2 := hb.trans (hb2.mono hb.size)
            clear hb2 hv1 hsz
            go_wp2
            go_ret
            refine ⟨RetB.of ?_, hB2⟩
            rw [decide_eq_true_iff]
            exact ⟨fun h => ⟨⟨by omega, by omega⟩, unhide Hok, unhide Hgood, c, unhide Hrun, h⟩, fun ⟨_, _, _, u, hu, hus⟩ => by rw [unhide Hrun] at hu; simp only [List.cons.injEq, and_true] at hu; omega⟩
          · have Hbad := hide hbad
            clear hbad hv1
            go_wp2
            go_ret
            exact ⟨RetB.no (fun h => unhide Hbad h.2.2.1), hb⟩

set_option maxHeartbeats 400000 in
theorem specValid_any (l r : Bool) (v : Value) (xs : List El) (w : World) (hv : ElsAt 0 w.heap.size w v xs) :
    Calls Tryd.prog 12 #[.agg #[.bool l, .bool r, v]] w fun e w' => RetB e (ValidT xs) ∧ Below w.heap.size w w' := by
  obtain ⟨a, cp, rfl, -, -⟩ := id hv
  have Hv := hide hv
  clear hv
  go_enter Tryd.func12, Tryd.ntmps12
  go_wp2_with fail
  refine (l1treeOK_any _ xs _ (by exact (unhide Hv).below (below1 w _) (Nat.le_refl _))).mono ?_
  rintro e w1 ⟨hret, hb1⟩
  have hB1 : Below w.heap.size w w1 := (below1 w _).trans (hb1.mono (by rw [sz_alloc]; omega))
  rcases hret.cases with ⟨rfl, hgood⟩ | ⟨rfl, hbad⟩
  · have Hgood := hide hgood
    clear hgood hb1
    go_wp2
    go_ret
    exact ⟨RetB.yes (unhide Hgood), hB1⟩
  · have Hbad := hide hbad
    clear hbad hb1
    go_wp2
    go_ret
    exact ⟨RetB.no (unhide Hbad), hB1⟩

end Go.Proofs.YtfdkdjngeomcdaaDoor

namespace Go.Proofs.YtfdkdjngeomcdaaDoor
open Go.RowKit

def cmp4 (g : Nat → Nat) (j : Nat) : Nat := if j < 4 then 18446744073709551615 - g j else 0
theorem cmp4_fit (g : Nat → Nat) : Fit (cmp4 g) := fun j => by unfold cmp4; split <;> omega
theorem cmp4_bt {g : Nat → Nat} (hg : Fit g) (b : Nat) : Bt (cmp4 g) b = (decide (b < 256) && !Bt g b) := by
  unfold Bt cmp4
  by_cases hb : b < 256
  · rw [if_pos (by omega)]
    have := Nat.testBit_two_pow_sub_succ (show g (b / 64) < 2 ^ 64 from hg (b / 64)) (b % 64)
    rw [show (2 : Nat) ^ 64 - (g (b / 64) + 1) = 18446744073709551615 - g (b / 64) by omega] at this
    rw [this]
    simp [hb, show b % 64 < 64 by omega]
  · rw [if_neg (by omega)]
    simp [hb]

theorem xor_all {a : Nat} (h : a < 18446744073709551616) : 18446744073709551615 ^^^ a = 18446744073709551615 - a := by
  apply Nat.eq_of_testBit_eq
  intro i
  have h1 := Nat.testBit_two_pow_sub_one 64 i
  have h2 := Nat.testBit_two_pow_sub_succ (show a < 2 ^ 64 from h) i
  rw [show (2 : Nat) ^ 64 - 1 = 18446744073709551615 by decide] at h1
  rw [show (2 : Nat) ^ 64 - (a + 1) = 18446744073709551615 - a by omega] at h2
  rw [Nat.testBit_xor, h1, h2]
  by_cases hi : i < 64
  · simp [hi]
  · have : a.testBit i = false := Nat.testBit_lt_two_pow (Nat.lt_of_lt_of_le h (by
      have : (2 : Nat) ^ 64 ≤ 2 ^ i := Nat.pow_le_pow_right (by decide) (by omega)
      exact this))
    simp [hi, this]
theorem xor_u64 {a : Nat} (h : a < 18446744073709551616) : bits BinOp.xor IntKind.u64 (if IntKind.u64.signed = true then -1 else IntKind.u64.max) (a : Int) = ((18446744073709551615 - a : Nat) : Int) := by
  rw [← xor_all h]
  exact bits_xor_u64_nat 18446744073709551615 a (by decide) h

set_option maxHeartbeats 2000000 in
set_option maxRecDepth 100000 in
theorem complement_w (g : Nat → Nat) (w : World) (hg : Fit g) : Calls Tryd.prog 47 #[ws4 g] w fun e w' => e = .returned (ws4 (cmp4 g)) ∧ Below w.heap.size w w' := by
  unfold ws4
  have Hg := hide hg
  clear hg
  go_enter Tryd.func47, Tryd.ntmps47
  go_wp2
  go_loopw [4] (fun iv wr => ∃ i : Nat, i ≤ 4 ∧ iv = .int .i64 i ∧ wr.rowIs w.heap.size 64 4 (fun j => .int .u64 ((if j < i then cmp4 g j else g j : Nat) : Int)) ∧ (∃ g : Nat → Value, wr.rowIs (w.heap.size + 1) 64 4 g) ∧ Below w.heap.size w wr) (fun iv _ => 4 - (intOf iv).toNat)
  case atStart =>
    refine ⟨0, by omega, rfl, ((four_row w _ g).alloc _).congr (fun j hj => by simp), ⟨fun j => .int .u64 ((fun _ => 0 : Nat → Nat) j : Nat), ?_⟩, below2 w _ _⟩
    have h := zero_row (w.alloc (.cells #[.int .u64 (g 0 : Nat), .int .u64 (g 1 : Nat), .int .u64 (g 2 : Nat), .int .u64 (g 3 : Nat)] 64)) 64
    rw [sz_alloc] at h; exact h
  case round =>
    obtain ⟨i, hi, rfl, hrow, ⟨g2, hrow2⟩, hb⟩ := hrel
    by_cases hlt : i < 4
    · have hlt' : (i : Int) < 4 := by omega
      have c0 := hrow.cell hlt
      rw [if_neg (Nat.lt_irrefl _)] at c0
      have f0 := hrow.frozen i
      have hgi := unhide Hg i
      have Hrow := hide hrow
      have Hrow2 := hide hrow2
      clear hrow hrow2
      have hx := xor_u64 hgi
      have HX := hide hx
      clear hx
      go_wp2
      rw [unhide HX]
      refine ⟨⟨i + 1, by omega, by go_num, ?_, ⟨g2, ?_⟩, ?_⟩, by simp [intOf]; omega⟩
      · refine ((unhide Hrow).set i _).congr (fun j hj => ?_)
        by_cases e : j = i
        · subst e; simp [cmp4, hlt]
        · have e2 : (j < i + 1) ↔ j < i := by omega
          simp [e, e2]
      · exact (unhide Hrow2).setOther (by show w.heap.size + 1 ≠ w.heap.size; omega) _
      · exact bput hb (Nat.le_refl _) _
    · obtain rfl : i = 4 := by omega
      have c0 := hrow.cell (i := 0) (by omega)
      have c1 := hrow.cell (i := 1) (by omega)
      have c2 := hrow.cell (i := 2) (by omega)
      have c3 := hrow.cell (i := 3) (by omega)
      rw [if_pos (by omega)] at c0 c1 c2 c3
      have d0 := hrow2.cell (i := 0) (by omega)
      have d1 := hrow2.cell (i := 1) (by omega)
      have d2 := hrow2.cell (i := 2) (by omega)
      have d3 := hrow2.cell (i := 3) (by omega)
      have f0 := hrow2.frozen 0
      have f1 := hrow2.frozen 1
      have f2 := hrow2.frozen 2
      have f3 := hrow2.frozen 3
      clear hrow hrow2
      go_wp2
      refine bodyPost_ret (v := .agg #[.int .u64 (cmp4 g 0 : Nat), .int .u64 (cmp4 g 1 : Nat), .int .u64 (cmp4 g 2 : Nat), .int .u64 (cmp4 g 3 : Nat)]) (by simp [results, Tryd.results47, go_sem, d0, d1, d2, d3]) rfl ⟨rfl, ?_⟩
      exact bput (bput (bput (bput hb (by omega) _) (by omega) _) (by omega) _) (by omega) _

theorem zero_fit : Fit (fun _ => 0) := fun _ => by show 0 < 18446744073709551616; omega
theorem zero_bt (b : Nat) : Bt (fun _ => 0) b = false := by simp [Bt]
theorem canon_all : Canon [0, 255] := ⟨rfl, fun i hi => by
    match i, hi with
    | 0, _ => simp
    | 1, _ => simp, fun m hm => by
    obtain rfl : m = 0 := by simp at hm; omega
    simp [PairOk]⟩
theorem canon_dot : Canon [0, 9, 11, 255] := ⟨rfl, fun i hi => by
    match i, hi with
    | 0, _ => simp
    | 1, _ => simp
    | 2, _ => simp
    | 3, _ => simp, fun m hm => by
    have : m = 0 ∨ m = 1 := by simp at hm; omega
    rcases this with rfl | rfl <;> simp [PairOk]⟩

theorem words_all : WordsOf [0, 255] (cmp4 (fun _ => 0)) := ⟨cmp4_fit _, fun b => by
  rw [cmp4_bt zero_fit, zero_bt]
  show (decide (b < 256) && !false) = (false || decide ((0 : Int) ≤ (b : Int) ∧ (b : Int) ≤ 255))
  simp
  omega⟩
theorem words_dot {g : Nat → Nat} (hf : Fit g) (h : ∀ b : Nat, Bt g b = (false || decide ((10 : Int) ≤ (b : Int) ∧ (b : Int) ≤ 10))) : WordsOf [0, 9, 11, 255] (cmp4 g) := ⟨cmp4_fit _, fun b => by
  rw [cmp4_bt hf, h]
  show (decide (b < 256) && !(false || decide ((10 : Int) ≤ (b : Int) ∧ (b : Int) ≤ 10))) = ((false || decide ((0 : Int) ≤ (b : Int) ∧ (b : Int) ≤ 9)) || decide ((11 : Int) ≤ (b : Int) ∧ (b : Int) ≤ 255))
  rw [Bool.eq_iff_iff]
  simp
  omega⟩

theorem box4 {w w1 : World} {t : TypeId} (hb : Below (w.heap.size + 1) (w.alloc (.cells #[.int .u64 0, .int .u64 0, .int .u64 0, .int .u64 0] t)) w1) : w1.rowIs w.heap.size t 4 (fun j => .int .u64 ((fun _ => 0 : Nat → Nat) j : Nat)) :=
  World.rowIs.of_block (zero_row w t) (hb.block _ (Nat.lt_succ_self _))

set_option maxHeartbeats 2000000 in
set_option maxRecDepth 100000 in
theorem allBytes_w (w : World) : Calls Tryd.prog 26 #[] w fun e w' => (∃ g, e = .returned (ws4 g) ∧ WordsOf [0, 255] g) ∧ Below w.heap.size w w' := by
  have hB0 := below1 w (.cells #[.int .u64 0, .int .u64 0, .int .u64 0, .int .u64 0] 64)
  go_enter Tryd.func26, Tryd.ntmps26
  go_wp2_with fail
  refine (complement_w (fun _ => 0) _ zero_fit).mono ?_
  rintro e w1 ⟨rfl, hb1⟩
  have hrow := box4 (hb1.mono (by rw [sz_alloc]; omega))
  have hB1 : Below w.heap.size w w1 := hB0.trans (hb1.mono (by rw [sz_alloc]; omega))
  have d0 := hrow.cell (i := 0) (by omega)
  have d1 := hrow.cell (i := 1) (by omega)
  have d2 := hrow.cell (i := 2) (by omega)
  have d3 := hrow.cell (i := 3) (by omega)
  have f0 := hrow.frozen 0
  have f1 := hrow.frozen 1
  have f2 := hrow.frozen 2
  have f3 := hrow.frozen 3
  have HW := hide words_all
  clear hrow hb1
  generalize cmp4 (fun _ => 0) = q at *
  unfold ws4
  go_wp2
  refine bodyPost_ret (v := .agg #[.int .u64 (q 0 : Nat), .int .u64 (q 1 : Nat), .int .u64 (q 2 : Nat), .int .u64 (q 3 : Nat)]) (by simp [results, Tryd.results26, go_sem, d0, d1, d2, d3]) rfl ⟨⟨q, rfl, unhide HW⟩, ?_⟩
  exact bput (bput (bput (bput hB1 (by omega) _) (by omega) _) (by omega) _) (by omega) _

end Go.Proofs.YtfdkdjngeomcdaaDoor
