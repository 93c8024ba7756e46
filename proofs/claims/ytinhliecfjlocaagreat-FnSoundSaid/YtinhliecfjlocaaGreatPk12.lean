import Derived.Test.YtinhliecfjlocaaGreatY4
import Derived.Test.YtinhliecfjlocaaGreatPk6
import Derived.Test.YtinhliecfjlocaaGreatPk11
namespace Go.Proofs.YtinhliecfjlocaaGreat
open Go.RowKit
structure Clos (G : Value → List El × Int → Prop) : Prop where
  sz : ∀ {u : Value} {t : List El × Int}, G u t → SzV u t.2
  e : G eV ([⟨0, [], 0, 0⟩], 1)
  s : ∀ {xs : List Int} {g : Nat → Nat}, Canon xs → WordsOf xs g → G (sV g) ([⟨1, xs, 0, 0⟩], 1)
  cat : ∀ {u v : Value} {l r : List El × Int}, G u l → G v r → G (cV u v) (l.1 ++ r.1 ++ [⟨2, [], 0, 0⟩], cap (l.2 + r.2))
  alt : ∀ {u v : Value} {l r : List El × Int}, G u l → G v r → G (aV u v) (l.1 ++ r.1 ++ [⟨3, [], 0, 0⟩], cap (l.2 + r.2))
  rep : ∀ {u : Value} {o : List El × Int} {mn mx : Int}, G u o → 0 ≤ mn → mn ≤ 250 → (mx = -1 ∨ (mn ≤ mx ∧ mx ≤ 250)) → G (rV u mn mx) (o.1 ++ [⟨4, [], mn, mx⟩], cap (repSize o.2 mn mx))
def GVals (G : Value → List El × Int → Prop) : List (List El × Int) → List Value → Prop
  | [], [] => True
  | t :: ts, u :: us => G u t ∧ GVals G ts us
  | _, _ => False
theorem GVals.len {G : Value → List El × Int → Prop} : ∀ {ts : List (List El × Int)} {us : List Value}, GVals G ts us → ts.length = us.length
  | [], [], _ => rfl
  | _ :: _, _ :: _, h => by simp [GVals.len h.2]
  | [], _ :: _, h => h.elim
  | _ :: _, [], h => h.elim
theorem GVals.append {G : Value → List El × Int → Prop} : ∀ {a b : List (List El × Int)} {us vs : List Value}, GVals G a us → GVals G b vs → GVals G (a ++ b) (us ++ vs)
  | [], _, [], _, _, k => k
  | _ :: _, _, _ :: _, _, h, k => ⟨h.1, GVals.append h.2 k⟩
  | [], _, _ :: _, _, h, _ => h.elim
  | _ :: _, _, [], _, h, _ => h.elim
theorem GVals.split {G : Value → List El × Int → Prop} : ∀ {a b : List (List El × Int)} {us : List Value}, GVals G (a ++ b) us → ∃ u v, us = u ++ v ∧ GVals G a u ∧ GVals G b v
  | [], _, us, h => ⟨[], us, rfl, trivial, h⟩
  | _ :: _, _, y :: _, h => by
    obtain ⟨u, v, rfl, hu, hv⟩ := GVals.split h.2
    exact ⟨y :: u, v, rfl, ⟨h.1, hu⟩, hv⟩
  | _ :: _, _, [], h => h.elim
theorem GVals.one {G : Value → List El × Int → Prop} {t : List El × Int} {us : List Value} (h : GVals G [t] us) : ∃ u, us = [u] ∧ G u t := by
  match us, h with
  | [u], h => exact ⟨u, rfl, h.1⟩
theorem GVals.two {G : Value → List El × Int → Prop} {s t : List El × Int} {us : List Value} (h : GVals G [s, t] us) : ∃ u v, us = [u, v] ∧ G u s ∧ G v t := by
  match us, h with
  | [u, v], h => exact ⟨u, v, rfl, h.1, h.2.1⟩
def PushedG (G : Value → List El × Int → Prop) (base : Nat) (w w' : World) (e : Ending) (st : List (List El × Int)) (x : El) : Prop :=
  ∃ v' vals' st', e = .returned v' ∧ w'.ownsRow base 82 1 v' vals'.length vals' ∧ PushR st x st' ∧ GVals G st' vals' ∧ Below base w w'
theorem gpushed_mk {G : Value → List El × Int → Prop} {base : Nat} {w W w' : World} {v' v0 : Value} {n : Nat} {xs : List Value} {u : Value} {st st' : List (List El × Int)} {x : El} (hW : Below base w W) (hB : base ≤ W.heap.size) (h0 : W.ownsRow base 82 1 v0 n xs)
    (hg : W.grownBy w' v0.ownBlock) (h1 : w'.ownsRow base 82 1 v' (n + 1) (xs ++ [u])) (hp : PushR st x st') (hn : GVals G st' (xs ++ [u])) : PushedG G base w w' (.returned v') st x := by
  have hl := h1.1
  rw [Nat.mul_one] at hl
  refine ⟨v', xs ++ [u], st', rfl, by rw [hl]; exact h1, hp, hn, hW.grown hg hB (fun k hk => ?_)⟩
  exact (h0.lt k hk).1
set_option maxHeartbeats 1000000 in
set_option maxRecDepth 100000 in
theorem gpush_e_nil {G : Value → List El × Int → Prop} (hG : Clos G) (base : Nat) (w : World) (hown : w.ownsRow base 82 1 (.slice none 0 0) 0 []) (hbase : base ≤ w.heap.size) (a : Option Addr) (cp : Nat) :
    Calls Tryz.prog 77 #[.slice none 0 0, .agg #[.int .i64 0, .slice a 0 cp, .int .i64 0, .int .i64 0]] w fun e w' => PushedG G base w w' e [] ⟨0, [], 0, 0⟩ := by
  obtain ⟨i0, hi, hz0, hz1, hz2⟩ := info_parts Tryz.info82
  have Hown := hide hown
  clear hown
  go_enter Tryz.func77, Tryz.ntmps77
  go_wp2_with (first | (go_at_call 76; refine (oc _ 0 rfl _).mono ?_; rintro e w1 ⟨rfl, hw3⟩; subst hw3) | (at_builtin; refine wpList_append_own _ rfl _ _ 120 rfl base 82 i0 .nilIface 1 16 Tryz.underlying120 hi hz0 hz1 hz2 rfl (by decide) _ _ _ rfl (((unhide Hown).alloc _).alloc _) ⟨w.heap.size + 1, 0, none⟩ 1 1 [.iface 124 (.agg #[])] rfl rfl ?c1 ?c2 ?c3 ?c4 ?c5 ?_))
  case c1 => exact cell_one (by simp)
  case c2 => intro u hu; simp at hu; subst hu; rfl
  case c3 => unfold maxLen; simp
  case c4 => simp
  case c5 => simp only [sz_alloc]; omega
  intro v' w' h1 hg _
  have hfin := hide (gpushed_mk ((below2 w _ _).mono hbase) (by simp only [sz_alloc]; omega) (((unhide Hown).alloc _).alloc _) hg h1 (st := []) (x := ⟨0, [], 0, 0⟩) (Or.inl ⟨Or.inl rfl, rfl⟩) ⟨hG.e, trivial⟩)
  clear hg h1
  go_wp2
  go_ret
  exact unhide hfin
set_option maxHeartbeats 1000000 in
set_option maxRecDepth 100000 in
theorem gpush_e {G : Value → List El × Int → Prop} (hG : Clos G) (base : Nat) (g cap : Nat) (vals : List Value) (st : List (List El × Int)) (w : World) (hown : w.ownsRow base 82 1 (.slice (some ⟨g, 0, none⟩) vals.length cap) vals.length vals) (hst : GVals G st vals) (hbase : base ≤ w.heap.size) (hlen : vals.length ≤ 3000) (hnc : vals.length ≤ cap) (a : Option Addr) (cp : Nat) :
    Calls Tryz.prog 77 #[.slice (some ⟨g, 0, none⟩) vals.length cap, .agg #[.int .i64 0, .slice a 0 cp, .int .i64 0, .int .i64 0]] w fun e w' => PushedG G base w w' e st ⟨0, [], 0, 0⟩ := by
  obtain ⟨i0, hi, hz0, hz1, hz2⟩ := info_parts Tryz.info82
  have Hown := hide hown
  clear hown
  have hnc' : (vals.length : Int) ≤ (cap : Int) := by omega
  go_enter Tryz.func77, Tryz.ntmps77
  go_wp2_with (first | (go_at_call 76; refine (oc _ 0 rfl _).mono ?_; rintro e w1 ⟨rfl, hw3⟩; subst hw3) | (at_builtin; refine wpList_append_own _ rfl _ _ 120 rfl base 82 i0 .nilIface 1 16 Tryz.underlying120 hi hz0 hz1 hz2 rfl (by decide) _ _ _ rfl (((unhide Hown).alloc _).alloc _) ⟨w.heap.size + 1, 0, none⟩ 1 1 [.iface 124 (.agg #[])] rfl rfl ?_ ?_ ?_ ?_ ?_ ?_))
  · exact cell_one (by simp)
  · intro u hu; simp at hu; subst hu; rfl
  · unfold maxLen; omega
  · omega
  · simp only [sz_alloc]; omega
  all_goals
    intro v' w' h1 hg _
    have hfin := hide (gpushed_mk (v0 := .slice (some ⟨g, 0, none⟩) vals.length cap) (x := ⟨0, [], 0, 0⟩) ((below2 w _ _).mono hbase) (by simp only [sz_alloc]; omega) (((unhide Hown).alloc _).alloc _) hg h1 (Or.inl ⟨Or.inl rfl, rfl⟩) (hst.append ⟨hG.e, trivial⟩))
    clear hg h1
    go_wp2
    go_ret
    exact unhide hfin
set_option maxHeartbeats 1000000 in
set_option maxRecDepth 100000 in
theorem gpush_s_nil {G : Value → List El × Int → Prop} (hG : Clos G) (base : Nat) (sv : Value) (xs : List Int) (w : World) (hown : w.ownsRow base 82 1 (.slice none 0 0) 0 []) (hbase : base ≤ w.heap.size) (hv : IntsAt 0 w.heap.size w sv xs) (hcn : Canon xs) :
    Calls Tryz.prog 77 #[.slice none 0 0, .agg #[.int .i64 1, sv, .int .i64 0, .int .i64 0]] w fun e w' => PushedG G base w w' e [] ⟨1, xs, 0, 0⟩ := by
  obtain ⟨i0, hi, hz0, hz1, hz2⟩ := info_parts Tryz.info82
  obtain ⟨a, cp, rfl, -, -, -⟩ := id hv
  have Hown := hide hown
  have Hv := hide hv
  clear hown hv
  go_enter Tryz.func77, Tryz.ntmps77
  go_wp2_with (first | (go_at_call 76; refine (oc _ 0 rfl _).mono ?_; rintro e w1 ⟨rfl, hw3⟩; subst hw3))
  refine (setOf_w _ xs _ (by exact (unhide Hv).below (below1 w _) (Nat.le_refl _)) hcn).mono ?_
  rintro e w1 ⟨q, rfl, hwo, hb1⟩
  unfold ws4
  have HWO := hide hwo
  clear hwo
  have hB : Below w.heap.size w w1 := (below1 w _).trans (hb1.mono (by rw [sz_alloc]; omega))
  have Hown1 := hide (own_below (unhide Hown) hB (Nat.le_refl _))
  have hsz := hB.size
  clear hb1
  go_wp2_with (at_builtin; refine wpList_append_own _ rfl _ _ 120 rfl base 82 i0 .nilIface 1 16 Tryz.underlying120 hi hz0 hz1 hz2 rfl (by decide) _ _ _ rfl ((unhide Hown1).alloc _) ⟨w1.heap.size, 0, none⟩ 1 1 [.iface 128 (.agg #[.int .u64 (q 0 : Nat), .int .u64 (q 1 : Nat), .int .u64 (q 2 : Nat), .int .u64 (q 3 : Nat)])] rfl rfl ?_ ?_ ?_ ?_ ?_ ?_)
  · exact cell_one (by simp)
  · intro u hu; simp at hu; subst hu; rfl
  · unfold maxLen; simp
  · simp
  · simp only [sz_alloc]; omega
  all_goals
    intro v' w' h1 hg _
    have hfin := hide (gpushed_mk (v0 := .slice none 0 0) (st := []) (x := ⟨1, xs, 0, 0⟩) (((hB.mono hbase)).alloc (by omega) _) (by simp only [sz_alloc]; omega) ((unhide Hown1).alloc _) hg h1 (Or.inl ⟨Or.inr rfl, rfl⟩) ⟨hG.s hcn (unhide HWO), trivial⟩)
    clear hg h1
    go_wp2
    go_ret
    exact unhide hfin
set_option maxHeartbeats 1000000 in
set_option maxRecDepth 100000 in
theorem gpush_s {G : Value → List El × Int → Prop} (hG : Clos G) (base : Nat) (g cap : Nat) (vals : List Value) (st : List (List El × Int)) (sv : Value) (xs : List Int) (w : World) (hown : w.ownsRow base 82 1 (.slice (some ⟨g, 0, none⟩) vals.length cap) vals.length vals) (hst : GVals G st vals) (hbase : base ≤ w.heap.size) (hlen : vals.length ≤ 3000) (hnc : vals.length ≤ cap) (hcm : cap ≤ maxLen) (hv : IntsAt 0 w.heap.size w sv xs) (hcn : Canon xs) :
    Calls Tryz.prog 77 #[.slice (some ⟨g, 0, none⟩) vals.length cap, .agg #[.int .i64 1, sv, .int .i64 0, .int .i64 0]] w fun e w' => PushedG G base w w' e st ⟨1, xs, 0, 0⟩ := by
  obtain ⟨i0, hi, hz0, hz1, hz2⟩ := info_parts Tryz.info82
  obtain ⟨a, cp, rfl, -, -, -⟩ := id hv
  have Hown := hide hown
  have Hv := hide hv
  clear hown hv
  unfold maxLen at hcm
  rcases Nat.lt_or_eq_of_le hnc with hlt | rfl
  all_goals
    go_enter Tryz.func77, Tryz.ntmps77
    go_wp2_with (first | (go_at_call 76; refine (oc _ 0 rfl _).mono ?_; rintro e w1 ⟨rfl, hw3⟩; subst hw3))
    refine (setOf_w _ xs _ (by exact (unhide Hv).below (below1 w _) (Nat.le_refl _)) hcn).mono ?_
    rintro e w1 ⟨q, rfl, hwo, hb1⟩
    unfold ws4
    have HWO := hide hwo
    clear hwo
    have hB : Below w.heap.size w w1 := (below1 w _).trans (hb1.mono (by rw [sz_alloc]; omega))
    have Hown1 := hide (own_below (unhide Hown) hB (Nat.le_refl _))
    have hsz := hB.size
    clear hb1
    go_wp2_with (at_builtin; refine wpList_append_own _ rfl _ _ 120 rfl base 82 i0 .nilIface 1 16 Tryz.underlying120 hi hz0 hz1 hz2 rfl (by decide) _ _ _ rfl ((unhide Hown1).alloc _) ⟨w1.heap.size, 0, none⟩ 1 1 [.iface 128 (.agg #[.int .u64 (q 0 : Nat), .int .u64 (q 1 : Nat), .int .u64 (q 2 : Nat), .int .u64 (q 3 : Nat)])] rfl rfl ?_ ?_ ?_ ?_ ?_ ?_)
    · exact cell_one (by simp)
    · intro u hu; simp at hu; subst hu; rfl
    · unfold maxLen; omega
    · omega
    · simp only [sz_alloc]; omega
    intro v' w' h1 hg _
    have hfin := hide (gpushed_mk (v0 := _) (x := ⟨1, xs, 0, 0⟩) (((hB.mono hbase)).alloc (by omega) _) (by simp only [sz_alloc]; omega) ((unhide Hown1).alloc _) hg h1 (Or.inl ⟨Or.inr rfl, rfl⟩) (hst.append ⟨hG.s hcn (unhide HWO), trivial⟩))
    clear hg h1
    go_wp2
    go_ret
    exact unhide hfin
set_option maxHeartbeats 1000000 in
set_option maxRecDepth 100000 in
theorem gpush_rep {G : Value → List El × Int → Prop} (hG : Clos G) (base : Nat) (g cap : Nat) (vals : List Value) (T : TypeId) (y : Value) (st : List (List El × Int)) (o : List El × Int) (mn mx : Int) (w : World)
    (hown : w.ownsRow base 82 1 (.slice (some ⟨g, 0, none⟩) (vals.length + 1) cap) (vals.length + 1) (vals ++ [.iface T y])) (hst : GVals G st vals) (ho : G (.iface T y) o) (o2 : 0 ≤ mn) (o3 : mn ≤ 250) (o4 : mx = -1 ∨ (mn ≤ mx ∧ mx ≤ 250)) (hbase : base ≤ w.heap.size) (hlen : vals.length + 1 ≤ 3000) (hnc : vals.length + 1 ≤ cap) (a : Option Addr) (cp : Nat) :
    Calls Tryz.prog 77 #[.slice (some ⟨g, 0, none⟩) (vals.length + 1) cap, .agg #[.int .i64 4, .slice a 0 cp, .int .i64 mn, .int .i64 mx]] w fun e w' => PushedG G base w w' e (st ++ [o]) ⟨4, [], mn, mx⟩ := by
  obtain ⟨i0, hi, hz0, hz1, hz2⟩ := info_parts Tryz.info82
  have hgl : g < w.heap.size := (hown.lt g rfl).2
  have hcell : w.cell? ⟨g, vals.length, none⟩ = some (.iface T y) := by rw [hown.cellAt vals.length (by omega)]; simp
  have Hpop := hide (ownsRow_pop (by omega) hown)
  clear hown
  have hnc' : (vals.length : Int) + 1 ≤ (cap : Int) := by omega
  go_enter Tryz.func77, Tryz.ntmps77
  go_wp2_with (first | (go_at_call 76; refine (oc _ 1 rfl _).mono ?_; rintro e w1 ⟨rfl, hw3⟩; subst hw3))
  go_quiet (fail)
  go_wp2_with (at_builtin; refine wpList_append_own _ rfl _ _ 120 rfl base 82 i0 .nilIface 1 16 Tryz.underlying120 hi hz0 hz1 hz2 rfl (by decide) _ _ _ rfl ((drew_own ((unhide Hpop).alloc _)).alloc _) ⟨w.heap.size + 1, 0, none⟩ 1 1 [.iface 136 (.agg #[.iface T y, .int .i64 mn, .int .i64 mx])] rfl rfl ?_ ?_ ?_ ?_ ?_ ?_)
  · refine cell_one ?_
    rw [World.cell?_alloc_at _ _ _ _ (by rw [sz_drewN, sz_alloc])]
    rfl
  · intro u hu; simp at hu; subst hu; rfl
  · unfold maxLen; omega
  · omega
  · simp only [sz_alloc, sz_drewN]; omega
  intro v' w' h1 hg _
  have hfin := hide (gpushed_mk (st := st ++ [o]) (x := ⟨4, [], mn, mx⟩) ((below_drewN ((below1 w _).mono hbase) nq).alloc (by simp only [sz_alloc, sz_drewN]; omega) _) (by simp only [sz_alloc, sz_drewN]; omega) ((drew_own ((unhide Hpop).alloc _)).alloc _) hg h1 (Or.inr (Or.inr ⟨rfl, st, o, rfl, rfl⟩)) (hst.append ⟨hG.rep ho o2 o3 o4, trivial⟩))
  clear hg h1
  go_wp2
  go_ret
  exact unhide hfin
set_option maxHeartbeats 1000000 in
set_option maxRecDepth 100000 in
theorem gpush_cat {G : Value → List El × Int → Prop} (hG : Clos G) (base : Nat) (g cap : Nat) (vals : List Value) (T T' : TypeId) (y y' : Value) (st : List (List El × Int)) (l r : List El × Int) (w : World)
    (hown : w.ownsRow base 82 1 (.slice (some ⟨g, 0, none⟩) (vals.length + 2) cap) (vals.length + 2) (vals ++ [.iface T y, .iface T' y'])) (hst : GVals G st vals) (hl : G (.iface T y) l) (hr : G (.iface T' y') r) (hbase : base ≤ w.heap.size) (hlen : vals.length + 2 ≤ 3000) (hnc : vals.length + 2 ≤ cap) (a : Option Addr) (cp : Nat) :
    Calls Tryz.prog 77 #[.slice (some ⟨g, 0, none⟩) (vals.length + 2) cap, .agg #[.int .i64 2, .slice a 0 cp, .int .i64 0, .int .i64 0]] w fun e w' => PushedG G base w w' e (st ++ [l, r]) ⟨2, [], 0, 0⟩ := by
  obtain ⟨i0, hi, hz0, hz1, hz2⟩ := info_parts Tryz.info82
  have hgl : g < w.heap.size := (hown.lt g rfl).2
  have hcell : w.cell? ⟨g, vals.length, none⟩ = some (.iface T y) := by rw [hown.cellAt vals.length (by omega)]; simp
  have hcell2 : w.cell? ⟨g, vals.length + 1, none⟩ = some (.iface T' y') := by rw [hown.cellAt (vals.length + 1) (by omega)]; simp
  have hown1 : w.ownsRow base 82 1 (.slice (some ⟨g, 0, none⟩) (vals.length + 1) cap) (vals.length + 1) (vals ++ [.iface T y]) := ownsRow_pop (n := vals.length + 1) (last := [.iface T' y']) (by simp) (by rw [List.append_assoc]; exact hown)
  have Hpop := hide (ownsRow_pop (by omega) hown1)
  clear hown hown1
  have hnc' : (vals.length : Int) + 2 ≤ (cap : Int) := by omega
  go_enter Tryz.func77, Tryz.ntmps77
  go_wp2_with (first | (go_at_call 76; refine (oc _ 2 rfl _).mono ?_; rintro e w1 ⟨rfl, hw3⟩; subst hw3))
  go_quiet (fail)
  go_wp2_with (at_builtin; refine wpList_append_own _ rfl _ _ 120 rfl base 82 i0 .nilIface 1 16 Tryz.underlying120 hi hz0 hz1 hz2 rfl (by decide) _ _ _ rfl ((drew_own ((unhide Hpop).alloc _)).alloc _) ⟨w.heap.size + 1, 0, none⟩ 1 1 [.iface 132 (.agg #[.iface T y, .iface T' y'])] rfl rfl ?_ ?_ ?_ ?_ ?_ ?_)
  · refine cell_one ?_
    rw [World.cell?_alloc_at _ _ _ _ (by rw [sz_drewN, sz_alloc])]
    rfl
  · intro u hu; simp at hu; subst hu; rfl
  · unfold maxLen; omega
  · omega
  · simp only [sz_alloc, sz_drewN]; omega
  intro v' w' h1 hg _
  have hfin := hide (gpushed_mk (st := st ++ [l, r]) (x := ⟨2, [], 0, 0⟩) ((below_drewN ((below1 w _).mono hbase) nq).alloc (by simp only [sz_alloc, sz_drewN]; omega) _) (by simp only [sz_alloc, sz_drewN]; omega) ((drew_own ((unhide Hpop).alloc _)).alloc _) hg h1 (Or.inr (Or.inl ⟨Or.inl rfl, st, l, r, rfl, rfl⟩)) (hst.append ⟨hG.cat hl hr, trivial⟩))
  clear hg h1
  go_wp2
  go_ret
  exact unhide hfin
set_option maxHeartbeats 1000000 in
set_option maxRecDepth 100000 in
theorem gpush_alt {G : Value → List El × Int → Prop} (hG : Clos G) (base : Nat) (g cap : Nat) (vals : List Value) (T T' : TypeId) (y y' : Value) (st : List (List El × Int)) (l r : List El × Int) (w : World)
    (hown : w.ownsRow base 82 1 (.slice (some ⟨g, 0, none⟩) (vals.length + 2) cap) (vals.length + 2) (vals ++ [.iface T y, .iface T' y'])) (hst : GVals G st vals) (hl : G (.iface T y) l) (hr : G (.iface T' y') r) (hbase : base ≤ w.heap.size) (hlen : vals.length + 2 ≤ 3000) (hnc : vals.length + 2 ≤ cap) (a : Option Addr) (cp : Nat) :
    Calls Tryz.prog 77 #[.slice (some ⟨g, 0, none⟩) (vals.length + 2) cap, .agg #[.int .i64 3, .slice a 0 cp, .int .i64 0, .int .i64 0]] w fun e w' => PushedG G base w w' e (st ++ [l, r]) ⟨3, [], 0, 0⟩ := by
  obtain ⟨i0, hi, hz0, hz1, hz2⟩ := info_parts Tryz.info82
  have hgl : g < w.heap.size := (hown.lt g rfl).2
  have hcell : w.cell? ⟨g, vals.length, none⟩ = some (.iface T y) := by rw [hown.cellAt vals.length (by omega)]; simp
  have hcell2 : w.cell? ⟨g, vals.length + 1, none⟩ = some (.iface T' y') := by rw [hown.cellAt (vals.length + 1) (by omega)]; simp
  have hown1 : w.ownsRow base 82 1 (.slice (some ⟨g, 0, none⟩) (vals.length + 1) cap) (vals.length + 1) (vals ++ [.iface T y]) := ownsRow_pop (n := vals.length + 1) (last := [.iface T' y']) (by simp) (by rw [List.append_assoc]; exact hown)
  have Hpop := hide (ownsRow_pop (by omega) hown1)
  clear hown hown1
  have hnc' : (vals.length : Int) + 2 ≤ (cap : Int) := by omega
  go_enter Tryz.func77, Tryz.ntmps77
  go_wp2_with (first | (go_at_call 76; refine (oc _ 2 rfl _).mono ?_; rintro e w1 ⟨rfl, hw3⟩; subst hw3))
  go_quiet (fail)
  go_wp2_with (at_builtin; refine wpList_append_own _ rfl _ _ 120 rfl base 82 i0 .nilIface 1 16 Tryz.underlying120 hi hz0 hz1 hz2 rfl (by decide) _ _ _ rfl ((drew_own ((unhide Hpop).alloc _)).alloc _) ⟨w.heap.size + 1, 0, none⟩ 1 1 [.iface 134 (.agg #[.iface T y, .iface T' y'])] rfl rfl ?_ ?_ ?_ ?_ ?_ ?_)
  · refine cell_one ?_
    rw [World.cell?_alloc_at _ _ _ _ (by rw [sz_drewN, sz_alloc])]
    rfl
  · intro u hu; simp at hu; subst hu; rfl
  · unfold maxLen; omega
  · omega
  · simp only [sz_alloc, sz_drewN]; omega
  intro v' w' h1 hg _
  have hfin := hide (gpushed_mk (st := st ++ [l, r]) (x := ⟨3, [], 0, 0⟩) ((below_drewN ((below1 w _).mono hbase) nq).alloc (by simp only [sz_alloc, sz_drewN]; omega) _) (by simp only [sz_alloc, sz_drewN]; omega) ((drew_own ((unhide Hpop).alloc _)).alloc _) hg h1 (Or.inr (Or.inl ⟨Or.inr rfl, st, l, r, rfl, rfl⟩)) (hst.append ⟨hG.alt hl hr, trivial⟩))
  clear hg h1
  go_wp2
  go_ret
  exact unhide hfin
theorem gpushElement_any {G : Value → List El × Int → Prop} (hG : Clos G) (base : Nat) (v sv : Value) (vals : List Value) (st : List (List El × Int)) (x : El) (w : World) (hown : w.ownsRow base 82 1 v vals.length vals) (hst : GVals G st vals) (hbase : base ≤ w.heap.size) (hlen : vals.length ≤ 3000)
    (hv : IntsAt 0 w.heap.size w sv x.set) (ok : ElOk x) (hcnt : cnt x.kind ≤ vals.length) :
    Calls Tryz.prog 77 #[v, .agg #[.int .i64 x.kind, sv, .int .i64 x.mn, .int .i64 x.mx]] w fun e w' => PushedG G base w w' e st x := by
  obtain ⟨k, xs, mn, mx⟩ := x
  have hsl := hst.len
  rcases ok with ⟨q1, q2, q3, q4⟩ | ⟨q1, q2, q3, q4⟩ | ⟨q1, q2, q3⟩
  · simp only at q1 q2 q3 q4 hv
    subst q1 q3 q4
    rcases hown.2 with ⟨rfl, hn⟩ | ⟨g, cap, cur, rfl, hbg, hg, hnc, hcm, hcs, htake⟩
    · obtain rfl : vals = [] := List.eq_nil_of_length_eq_zero hn
      obtain rfl : st = [] := List.eq_nil_of_length_eq_zero (by simpa using hsl)
      exact gpush_s_nil hG base sv xs w hown hbase hv q2
    · exact gpush_s hG base g cap vals st sv xs w hown hst hbase hlen hnc hcm hv q2
  · simp only at q1 q2 q3 q4 hv
    subst q3 q4
    obtain rfl := List.eq_nil_of_length_eq_zero q2
    obtain ⟨a, cp, rfl, -, -, -⟩ := hv
    rcases q1 with rfl | rfl | rfl
    · rcases hown.2 with ⟨rfl, hn⟩ | ⟨g, cap, cur, rfl, hbg, hg, hnc, hcm, hcs, htake⟩
      · obtain rfl : vals = [] := List.eq_nil_of_length_eq_zero hn
        obtain rfl : st = [] := List.eq_nil_of_length_eq_zero (by simpa using hsl)
        exact gpush_e_nil hG base w hown hbase a cp
      · exact gpush_e hG base g cap vals st w hown hst hbase hlen hnc a cp
    · have hc2 : (2 : Int) ≤ vals.length := hcnt
      obtain ⟨b, l, r, rfl⟩ := snoc2 (st := st) (by omega)
      obtain ⟨u, z, rfl, hu, hz⟩ := hst.split
      obtain ⟨y1, y2, rfl, h1, h2⟩ := hz.two
      obtain ⟨T, y, rfl⟩ := (hG.sz h1).iface
      obtain ⟨T', y', rfl⟩ := (hG.sz h2).iface
      obtain ⟨g, cap, rfl, hnc, hcm⟩ := own_len hown (by omega)
      simp only [List.length_append, List.length_cons, List.length_nil] at hown hlen hnc ⊢
      exact gpush_cat hG base g cap u T T' y y' b l r w hown hu h1 h2 hbase hlen hnc a cp
    · have hc2 : (2 : Int) ≤ vals.length := hcnt
      obtain ⟨b, l, r, rfl⟩ := snoc2 (st := st) (by omega)
      obtain ⟨u, z, rfl, hu, hz⟩ := hst.split
      obtain ⟨y1, y2, rfl, h1, h2⟩ := hz.two
      obtain ⟨T, y, rfl⟩ := (hG.sz h1).iface
      obtain ⟨T', y', rfl⟩ := (hG.sz h2).iface
      obtain ⟨g, cap, rfl, hnc, hcm⟩ := own_len hown (by omega)
      simp only [List.length_append, List.length_cons, List.length_nil] at hown hlen hnc ⊢
      exact gpush_alt hG base g cap u T T' y y' b l r w hown hu h1 h2 hbase hlen hnc a cp
  · simp only at q1 q2 q3 hv
    subst q1
    obtain rfl := List.eq_nil_of_length_eq_zero q2
    obtain ⟨a, cp, rfl, -, -, -⟩ := hv
    have hc1 : (1 : Int) ≤ vals.length := hcnt
    obtain ⟨b, o, rfl⟩ := snoc1 (st := st) (by omega)
    obtain ⟨u, z, rfl, hu, hz⟩ := hst.split
    obtain ⟨y1, rfl, h1⟩ := hz.one
    obtain ⟨T, y, rfl⟩ := (hG.sz h1).iface
    obtain ⟨g, cap, rfl, hnc, hcm⟩ := own_len hown (by simp)
    simp only [List.length_append, List.length_cons, List.length_nil] at hown hlen hnc ⊢
    exact gpush_rep hG base g cap u T y b o mn mx w hown hu h1 q3.1 q3.2.1 q3.2.2 hbase hlen hnc a cp
def NodeG (G : Value → List El × Int → Prop) (e : Ending) (xs : List El) : Prop :=
  (∃ u c, e = .returned (.tuple #[u, .bool true]) ∧ ValidT xs ∧ G u (xs, c) ∧ c ≤ 500 ∧ SegM xs c) ∨ (e = .returned (.tuple #[.nilIface, .bool false]) ∧ ¬ ValidT xs)
theorem NodeG.no {G : Value → List El × Int → Prop} {xs : List El} (h : ¬ ValidT xs) : NodeG G (.returned (.tuple #[.nilIface, .bool false])) xs := Or.inr ⟨rfl, h⟩
set_option maxHeartbeats 2000000 in
set_option maxRecDepth 100000 in
theorem gnodeOf_any {G : Value → List El × Int → Prop} (hG : Clos G) (v : Value) (xs : List El) (w : World) (hv : ElsAt 0 w.heap.size w v xs) :
    Calls Tryz.prog 42 #[v] w fun e w' => NodeG G e xs ∧ Below w.heap.size w w' := by
  obtain ⟨a, cp, rfl, hl, hc⟩ := hv
  unfold maxLen at hl
  by_cases n1 : xs.length < 1
  · have n1' : (xs.length : Int) < 1 := by omega
    go_enter Tryz.func42, Tryz.ntmps42
    go_wp2
    go_ret2
    exact ⟨NodeG.no (fun h => by have := h.1; omega), Below.refl _ _⟩
  · have n1' : ¬ (xs.length : Int) < 1 := by omega
    by_cases n2 : 3000 < xs.length
    · have n2' : 3000 < (xs.length : Int) := by omega
      go_enter Tryz.func42, Tryz.ntmps42
      go_wp2
      go_ret2
      exact ⟨NodeG.no (fun h => by have := h.1; omega), Below.refl _ _⟩
    · have n2' : ¬ 3000 < (xs.length : Int) := by omega
      go_enter Tryz.func42, Tryz.ntmps42
      go_wp2
      go_loopw [4, 17] (fun sv i wr => ∃ (k : Nat) (vals : List Value) (st : List (List El × Int)), k ≤ xs.length ∧ i = .int .i64 k ∧ wr.ownsRow w.heap.size 82 1 sv vals.length vals ∧ GVals G st vals ∧ flats st = xs.take k ∧ (∀ s ∈ st, SegM s.1 s.2) ∧ (∀ j : Nat, j < k → ElOk (xs[j]?.getD dE)) ∧ Below w.heap.size w wr) (fun _ i _ => xs.length - (intOf i).toNat)
      case atStart => exact ⟨0, [], [], Nat.zero_le _, rfl, World.ownsRow_nil _ _ _ _, trivial, by simp [flats], by simp, fun j hj => absurd hj (Nat.not_lt_zero _), Below.refl _ _⟩
      case round =>
        obtain ⟨k, vals, st, hk, rfl, hown, hst, hfl, htr, hok, hb⟩ := hrel
        have hsl := hst.len
        have hvl : vals.length ≤ k := by
          have h1 := wsum_flats (fun s hs => (htr s hs).ws)
          have h2 := (wsum_bd (flats st)).2
          rw [h1, hfl, List.length_take] at h2
          omega
        obtain ⟨ao, sc, rfl⟩ := own_slice hown
        have Hown := hide hown
        have Hst := hide hst
        have Hfl := hide hfl
        have Htr := hide htr
        have Hok := hide hok
        clear hown hst hfl htr hok
        by_cases hlt : k < xs.length
        · obtain ⟨b, off, rfl, -, hbn, hel⟩ := hc (by omega)
          obtain ⟨i1, i2, i3, v, c0, c1, c2, c3, hints⟩ := (hel k hlt).same (Same.of_below hb (Nat.le_refl _)) (Nat.zero_le _) hbn
          have hlt' : (k : Int) < (xs.length : Int) := by omega
          generalize hX : xs[k]?.getD dE = x at *
          have HX := hide hX
          clear hX hel
          obtain ⟨a', cap', rfl, -, -, -⟩ := id hints
          go_wp2_with fail
          refine (validElement_any _ x _ (by exact (hints.mono (Nat.le_refl _) hb.size).below (below1 wr _) (Nat.le_refl _))).mono ?_
          rintro e w1 ⟨hret, hb1⟩
          obtain ⟨hc1, hf1⟩ := bcell hb1
          simp only [sz_alloc] at hc1 hf1
          have hB1 : Below wr.heap.size wr w1 := (below1 wr _).trans (hb1.mono (by rw [sz_alloc]; omega))
          have hBW : Below w.heap.size w w1 := hb.trans (hB1.mono hb.size)
          have hsz1 := hB1.size
          have hsz0 := hb.size
          clear hb1
          rcases hret.cases with ⟨rfl, hgood⟩ | ⟨rfl, hbad⟩
          · have Hgood := hide hgood
            clear hgood
            by_cases hcn : (vals.length : Int) < cnt x.kind
            · go_wp2_with (go_at_call 76; refine (operandCount_any _ _).mono ?_; rintro e w2 ⟨rfl, hw2⟩; subst hw2)
              go_ret2
              exact ⟨NodeG.no (short_bad hlt (unhide Hfl) (unhide Htr) (by rw [unhide HX]; exact unhide Hgood) (by rw [unhide HX, hsl]; exact hcn)), hBW⟩
            · go_wp2_with (go_at_call 76; refine (operandCount_any _ _).mono ?_; rintro e w2 ⟨rfl, hw2⟩; subst hw2)
              refine (gpushElement_any hG w.heap.size _ _ vals st x _ (own_below (unhide Hown) hB1 (Nat.le_refl _)) (unhide Hst) (by omega) (by omega) ((hints.mono (Nat.le_refl _) hb.size).below hB1 (Nat.le_refl _)) (unhide Hgood) (by omega)).mono ?_
              rintro e w3 ⟨v', vals', st', rfl, hown', hp, hn, hb3⟩
              have hnext := hide (show flats st' = xs.take (k + 1) ∧ (∀ s ∈ st', SegM s.1 s.2) ∧ GVals G st' vals' from ⟨hp.flats.trans (by rw [unhide Hfl, take_next hlt, unhide HX]), hp.seg (unhide Hgood) (unhide Htr), hn⟩)
              have Hown' := hide hown'
              have hB3 := hBW.trans hb3
              clear hown' hp hn hb3 hc1 hf1
              go_wp2
              go_roundw
              case rel => exact ⟨k + 1, vals', st', by omega, by go_num, unhide Hown', (unhide hnext).2.2, (unhide hnext).1, (unhide hnext).2.1, fun j hj => by
                by_cases e : j = k
                · subst e; rw [unhide HX]; exact unhide Hgood
                · exact unhide Hok j (by omega), hB3⟩
              case measure => simp [intOf]; omega
          · have Hbad := hide hbad
            clear hbad
            go_wp2
            go_ret2
            exact ⟨NodeG.no (fun h => by have := h.2.1 k hlt; rw [unhide HX] at this; exact unhide Hbad this), hBW⟩
        · obtain rfl : k = xs.length := by omega
          have hxs : flats st = xs := by have h := unhide Hfl; rwa [List.take_length] at h
          have Hxs := hide hxs
          clear hxs Hfl
          by_cases hone : vals.length = 1
          · obtain ⟨u, rfl⟩ := List.length_eq_one_iff.1 hone
            obtain ⟨t, rfl⟩ := List.length_eq_one_iff.1 (hsl.trans hone)
            obtain ⟨u', e1, hu⟩ := (unhide Hst).one
            simp only [List.cons.injEq, and_true] at e1
            subst e1
            have hT := unhide Htr t (by simp)
            have hft : xs = t.1 := by rw [← unhide Hxs, flats_one]
            have hGt : Hid (G u (xs, t.2)) := by rw [hft]; exact hu
            rw [← hft] at hT
            have HT : Hid (SegM xs t.2) := hT
            have Hrun := hide (hT.run [])
            have Hsh := hide (show Shape xs from ⟨hT.ws, hT.tl⟩)
            clear hft hT
            have hus := hG.sz hu
            have bt := hus.2
            obtain ⟨T, y, F, rfl, hm, hcf, hF⟩ := hus.1
            generalize t.2 = c at *
            have HF := hide hF
            clear hF hu hus
            obtain ⟨g, cap, e2, hnc, hcm⟩ := own_len (unhide Hown) (by simp)
            simp only [Value.slice.injEq] at e2
            obtain ⟨rfl, -, rfl⟩ := e2
            have hcell : wr.cell? ⟨g, 0, none⟩ = some (.iface T y) := by rw [(unhide Hown).cellAt 0 (by simp)]; rfl
            have hgl : g < wr.heap.size := ((unhide Hown).lt g rfl).2
            clear hone
            simp only [List.length_cons, List.length_nil, Nat.zero_add] at *
            go_wp2_with fail
            with_reducible refine (unhide HF _).mono ?_
            rintro e w1 ⟨rfl, hb1⟩
            obtain ⟨hc1, hf1⟩ := bcell hb1
            have hB1 := hb.trans (hb1.mono hb.size)
            clear hb1
            by_cases h5 : 500 < c
            · go_wp2
              go_ret2
              exact ⟨NodeG.no (fun h => by obtain ⟨-, -, -, t2, e2, h2⟩ := h; rw [unhide Hrun] at e2; simp only [List.cons.injEq, and_true] at e2; omega), hB1⟩
            · go_wp2
              go_ret2
              exact ⟨Or.inl ⟨_, c, rfl, ⟨⟨by omega, by omega⟩, unhide Hok, unhide Hsh, c, unhide Hrun, by omega⟩, unhide hGt, by omega, unhide HT⟩, hB1⟩
          · have hone' : ((vals.length : Int) != 1) = true := by simp; omega
            go_wp2
            go_ret2
            exact ⟨NodeG.no (fun h => by have h1 := wsum_flats (fun s hs => (unhide Htr s hs).ws); rw [unhide Hxs, h.2.2.1.1] at h1; omega), hb⟩
end Go.Proofs.YtinhliecfjlocaaGreat
