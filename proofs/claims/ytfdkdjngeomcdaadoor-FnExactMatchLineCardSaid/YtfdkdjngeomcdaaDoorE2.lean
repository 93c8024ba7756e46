import Derived.Test.YtfdkdjngeomcdaaDoorE1
namespace Go.Proofs.YtfdkdjngeomcdaaDoor
open Go.RowKit

theorem drew_own {base n : Nat} {w : World} {v : Value} {xs : List Value} {q : Nat} (h : w.ownsRow base 40 1 v n xs) : (w.drewN q).ownsRow base 40 1 v n xs := h

theorem sz_drewN (w : World) (q : Nat) : (w.drewN q).heap.size = w.heap.size := rfl

set_option maxHeartbeats 1000000 in
set_option maxRecDepth 100000 in
theorem push_rep (base : Nat) (g cap : Nat) (vals : List Value) (T : TypeId) (y : Value) (st : List (List El × Int)) (o : List El × Int) (mn mx : Int) (w : World)
    (hown : w.ownsRow base 40 1 (.slice (some ⟨g, 0, none⟩) (vals.length + 1) cap) (vals.length + 1) (vals ++ [.iface T y])) (hst : NVals st vals) (ho : SzV (.iface T y) o.2) (o2 : 0 ≤ mn) (o3 : mn ≤ 250) (o4 : mx = -1 ∨ (mn ≤ mx ∧ mx ≤ 250)) (hbase : base ≤ w.heap.size) (hlen : vals.length + 1 ≤ 3000) (hnc : vals.length + 1 ≤ cap) (a : Option Addr) (cp : Nat) :
    Calls Tryd.prog 45 #[.slice (some ⟨g, 0, none⟩) (vals.length + 1) cap, .agg #[.int .i64 4, .slice a 0 cp, .int .i64 mn, .int .i64 mx]] w fun e w' => Pushed base w w' e (st ++ [o]) ⟨4, [], mn, mx⟩ := by
  obtain ⟨i0, hi, hz0, hz1, hz2⟩ := info_parts Tryd.info40
  have hgl : g < w.heap.size := (hown.lt g rfl).2
  have hcell : w.cell? ⟨g, vals.length, none⟩ = some (.iface T y) := by rw [hown.cellAt vals.length (by omega)]; simp
  have Hpop := hide (ownsRow_pop (by omega) hown)
  clear hown
  have hnc' : (vals.length : Int) + 1 ≤ (cap : Int) := by omega
  go_enter Tryd.func45, Tryd.ntmps45
  go_wp2_with (first | (go_at_call 44; refine (oc _ 1 rfl _).mono ?_; rintro e w1 ⟨rfl, hw3⟩; subst hw3))
  go_quiet (fail)
  go_wp2_with (at_builtin; refine wpList_append_own _ rfl _ _ 102 rfl base 40 i0 .nilIface 1 16 Tryd.underlying102 hi hz0 hz1 hz2 rfl (by decide) _ _ _ rfl ((drew_own ((unhide Hpop).alloc _)).alloc _) ⟨w.heap.size + 1, 0, none⟩ 1 1 [.iface 69 (.agg #[.iface T y, .int .i64 mn, .int .i64 mx])] rfl rfl ?_ ?_ ?_ ?_ ?_ ?_)
  · refine cell_one ?_
    rw [World.cell?_alloc_at _ _ _ _ (by rw [sz_drewN, sz_alloc])]
    rfl
  · intro u hu; simp at hu; subst hu; rfl
  · unfold maxLen; omega
  · omega
  · simp only [sz_alloc, sz_drewN]; omega
  intro v' w' h1 hg _
  have hfin := hide (pushed_mk (st := st ++ [o]) (x := ⟨4, [], mn, mx⟩) ((below_drewN ((below1 w _).mono hbase) nq).alloc (by simp only [sz_alloc, sz_drewN]; omega) _) (by simp only [sz_alloc, sz_drewN]; omega) ((drew_own ((unhide Hpop).alloc _)).alloc _) hg h1 (Or.inr (Or.inr ⟨rfl, st, o, rfl, rfl⟩)) (hst.append ⟨SzV.rep ho o2 o3 o4, trivial⟩))
  clear hg h1
  go_wp2
  go_ret
  exact unhide hfin

set_option maxHeartbeats 1000000 in
set_option maxRecDepth 100000 in
theorem push_cat (base : Nat) (g cap : Nat) (vals : List Value) (T T' : TypeId) (y y' : Value) (st : List (List El × Int)) (l r : List El × Int) (w : World)
    (hown : w.ownsRow base 40 1 (.slice (some ⟨g, 0, none⟩) (vals.length + 2) cap) (vals.length + 2) (vals ++ [.iface T y, .iface T' y'])) (hst : NVals st vals) (hl : SzV (.iface T y) l.2) (hr : SzV (.iface T' y') r.2) (hbase : base ≤ w.heap.size) (hlen : vals.length + 2 ≤ 3000) (hnc : vals.length + 2 ≤ cap) (a : Option Addr) (cp : Nat) :
    Calls Tryd.prog 45 #[.slice (some ⟨g, 0, none⟩) (vals.length + 2) cap, .agg #[.int .i64 2, .slice a 0 cp, .int .i64 0, .int .i64 0]] w fun e w' => Pushed base w w' e (st ++ [l, r]) ⟨2, [], 0, 0⟩ := by
  obtain ⟨i0, hi, hz0, hz1, hz2⟩ := info_parts Tryd.info40
  have hgl : g < w.heap.size := (hown.lt g rfl).2
  have hcell : w.cell? ⟨g, vals.length, none⟩ = some (.iface T y) := by rw [hown.cellAt vals.length (by omega)]; simp
  have hcell2 : w.cell? ⟨g, vals.length + 1, none⟩ = some (.iface T' y') := by rw [hown.cellAt (vals.length + 1) (by omega)]; simp
  have hown1 : w.ownsRow base 40 1 (.slice (some ⟨g, 0, none⟩) (vals.length + 1) cap) (vals.length + 1) (vals ++ [.iface T y]) := ownsRow_pop (n := vals.length + 1) (last := [.iface T' y']) (by simp) (by rw [List.append_assoc]; exact hown)
  have Hpop := hide (ownsRow_pop (by omega) hown1)
  clear hown hown1
  have hnc' : (vals.length : Int) + 2 ≤ (cap : Int) := by omega
  go_enter Tryd.func45, Tryd.ntmps45
  go_wp2_with (first | (go_at_call 44; refine (oc _ 2 rfl _).mono ?_; rintro e w1 ⟨rfl, hw3⟩; subst hw3))
  go_quiet (fail)
  go_wp2_with (at_builtin; refine wpList_append_own _ rfl _ _ 102 rfl base 40 i0 .nilIface 1 16 Tryd.underlying102 hi hz0 hz1 hz2 rfl (by decide) _ _ _ rfl ((drew_own ((unhide Hpop).alloc _)).alloc _) ⟨w.heap.size + 1, 0, none⟩ 1 1 [.iface 71 (.agg #[.iface T y, .iface T' y'])] rfl rfl ?_ ?_ ?_ ?_ ?_ ?_)
  · refine cell_one ?_
    rw [World.cell?_alloc_at _ _ _ _ (by rw [sz_drewN, sz_alloc])]
    rfl
  · intro u hu; simp at hu; subst hu; rfl
  · unfold maxLen; omega
  · omega
  · simp only [sz_alloc, sz_drewN]; omega
  intro v' w' h1 hg _
  have hfin := hide (pushed_mk (st := st ++ [l, r]) (x := ⟨2, [], 0, 0⟩) ((below_drewN ((below1 w _).mono hbase) nq).alloc (by simp only [sz_alloc, sz_drewN]; omega) _) (by simp only [sz_alloc, sz_drewN]; omega) ((drew_own ((unhide Hpop).alloc _)).alloc _) hg h1 (Or.inr (Or.inl ⟨Or.inl rfl, st, l, r, rfl, rfl⟩)) (hst.append ⟨SzV.cat hl hr, trivial⟩))
  clear hg h1
  go_wp2
  go_ret
  exact unhide hfin

set_option maxHeartbeats 1000000 in
set_option maxRecDepth 100000 in
theorem push_alt (base : Nat) (g cap : Nat) (vals : List Value) (T T' : TypeId) (y y' : Value) (st : List (List El × Int)) (l r : List El × Int) (w : World)
    (hown : w.ownsRow base 40 1 (.slice (some ⟨g, 0, none⟩) (vals.length + 2) cap) (vals.length + 2) (vals ++ [.iface T y, .iface T' y'])) (hst : NVals st vals) (hl : SzV (.iface T y) l.2) (hr : SzV (.iface T' y') r.2) (hbase : base ≤ w.heap.size) (hlen : vals.length + 2 ≤ 3000) (hnc : vals.length + 2 ≤ cap) (a : Option Addr) (cp : Nat) :
    Calls Tryd.prog 45 #[.slice (some ⟨g, 0, none⟩) (vals.length + 2) cap, .agg #[.int .i64 3, .slice a 0 cp, .int .i64 0, .int .i64 0]] w fun e w' => Pushed base w w' e (st ++ [l, r]) ⟨3, [], 0, 0⟩ := by
  obtain ⟨i0, hi, hz0, hz1, hz2⟩ := info_parts Tryd.info40
  have hgl : g < w.heap.size := (hown.lt g rfl).2
  have hcell : w.cell? ⟨g, vals.length, none⟩ = some (.iface T y) := by rw [hown.cellAt vals.length (by omega)]; simp
  have hcell2 : w.cell? ⟨g, vals.length + 1, none⟩ = some (.iface T' y') := by rw [hown.cellAt (vals.length + 1) (by omega)]; simp
  have hown1 : w.ownsRow base 40 1 (.slice (some ⟨g, 0, none⟩) (vals.length + 1) cap) (vals.length + 1) (vals ++ [.iface T y]) := ownsRow_pop (n := vals.length + 1) (last := [.iface T' y']) (by simp) (by rw [List.append_assoc]; exact hown)
  have Hpop := hide (ownsRow_pop (by omega) hown1)
  clear hown hown1
  have hnc' : (vals.length : Int) + 2 ≤ (cap : Int) := by omega
  go_enter Tryd.func45, Tryd.ntmps45
  go_wp2_with (first | (go_at_call 44; refine (oc _ 2 rfl _).mono ?_; rintro e w1 ⟨rfl, hw3⟩; subst hw3))
  go_quiet (fail)
  go_wp2_with (at_builtin; refine wpList_append_own _ rfl _ _ 102 rfl base 40 i0 .nilIface 1 16 Tryd.underlying102 hi hz0 hz1 hz2 rfl (by decide) _ _ _ rfl ((drew_own ((unhide Hpop).alloc _)).alloc _) ⟨w.heap.size + 1, 0, none⟩ 1 1 [.iface 106 (.agg #[.iface T y, .iface T' y'])] rfl rfl ?_ ?_ ?_ ?_ ?_ ?_)
  · refine cell_one ?_
    rw [World.cell?_alloc_at _ _ _ _ (by rw [sz_drewN, sz_alloc])]
    rfl
  · intro u hu; simp at hu; subst hu; rfl
  · unfold maxLen; omega
  · omega
  · simp only [sz_alloc, sz_drewN]; omega
  intro v' w' h1 hg _
  have hfin := hide (pushed_mk (st := st ++ [l, r]) (x := ⟨3, [], 0, 0⟩) ((below_drewN ((below1 w _).mono hbase) nq).alloc (by simp only [sz_alloc, sz_drewN]; omega) _) (by simp only [sz_alloc, sz_drewN]; omega) ((drew_own ((unhide Hpop).alloc _)).alloc _) hg h1 (Or.inr (Or.inl ⟨Or.inr rfl, st, l, r, rfl, rfl⟩)) (hst.append ⟨SzV.alt hl hr, trivial⟩))
  clear hg h1
  go_wp2
  go_ret
  exact unhide hfin

end Go.Proofs.YtfdkdjngeomcdaaDoor
