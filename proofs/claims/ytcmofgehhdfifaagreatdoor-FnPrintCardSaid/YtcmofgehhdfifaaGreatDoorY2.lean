import Derived.Test.YtcmofgehhdfifaaGreatDoorY1
namespace Go.Proofs.YtcmofgehhdfifaaGreatDoor
open Go.RowKit
set_option maxHeartbeats 1000000 in
theorem catOps_any (u v1 : Value) (L R : List El) (hu : OpsAs u L) (hv : OpsAs v1 R) (base : Nat) (v : Value) (ps : List Pc) (w : World) (hbase : base ≤ w.heap.size) (h : GrowP base w v ps) (hl : ps.length + L.length + R.length ≤ 999999) :
    Calls Tryz.prog 146 #[.agg #[u, v1], v] w fun e w' => OpsRet base w v ps (L ++ R ++ [⟨2, [], 0, 0⟩]) e w' := by
  obtain ⟨T, x, F, rfl, hm, hcf, hF⟩ := hu
  obtain ⟨T', x', F', rfl, hm', hcf', hF'⟩ := hv
  obtain ⟨oa, oc, rfl⟩ := own_is h.own
  have H := hide h
  have HF := hide hF
  have HG := hide hF'
  clear h hF hF'
  go_enter Tryz.func146, Tryz.ntmps146
  have hA : Hid (∀ (W w1 : World), Pushd w W (.cells #[.iface T x, .iface T' x'] 107) → W.grownBy w1 (Value.slice oa ps.length oc).ownBlock → w1.cell? ⟨w.heap.size, 0, none⟩ = some (.iface T x) ∧ w1.cell? ⟨w.heap.size, 1, none⟩ = some (.iface T' x') ∧ w.heap.size ≤ w1.heap.size) := fun W w1 hP hg => ⟨recv_cell hP (unhide H) hg 0, recv_cell hP (unhide H) hg 1, Nat.le_trans hP.below.size hg.size⟩
  go_wp2
  go_region_with ((first | ((with_reducible refine (unhide HF base _ ps _ ?_ ?_ (by omega)).mono ?_); (refine Nat.le_trans hbase ?_; show w.heap.size ≤ (w.alloc _).heap.size; rw [sz_alloc]; omega); (refine Pushd.grow (w := w) (o := .cells #[.iface T x, .iface T' x'] 107) ?_ (unhide H); exact ⟨rfl, rfl, rfl, rfl⟩); rintro e w1 ⟨v2, qs, rfl, g1, g2, g3, g4⟩; obtain ⟨hc0, hc1, hz1⟩ := unhide hA _ w1 (by exact ⟨rfl, rfl, rfl, rfl⟩) g3; have hql : qs.length = L.length := (by rw [← g2, List.length_map]); have G1 := hide g1; have G2 := hide g2; have G3 := hide g3; have G4 := hide g4; clear g1 g2 g3 g4) | ((with_reducible refine (unhide HG base _ (ps ++ qs) _ ?_ ?_ ?_).mono ?_); (show base ≤ w1.heap.size; omega); (first | exact unhide G1 | exact (unhide G1).drew); (rw [List.length_append]; omega); rintro e w2 ⟨v3, rs, rfl, k1, k2, k3, k4⟩; have hrl : rs.length = R.length := (by rw [← k2, List.length_map]); have K1 := hide k1; have K2 := hide k2; have K3 := hide k3; have K4 := hide k4; have hz2 := k3.size; clear k1 k2 k3 k4)))
  all_goals
    clear hc0 hc1
    go_wp2_with (at_builtin; refine app_op2 (wr := w2) ⟨2, [], 0, 0⟩ (.slice none 0 0) (fun _ => False) rfl _ _ rfl rfl w2.heap.size rfl rfl (unhide K1) (Nat.le_trans hbase (Nat.le_trans hz1 hz2)) (Below.refl _ _) (SlF.none _) (fun k hk => hk.elim) rfl ⟨rfl, rfl, rfl, rfl⟩ (by rw [List.length_append, List.length_append]; omega) ?_)
    intro v4 w4 m1 m2 m3
    have hfin := hide (ops_end (w := w) (o := .cells #[.iface T x, .iface T' x'] 107) (by exact ⟨rfl, rfl, rfl, rfl⟩) (unhide G2) (unhide G3) (unhide G4) (unhide K2) (unhide K3) (unhide K4) m1 m2 m3)
    clear m1 m2 m3
    go_wp2
    go_ret
    obtain ⟨us, r1, r2, r3, r4⟩ := unhide hfin
    exact ⟨_, us, rfl, r1, by simpa using r2, r3, r4⟩
set_option maxHeartbeats 1000000 in
theorem altOps_any (u v1 : Value) (L R : List El) (hu : OpsAs u L) (hv : OpsAs v1 R) (base : Nat) (v : Value) (ps : List Pc) (w : World) (hbase : base ≤ w.heap.size) (h : GrowP base w v ps) (hl : ps.length + L.length + R.length ≤ 999999) :
    Calls Tryz.prog 149 #[.agg #[u, v1], v] w fun e w' => OpsRet base w v ps (L ++ R ++ [⟨3, [], 0, 0⟩]) e w' := by
  obtain ⟨T, x, F, rfl, hm, hcf, hF⟩ := hu
  obtain ⟨T', x', F', rfl, hm', hcf', hF'⟩ := hv
  obtain ⟨oa, oc, rfl⟩ := own_is h.own
  have H := hide h
  have HF := hide hF
  have HG := hide hF'
  clear h hF hF'
  go_enter Tryz.func149, Tryz.ntmps149
  have hA : Hid (∀ (W w1 : World), Pushd w W (.cells #[.iface T x, .iface T' x'] 109) → W.grownBy w1 (Value.slice oa ps.length oc).ownBlock → w1.cell? ⟨w.heap.size, 0, none⟩ = some (.iface T x) ∧ w1.cell? ⟨w.heap.size, 1, none⟩ = some (.iface T' x') ∧ w.heap.size ≤ w1.heap.size) := fun W w1 hP hg => ⟨recv_cell hP (unhide H) hg 0, recv_cell hP (unhide H) hg 1, Nat.le_trans hP.below.size hg.size⟩
  go_wp2
  go_region_with ((first | ((with_reducible refine (unhide HF base _ ps _ ?_ ?_ (by omega)).mono ?_); (refine Nat.le_trans hbase ?_; show w.heap.size ≤ (w.alloc _).heap.size; rw [sz_alloc]; omega); (refine Pushd.grow (w := w) (o := .cells #[.iface T x, .iface T' x'] 109) ?_ (unhide H); exact ⟨rfl, rfl, rfl, rfl⟩); rintro e w1 ⟨v2, qs, rfl, g1, g2, g3, g4⟩; obtain ⟨hc0, hc1, hz1⟩ := unhide hA _ w1 (by exact ⟨rfl, rfl, rfl, rfl⟩) g3; have hql : qs.length = L.length := (by rw [← g2, List.length_map]); have G1 := hide g1; have G2 := hide g2; have G3 := hide g3; have G4 := hide g4; clear g1 g2 g3 g4) | ((with_reducible refine (unhide HG base _ (ps ++ qs) _ ?_ ?_ ?_).mono ?_); (show base ≤ w1.heap.size; omega); (first | exact unhide G1 | exact (unhide G1).drew); (rw [List.length_append]; omega); rintro e w2 ⟨v3, rs, rfl, k1, k2, k3, k4⟩; have hrl : rs.length = R.length := (by rw [← k2, List.length_map]); have K1 := hide k1; have K2 := hide k2; have K3 := hide k3; have K4 := hide k4; have hz2 := k3.size; clear k1 k2 k3 k4)))
  all_goals
    clear hc0 hc1
    go_wp2_with (at_builtin; refine app_op2 (wr := w2) ⟨3, [], 0, 0⟩ (.slice none 0 0) (fun _ => False) rfl _ _ rfl rfl w2.heap.size rfl rfl (unhide K1) (Nat.le_trans hbase (Nat.le_trans hz1 hz2)) (Below.refl _ _) (SlF.none _) (fun k hk => hk.elim) rfl ⟨rfl, rfl, rfl, rfl⟩ (by rw [List.length_append, List.length_append]; omega) ?_)
    intro v4 w4 m1 m2 m3
    have hfin := hide (ops_end (w := w) (o := .cells #[.iface T x, .iface T' x'] 109) (by exact ⟨rfl, rfl, rfl, rfl⟩) (unhide G2) (unhide G3) (unhide G4) (unhide K2) (unhide K3) (unhide K4) m1 m2 m3)
    clear m1 m2 m3
    go_wp2
    go_ret
    obtain ⟨us, r1, r2, r3, r4⟩ := unhide hfin
    exact ⟨_, us, rfl, r1, by simpa using r2, r3, r4⟩
end Go.Proofs.YtcmofgehhdfifaaGreatDoor
