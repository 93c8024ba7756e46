import Derived.Test.YtmhafibngbojcaaDoorPp12
import Derived.Test.YtmhafibngbojcaaDoorPp6
namespace Go.Proofs.YtmhafibngbojcaaDoor
open Go.RowKit

set_option maxHeartbeats 2000000 in
set_option maxRecDepth 100000 in
theorem TxV.e : TxV eV (0, [40, 41]) := by
  refine ⟨⟨_, _, rfl⟩, fun w => ?_, ?_⟩
  · unfold eV
    have t1 := tp_ea
    have t2 := tp_ec
    have t3 := tp_er
    go_enter Tryd.func54, Tryd.ntmps54
    go_wp2
    go_ret
    exact ⟨rfl, rfl⟩
  · intro base ov os w hown hbase htb hlen
    have Hown := hide hown
    obtain ⟨oa, oc, rfl⟩ := own_is hown
    have hl : os.length ≤ 100000000 := by omega
    clear hown htb hlen
    unfold eV
    have t1 := tp_ee
    go_enter Tryd.func18, Tryd.ntmps18
    go_wp2_with (at_builtin; refine app_strP rfl _ _ rfl base _ rfl os (World.ownsRow.alloc (unhide Hown) _) (by rw [sz_alloc]; omega) _ rfl [40, 41] rfl (by simp; omega) ?_; intro v1 w1 hb1 ho1 hv1)
    go_ret
    exact ⟨_, rfl, by rw [List.length_append, List.map_append] at ho1 ⊢; exact ho1, BK.alloc hbase hb1⟩

set_option maxHeartbeats 2000000 in
set_option maxRecDepth 100000 in
theorem TxV.s {g : Nat → Nat} {xs : List Int} (hw : WordsOf xs g) (hc : Canon xs) (hx : xs.length ≤ 300) : TxV (sV g) (1, setT xs) := by
  refine ⟨⟨_, _, rfl⟩, fun w => ?_, ?_⟩
  · unfold sV
    have t1 := tp_sa
    have t2 := tp_sc
    have t3 := tp_sr
    generalize ws4 g = G at *
    go_enter Tryd.func54, Tryd.ntmps54
    go_wp2
    go_ret
    exact ⟨rfl, rfl⟩
  · intro base ov os w hown hbase htb hlen
    have Hown := hide hown
    obtain ⟨oa, oc, rfl⟩ := own_is hown
    have HA := hide (appendSet_any xs g hw hc hx)
    have HLen := hide hlen
    simp only at HLen ⊢
    obtain ⟨Z, hZ⟩ : ∃ Z, Z = os ++ setT xs := ⟨_, rfl⟩
    rw [← hZ]
    have HZ := hide hZ
    clear hown htb hlen hZ hw hc
    unfold sV ws4
    have t1 := tp_se
    have t2 := tp_ss
    go_enter Tryd.func18, Tryd.ntmps18
    go_wp2_with fail
    refine (unhide HA base _ os _ (World.ownsRow.alloc (unhide Hown) _) (by rw [sz_alloc]; omega) (unhide HLen)).mono ?_
    rintro e w1 ⟨v1, rfl, ho1, hb1⟩
    rw [← unhide HZ] at ho1
    have Ho1 := hide ho1
    have hB1 := BK.alloc hbase hb1
    obtain ⟨a1, c1, rfl⟩ := own_is ho1
    clear ho1 hb1
    go_wp2
    go_ret
    exact ⟨_, rfl, unhide Ho1, hB1⟩

set_option maxHeartbeats 2000000 in
set_option maxRecDepth 100000 in
theorem TxV.cat {u v : Value} {s t : Tx} (hu : TxV u s) (hv : TxV v t) : TxV (cV u v) (catX2 s t) := by
  have HAu := hide (appendOperand_any hu 1)
  have HAv := hide (appendOperand_any hv 2)
  obtain ⟨⟨T0, x0, rfl⟩, -, -⟩ := hu
  obtain ⟨⟨T1, x1, rfl⟩, -, -⟩ := hv
  refine ⟨⟨_, _, rfl⟩, fun w => ?_, ?_⟩
  · unfold cV
    have t1 := tp_ca
    have t2 := tp_cc
    clear HAu HAv
    go_enter Tryd.func54, Tryd.ntmps54
    go_wp2
    go_ret
    exact ⟨rfl, rfl⟩
  · intro base ov os w hown hbase htb hlen
    have Hown := hide hown
    have Htb := hide htb
    obtain ⟨oa, oc, rfl⟩ := own_is hown
    obtain ⟨Z, hZ⟩ : ∃ Z, Z = os ++ (catX2 s t).2 := ⟨_, rfl⟩
    rw [← hZ]
    have HZ : Hid (Z = os ++ grp (tgt s.1 < 1) s.2 ++ grp (tgt t.1 < 2) t.2) := by
      show Z = _
      rw [hZ, List.append_assoc]
      simp only [catX2]
      rw [grp_iff (p := tgt s.1 < 1) (q := s.1 = 3) (by unfold tgt; repeat' split; all_goals omega), grp_iff (p := tgt t.1 < 2) (q := t.1 = 3 ∨ t.1 = 2) (by unfold tgt; repeat' split; all_goals omega)]
    have HL : Hid (os.length + (grp (tgt s.1 < 1) s.2).length + (grp (tgt t.1 < 2) t.2).length ≤ 100000000) := by
      have h1 := congrArg List.length (hZ.symm.trans (unhide HZ))
      simp only [List.length_append] at h1
      show _ ≤ _
      omega
    clear hown htb hlen hZ
    generalize grp (tgt s.1 < 1) s.2 = A at *
    generalize grp (tgt t.1 < 2) t.2 = B at *
    unfold cV
    have t1 := tp_ce
    have t2 := tp_cs
    have t3 := tp_cc
    have hb0 : BK base w (w.alloc (.cells #[.iface T0 x0, .iface T1 x1] 72)) := BK.alloc hbase (BK.refl _ _)
    have HC : Hid (∀ W, BK base (w.alloc (.cells #[.iface T0 x0, .iface T1 x1] 72)) W → W.cell? ⟨w.heap.size, 0, none⟩ = some (.iface T0 x0) ∧ W.cell? ⟨w.heap.size, 1, none⟩ = some (.iface T1 x1)) := fun W hW =>
      have h := box_bk hW (fun c fz e => by simp at e)
      ⟨cell_blk h rfl, cell_blk h rfl⟩
    go_enter Tryd.func18, Tryd.ntmps18
    go_wp2_with fail
    have Ho0 := hide (World.ownsRow.alloc (unhide Hown) (.cells #[.iface T0 x0, .iface T1 x1] 72))
    generalize w.alloc (.cells #[.iface T0 x0, .iface T1 x1] 72) = W0 at *
    have hz0 := hb0.size
    refine (unhide HAu base _ os _ (unhide Ho0) (by omega) (Lib.TabBelow.on (unhide Htb) hb0.b) (by have := unhide HL; omega)).mono ?_
    rintro e w1 ⟨v1, rfl, ho1, hb1⟩
    obtain ⟨Y, hY⟩ : ∃ Y, Y = os ++ A := ⟨_, rfl⟩
    rw [← hY] at ho1
    have HY := hide hY
    have Ho1 := hide ho1
    obtain ⟨a1, c1, rfl⟩ := own_is ho1
    obtain ⟨-, k1⟩ := unhide HC w1 hb1
    have hz1 := hb1.size
    clear ho1 hY
    go_wp2_with fail
    refine (unhide HAv base _ Y _ (unhide Ho1) (by omega) (Lib.TabBelow.on (unhide Htb) (hb0.trans hb1).b) (by rw [unhide HY, List.length_append]; exact unhide HL)).mono ?_
    rintro e w2 ⟨v2, rfl, ho2, hb2⟩
    rw [unhide HY, ← unhide HZ] at ho2
    have Ho2 := hide ho2
    obtain ⟨a2, c2, rfl⟩ := own_is ho2
    clear ho2
    go_wp2
    go_ret
    exact ⟨_, rfl, unhide Ho2, hb0.trans (hb1.trans hb2)⟩

set_option maxHeartbeats 2000000 in
set_option maxRecDepth 100000 in
theorem TxV.rep {u : Value} {s : Tx} (hu : TxV u s) (mn mx : Int) (o2 : 0 ≤ mn) (o3 : mn ≤ 250) (o4 : mx = -1 ∨ (mn ≤ mx ∧ mx ≤ 250)) (hk : s.1 = 0 ∨ s.1 = 1 ∨ s.1 = 2 ∨ s.1 = 3 ∨ s.1 = 4) : TxV (rV u mn mx) (repX2 s mn mx) := by
  have HAu := hide (appendOperand_any hu 3)
  have HAv := hide (appendBounds_any mn mx o2 o3 o4)
  obtain ⟨⟨T0, x0, rfl⟩, -, -⟩ := hu
  refine ⟨⟨_, _, rfl⟩, fun w => ?_, ?_⟩
  · unfold rV
    have t1 := tp_ra
    have t2 := tp_rc
    have t3 := tp_rr
    clear HAu HAv
    go_enter Tryd.func54, Tryd.ntmps54
    go_wp2
    go_ret
    exact ⟨rfl, rfl⟩
  · intro base ov os w hown hbase htb hlen
    have Hown := hide hown
    have Htb := hide htb
    obtain ⟨oa, oc, rfl⟩ := own_is hown
    obtain ⟨Z, hZ⟩ : ∃ Z, Z = os ++ (repX2 s mn mx).2 := ⟨_, rfl⟩
    rw [← hZ]
    have HZ : Hid (Z = os ++ grp (tgt s.1 < 3) s.2 ++ repT mn mx) := by
      show Z = _
      rw [hZ, List.append_assoc]
      simp only [repX2]
      rw [grp_iff (p := tgt s.1 < 3) (q := 2 ≤ s.1) (by unfold tgt; repeat' split; all_goals omega)]
    have HL : Hid (os.length + (grp (tgt s.1 < 3) s.2).length + (repT mn mx).length ≤ 100000000) := by
      have h1 := congrArg List.length (hZ.symm.trans (unhide HZ))
      simp only [List.length_append] at h1
      show _ ≤ _
      omega
    clear hown htb hlen hZ
    generalize grp (tgt s.1 < 3) s.2 = A at *
    generalize repT mn mx = B at *
    unfold rV
    have t1 := tp_re
    have t2 := tp_rs
    have t3 := tp_rc
    have t4 := tp_ra
    have t5 := tp_rr
    have hb0 : BK base w (w.alloc (.cells #[.iface T0 x0, .int .i64 mn, .int .i64 mx] 76)) := BK.alloc hbase (BK.refl _ _)
    have HC : Hid (∀ W, BK base (w.alloc (.cells #[.iface T0 x0, .int .i64 mn, .int .i64 mx] 76)) W → W.cell? ⟨w.heap.size, 1, none⟩ = some (.int .i64 mn) ∧ W.cell? ⟨w.heap.size, 2, none⟩ = some (.int .i64 mx)) := fun W hW =>
      have h := box_bk hW (fun c fz e => by simp at e)
      ⟨cell_blk h rfl, cell_blk h rfl⟩
    go_enter Tryd.func18, Tryd.ntmps18
    go_wp2_with fail
    have Ho0 := hide (World.ownsRow.alloc (unhide Hown) (.cells #[.iface T0 x0, .int .i64 mn, .int .i64 mx] 76))
    generalize w.alloc (.cells #[.iface T0 x0, .int .i64 mn, .int .i64 mx] 76) = W0 at *
    have hz0 := hb0.size
    refine (unhide HAu base _ os _ (unhide Ho0) (by omega) (Lib.TabBelow.on (unhide Htb) hb0.b) (by have := unhide HL; omega)).mono ?_
    rintro e w1 ⟨v1, rfl, ho1, hb1⟩
    obtain ⟨Y, hY⟩ : ∃ Y, Y = os ++ A := ⟨_, rfl⟩
    rw [← hY] at ho1
    have HY := hide hY
    have Ho1 := hide ho1
    obtain ⟨a1, c1, rfl⟩ := own_is ho1
    obtain ⟨k1, k2⟩ := unhide HC w1 hb1
    have hz1 := hb1.size
    clear ho1 hY
    go_wp2_with fail
    refine (unhide HAv base _ Y _ (unhide Ho1) (by omega) (Lib.TabBelow.on (unhide Htb) (hb0.trans hb1).b) (by rw [unhide HY, List.length_append]; exact unhide HL)).mono ?_
    rintro e w2 ⟨v2, rfl, ho2, hb2⟩
    rw [unhide HY, ← unhide HZ] at ho2
    have Ho2 := hide ho2
    obtain ⟨a2, c2, rfl⟩ := own_is ho2
    clear ho2
    go_wp2
    go_ret
    exact ⟨_, rfl, unhide Ho2, hb0.trans (hb1.trans hb2)⟩

end Go.Proofs.YtmhafibngbojcaaDoor
