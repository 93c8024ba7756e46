import Derived.Test.YtcmofgehhdfifaaGreatDoorPk23
import Derived.Test.YtcmofgehhdfifaaGreatDoorPk10
import Derived.Deep.RegionLaw
import Derived.Test.YtcmofgehhdfifaaGreatDoorPk24
import Derived.Test.YtcmofgehhdfifaaGreatDoorPk21
import Derived.Test.YtcmofgehhdfifaaGreatDoorPk25
import Derived.Lib.ConvBytes
import Derived.Test.YtcmofgehhdfifaaGreatDoorPk19
namespace Go.Proofs.YtcmofgehhdfifaaGreatDoor
open Go.RowKit
def tgt (k : Int) : Int := if k = 3 then 0 else if k = 2 then 1 else if k = 4 then 2 else 3
def TxV (u : Value) (t : Tx) : Prop := (∃ T x, u = .iface T x) ∧ (∀ w, Calls Tryz.prog 81 #[u] w fun e w' => e = .returned (.int .i64 (tgt t.1)) ∧ w' = w) ∧ AppK 29 (fun v => #[v, u]) t.2
theorem box_bk {base : Nat} {w w1 : World} {o : Obj} (h : BK base (w.alloc o) w1) (ho : ∀ c fz, o ≠ .cells c 5 fz) : w1.heap[w.heap.size]? = some o := h.o w.heap.size o (World.alloc_heap_new w o) (by simp) ho
theorem cell_blk {w1 : World} {b i : Nat} {c : Array Value} {t : TypeId} {v : Value} (h : w1.heap[b]? = some (.cells c t)) (hi : c[i]? = some v) : w1.cell? ⟨b, i, none⟩ = some v := by simp [World.cell?, h, hi]
set_option maxHeartbeats 2000000 in
set_option maxRecDepth 100000 in
theorem appendOperand_any {u : Value} {t : Tx} (h : TxV u t) (least : Int) : AppK 58 (fun v => #[v, u, .int .i64 least]) (grp (tgt t.1 < least) t.2) := by
  intro base ov os w hown hbase htb hlen
  obtain ⟨⟨T0, x0, rfl⟩, ht, ha⟩ := h
  have Hown := hide hown
  have Htb := hide htb
  obtain ⟨oa, oc, rfl⟩ := own_is hown
  have HA := hide ha
  have HT := hide (ht w)
  have HLen := hide hlen
  have hl : os.length ≤ 100000000 := by omega
  obtain ⟨Z, hZ⟩ : ∃ Z, Z = os ++ grp (tgt t.1 < least) t.2 := ⟨_, rfl⟩
  rw [← hZ]
  have HZ := hide hZ
  clear hown htb ha ht hlen hZ
  generalize tgt t.1 = k at *
  go_enter Tryz.func58, Tryz.ntmps58
  go_wp2_with fail
  refine (unhide HT).mono ?_
  rintro e w1 ⟨rfl, rfl⟩
  by_cases g : least ≤ k
  · have HE : Hid (Z = os ++ t.2) := by show Z = _; rw [unhide HZ]; unfold grp; rw [if_neg (by omega)]
    have HL2 : Hid (os.length + t.2.length ≤ 100000000) := by
      have h1 := congrArg List.length ((unhide HZ).symm.trans (unhide HE))
      have h2 := unhide HLen
      rw [List.length_append, List.length_append] at h1
      show os.length + t.2.length ≤ 100000000
      omega
    go_wp2_with fail
    refine (unhide HA base _ os _ (unhide Hown) hbase (unhide Htb) (unhide HL2)).mono ?_
    rintro e w2 ⟨v2, rfl, ho2, hb2⟩
    rw [← unhide HE] at ho2
    have Ho2 := hide ho2
    obtain ⟨a2, c2, rfl⟩ := own_is ho2
    clear ho2
    go_wp2
    go_ret
    exact ⟨_, rfl, unhide Ho2, hb2⟩
  · have HE : Hid (Z = os ++ [40] ++ t.2 ++ [41]) := by show Z = _; rw [unhide HZ]; unfold grp; rw [if_pos (by omega)]; simp
    have HL2 : Hid (os.length + 1 + t.2.length + 1 ≤ 100000000) := by
      have h1 := congrArg List.length ((unhide HZ).symm.trans (unhide HE))
      have h2 := unhide HLen
      simp only [List.length_append, List.length_singleton] at h1
      show os.length + 1 + t.2.length + 1 ≤ 100000000
      omega
    go_wp2_with (at_builtin; refine app_litB (w := w1) _ rfl _ _ rfl base _ rfl os (unhide Hown) hbase [40] rfl rfl (by simp) (by simp; omega) ?_; intro v2 w2 hb2 ho2 hv2; obtain ⟨Y, hY⟩ : ∃ Y, Y = os ++ [40] := ⟨_, rfl⟩; rw [← hY] at ho2; have HY := hide hY; have Ho2 := hide ho2; obtain ⟨a2, c2, rfl⟩ := own_is ho2; have hz2 := hb2.size; clear ho2 hY hv2)
    refine (unhide HA base _ Y _ (unhide Ho2) (by omega) (Lib.TabBelow.on (unhide Htb) hb2.b) (by rw [unhide HY, List.length_append, List.length_singleton]; have := unhide HL2; omega)).mono ?_
    rintro e w3 ⟨v3, rfl, ho3, hb3⟩
    obtain ⟨X, hX⟩ : ∃ X, X = Y ++ t.2 := ⟨_, rfl⟩
    rw [← hX] at ho3
    have hxl : X.length ≤ 100000000 := by rw [hX, unhide HY, List.length_append, List.length_append, List.length_singleton]; have := unhide HL2; omega
    have HX := hide hX
    have Ho3 := hide ho3
    obtain ⟨a3, c3, rfl⟩ := own_is ho3
    have hz3 := hb3.size
    clear ho3 hX
    go_wp2_with (at_builtin; refine app_litB (w := w3) _ rfl _ _ rfl base _ rfl X (unhide Ho3) (by omega) [41] rfl rfl (by simp) (by rw [List.length_singleton]; omega) ?_; intro v4 w4 hb4 ho4 hv4)
    go_ret
    exact ⟨_, rfl, by rw [unhide HE, ← unhide HY, ← unhide HX]; exact ho4, hb2.trans (hb3.trans hb4)⟩
set_option maxHeartbeats 2000000 in
set_option maxRecDepth 100000 in
theorem TxV.e : TxV eV (0, [40, 41]) := by
  refine ⟨⟨_, _, rfl⟩, fun w => ?_, ?_⟩
  · unfold eV
    have t1 := tp_ea
    have t2 := tp_ec
    have t3 := tp_er
    go_enter Tryz.func81, Tryz.ntmps81
    go_wp2
    go_ret
    exact ⟨rfl, rfl⟩
  · intro base ov os w hown hbase htb hlen
    have Hown := hide hown
    obtain ⟨oa, oc, rfl⟩ := own_is hown
    have hl : os.length ≤ 100000000 := by omega
    clear hown htb hlen
    unfold eV
    have t1 := tp_ee
    go_enter Tryz.func29, Tryz.ntmps29
    go_wp2_with (at_builtin; refine app_strP rfl _ _ rfl base _ rfl os (World.ownsRow.alloc (unhide Hown) _) (by rw [sz_alloc]; omega) _ rfl [40, 41] rfl (by simp; omega) ?_; intro v1 w1 hb1 ho1 hv1)
    go_ret
    exact ⟨_, rfl, by rw [List.length_append, List.map_append] at ho1 ⊢; exact ho1, BK.alloc hbase hb1⟩
set_option maxHeartbeats 2000000 in
set_option maxRecDepth 100000 in
theorem TxV.s {g : Nat → Nat} {xs : List Int} (hw : WordsOf xs g) (hc : Canon xs) (hx : xs.length ≤ 300) : TxV (sV g) (1, setT xs) := by
  refine ⟨⟨_, _, rfl⟩, fun w => ?_, ?_⟩
  · unfold sV
    have t1 := tp_sa
    have t2 := tp_sc
    have t3 := tp_sr
    generalize ws4 g = G at *
    go_enter Tryz.func81, Tryz.ntmps81
    go_wp2
    go_ret
    exact ⟨rfl, rfl⟩
  · intro base ov os w hown hbase htb hlen
    have Hown := hide hown
    obtain ⟨oa, oc, rfl⟩ := own_is hown
    have HA := hide (appendSet_any xs g hw hc hx)
    have HLen := hide hlen
    simp only at HLen ⊢
    obtain ⟨Z, hZ⟩ : ∃ Z, Z = os ++ setT xs := ⟨_, rfl⟩
    rw [← hZ]
    have HZ := hide hZ
    clear hown htb hlen hZ hw hc
    unfold sV ws4
    have t1 := tp_se
    have t2 := tp_ss
    go_enter Tryz.func29, Tryz.ntmps29
    go_wp2_with fail
    refine (unhide HA base _ os _ (World.ownsRow.alloc (unhide Hown) _) (by rw [sz_alloc]; omega) (unhide HLen)).mono ?_
    rintro e w1 ⟨v1, rfl, ho1, hb1⟩
    rw [← unhide HZ] at ho1
    have Ho1 := hide ho1
    have hB1 := BK.alloc hbase hb1
    obtain ⟨a1, c1, rfl⟩ := own_is ho1
    clear ho1 hb1
    go_wp2
    go_ret
    exact ⟨_, rfl, unhide Ho1, hB1⟩
set_option maxHeartbeats 2000000 in
set_option maxRecDepth 100000 in
theorem TxV.cat {u v : Value} {s t : Tx} (hu : TxV u s) (hv : TxV v t) : TxV (cV u v) (catX2 s t) := by
  have HAu := hide (appendOperand_any hu 1)
  have HAv := hide (appendOperand_any hv 2)
  obtain ⟨⟨T0, x0, rfl⟩, -, -⟩ := hu
  obtain ⟨⟨T1, x1, rfl⟩, -, -⟩ := hv
  refine ⟨⟨_, _, rfl⟩, fun w => ?_, ?_⟩
  · unfold cV
    have t1 := tp_ca
    have t2 := tp_cc
    clear HAu HAv
    go_enter Tryz.func81, Tryz.ntmps81
    go_wp2
    go_ret
    exact ⟨rfl, rfl⟩
  · intro base ov os w hown hbase htb hlen
    have Hown := hide hown
    have Htb := hide htb
    obtain ⟨oa, oc, rfl⟩ := own_is hown
    obtain ⟨Z, hZ⟩ : ∃ Z, Z = os ++ (catX2 s t).2 := ⟨_, rfl⟩
    rw [← hZ]
    have HZ : Hid (Z = os ++ grp (tgt s.1 < 1) s.2 ++ grp (tgt t.1 < 2) t.2) := by
      show Z = _
      rw [hZ, List.append_assoc]
      simp only [catX2]
      rw [grp_iff (p := tgt s.1 < 1) (q := s.1 = 3) (by unfold tgt; repeat' split; all_goals omega), grp_iff (p := tgt t.1 < 2) (q := t.1 = 3 ∨ t.1 = 2) (by unfold tgt; repeat' split; all_goals omega)]
    have HL : Hid (os.length + (grp (tgt s.1 < 1) s.2).length + (grp (tgt t.1 < 2) t.2).length ≤ 100000000) := by
      have h1 := congrArg List.length (hZ.symm.trans (unhide HZ))
      simp only [List.length_append] at h1
      show _ ≤ _
      omega
    clear hown htb hlen hZ
    generalize grp (tgt s.1 < 1) s.2 = A at *
    generalize grp (tgt t.1 < 2) t.2 = B at *
    unfold cV
    have t1 := tp_ce
    have t2 := tp_cs
    have t3 := tp_cc
    have hb0 : BK base w (w.alloc (.cells #[.iface T0 x0, .iface T1 x1] 107)) := BK.alloc hbase (BK.refl _ _)
    have HC : Hid (∀ W, BK base (w.alloc (.cells #[.iface T0 x0, .iface T1 x1] 107)) W → W.cell? ⟨w.heap.size, 0, none⟩ = some (.iface T0 x0) ∧ W.cell? ⟨w.heap.size, 1, none⟩ = some (.iface T1 x1)) := fun W hW =>
      have h := box_bk hW (fun c fz e => by simp at e)
      ⟨cell_blk h rfl, cell_blk h rfl⟩
    go_enter Tryz.func29, Tryz.ntmps29
    go_wp2_with fail
    have Ho0 := hide (World.ownsRow.alloc (unhide Hown) (.cells #[.iface T0 x0, .iface T1 x1] 107))
    generalize w.alloc (.cells #[.iface T0 x0, .iface T1 x1] 107) = W0 at *
    have hz0 := hb0.size
    refine (unhide HAu base _ os _ (unhide Ho0) (by omega) (Lib.TabBelow.on (unhide Htb) hb0.b) (by have := unhide HL; omega)).mono ?_
    rintro e w1 ⟨v1, rfl, ho1, hb1⟩
    obtain ⟨Y, hY⟩ : ∃ Y, Y = os ++ A := ⟨_, rfl⟩
    rw [← hY] at ho1
    have HY := hide hY
    have Ho1 := hide ho1
    obtain ⟨a1, c1, rfl⟩ := own_is ho1
    obtain ⟨-, k1⟩ := unhide HC w1 hb1
    have hz1 := hb1.size
    clear ho1 hY
    go_wp2_with fail
    refine (unhide HAv base _ Y _ (unhide Ho1) (by omega) (Lib.TabBelow.on (unhide Htb) (hb0.trans hb1).b) (by rw [unhide HY, List.length_append]; exact unhide HL)).mono ?_
    rintro e w2 ⟨v2, rfl, ho2, hb2⟩
    rw [unhide HY, ← unhide HZ] at ho2
    have Ho2 := hide ho2
    obtain ⟨a2, c2, rfl⟩ := own_is ho2
    clear ho2
    go_wp2
    go_ret
    exact ⟨_, rfl, unhide Ho2, hb0.trans (hb1.trans hb2)⟩
set_option maxHeartbeats 2000000 in
set_option maxRecDepth 100000 in
theorem TxV.rep {u : Value} {s : Tx} (hu : TxV u s) (mn mx : Int) (o2 : 0 ≤ mn) (o3 : mn ≤ 250) (o4 : mx = -1 ∨ (mn ≤ mx ∧ mx ≤ 250)) (hk : s.1 = 0 ∨ s.1 = 1 ∨ s.1 = 2 ∨ s.1 = 3 ∨ s.1 = 4) : TxV (rV u mn mx) (repX2 s mn mx) := by
  have HAu := hide (appendOperand_any hu 3)
  have HAv := hide (appendBounds_any mn mx o2 o3 o4)
  obtain ⟨⟨T0, x0, rfl⟩, -, -⟩ := hu
  refine ⟨⟨_, _, rfl⟩, fun w => ?_, ?_⟩
  · unfold rV
    have t1 := tp_ra
    have t2 := tp_rc
    have t3 := tp_rr
    clear HAu HAv
    go_enter Tryz.func81, Tryz.ntmps81
    go_wp2
    go_ret
    exact ⟨rfl, rfl⟩
  · intro base ov os w hown hbase htb hlen
    have Hown := hide hown
    have Htb := hide htb
    obtain ⟨oa, oc, rfl⟩ := own_is hown
    obtain ⟨Z, hZ⟩ : ∃ Z, Z = os ++ (repX2 s mn mx).2 := ⟨_, rfl⟩
    rw [← hZ]
    have HZ : Hid (Z = os ++ grp (tgt s.1 < 3) s.2 ++ repT mn mx) := by
      show Z = _
      rw [hZ, List.append_assoc]
      simp only [repX2]
      rw [grp_iff (p := tgt s.1 < 3) (q := 2 ≤ s.1) (by unfold tgt; repeat' split; all_goals omega)]
    have HL : Hid (os.length + (grp (tgt s.1 < 3) s.2).length + (repT mn mx).length ≤ 100000000) := by
      have h1 := congrArg List.length (hZ.symm.trans (unhide HZ))
      simp only [List.length_append] at h1
      show _ ≤ _
      omega
    clear hown htb hlen hZ
    generalize grp (tgt s.1 < 3) s.2 = A at *
    generalize repT mn mx = B at *
    unfold rV
    have t1 := tp_re
    have t2 := tp_rs
    have t3 := tp_rc
    have t4 := tp_ra
    have t5 := tp_rr
    have hb0 : BK base w (w.alloc (.cells #[.iface T0 x0, .int .i64 mn, .int .i64 mx] 111)) := BK.alloc hbase (BK.refl _ _)
    have HC : Hid (∀ W, BK base (w.alloc (.cells #[.iface T0 x0, .int .i64 mn, .int .i64 mx] 111)) W → W.cell? ⟨w.heap.size, 1, none⟩ = some (.int .i64 mn) ∧ W.cell? ⟨w.heap.size, 2, none⟩ = some (.int .i64 mx)) := fun W hW =>
      have h := box_bk hW (fun c fz e => by simp at e)
      ⟨cell_blk h rfl, cell_blk h rfl⟩
    go_enter Tryz.func29, Tryz.ntmps29
    go_wp2_with fail
    have Ho0 := hide (World.ownsRow.alloc (unhide Hown) (.cells #[.iface T0 x0, .int .i64 mn, .int .i64 mx] 111))
    generalize w.alloc (.cells #[.iface T0 x0, .int .i64 mn, .int .i64 mx] 111) = W0 at *
    have hz0 := hb0.size
    refine (unhide HAu base _ os _ (unhide Ho0) (by omega) (Lib.TabBelow.on (unhide Htb) hb0.b) (by have := unhide HL; omega)).mono ?_
    rintro e w1 ⟨v1, rfl, ho1, hb1⟩
    obtain ⟨Y, hY⟩ : ∃ Y, Y = os ++ A := ⟨_, rfl⟩
    rw [← hY] at ho1
    have HY := hide hY
    have Ho1 := hide ho1
    obtain ⟨a1, c1, rfl⟩ := own_is ho1
    obtain ⟨k1, k2⟩ := unhide HC w1 hb1
    have hz1 := hb1.size
    clear ho1 hY
    go_wp2_with fail
    refine (unhide HAv base _ Y _ (unhide Ho1) (by omega) (Lib.TabBelow.on (unhide Htb) (hb0.trans hb1).b) (by rw [unhide HY, List.length_append]; exact unhide HL)).mono ?_
    rintro e w2 ⟨v2, rfl, ho2, hb2⟩
    rw [unhide HY, ← unhide HZ] at ho2
    have Ho2 := hide ho2
    obtain ⟨a2, c2, rfl⟩ := own_is ho2
    clear ho2
    go_wp2
    go_ret
    exact ⟨_, rfl, unhide Ho2, hb0.trans (hb1.trans hb2)⟩
theorem run_ao (x y z : Value) (w : World) : Sem.run Tryz.prog (callFunc 58 #[x, y, z]) w = .ok (.enter 58 #[x, y, z]) w := by kernel_rfl
set_option maxHeartbeats 4000000 in
set_option maxRecDepth 100000 in
theorem TxV.alt {u v : Value} {s t : Tx} (hu : TxV u s) (hv : TxV v t) : TxV (aV u v) (altX2 s t) := by
  have HAu := hide (appendOperand_any hu 0)
  have HAv := hide (appendOperand_any hv 1)
  obtain ⟨⟨T0, x0, rfl⟩, -, -⟩ := hu
  obtain ⟨⟨T1, x1, rfl⟩, -, -⟩ := hv
  refine ⟨⟨_, _, rfl⟩, fun w => ?_, ?_⟩
  · unfold aV
    have t1 := tp_aa
    clear HAu HAv
    go_enter Tryz.func81, Tryz.ntmps81
    go_wp2
    go_ret
    exact ⟨rfl, rfl⟩
  · intro base ov os w hown hbase htb hlen
    have Hown := hide hown
    have Htb := hide htb
    obtain ⟨i0, hi, hz0', hz1', hz2'⟩ := info_parts Tryz.zinByte
    obtain ⟨oa, oc, rfl⟩ := own_is hown
    obtain ⟨Z, hZ⟩ : ∃ Z, Z = os ++ (altX2 s t).2 := ⟨_, rfl⟩
    rw [← hZ]
    have HZ : Hid (Z = os ++ grp (tgt s.1 < 0) s.2 ++ [124] ++ grp (tgt t.1 < 1) t.2) := by
      show Z = _
      rw [hZ]
      simp only [altX2]
      rw [grp_iff (p := tgt t.1 < 1) (q := t.1 = 3) (by unfold tgt; repeat' split; all_goals omega), show grp (tgt s.1 < 0) s.2 = s.2 by unfold grp; rw [if_neg (by unfold tgt; repeat' split; all_goals omega)]]
      simp
    have HL : Hid (os.length + (grp (tgt s.1 < 0) s.2).length + 1 + (grp (tgt t.1 < 1) t.2).length ≤ 100000000) := by
      have h1 := congrArg List.length (hZ.symm.trans (unhide HZ))
      simp only [List.length_append, List.length_singleton] at h1
      show _ ≤ _
      omega
    clear hown htb hlen hZ
    generalize grp (tgt s.1 < 0) s.2 = A at *
    generalize grp (tgt t.1 < 1) t.2 = B at *
    unfold aV
    have t1 := tp_ae
    have t2 := tp_as
    have t3 := tp_ac
    have t4 := tp_aa
    have hb0 : BK base w (w.alloc (.cells #[.iface T0 x0, .iface T1 x1] 109)) := BK.alloc hbase (BK.refl _ _)
    have HC : Hid (∀ W, BK base (w.alloc (.cells #[.iface T0 x0, .iface T1 x1] 109)) W → W.cell? ⟨w.heap.size, 1, none⟩ = some (.iface T1 x1)) := fun W hW =>
      cell_blk (box_bk hW (fun c fz e => by simp at e)) rfl
    go_enter Tryz.func29, Tryz.ntmps29
    go_wp2_with fail
    have Ho0 := hide (World.ownsRow.alloc (unhide Hown) (.cells #[.iface T0 x0, .iface T1 x1] 109))
    generalize w.alloc (.cells #[.iface T0 x0, .iface T1 x1] 109) = W0 at *
    have hz0 := hb0.size
    refine (unhide HAu base _ os _ (unhide Ho0) (by omega) (Lib.TabBelow.on (unhide Htb) hb0.b) (by have := unhide HL; omega)).mono ?_
    rintro e w1 ⟨v1, rfl, ho1, hb1⟩
    obtain ⟨Y, hY⟩ : ∃ Y, Y = os ++ A := ⟨_, rfl⟩
    rw [← hY] at ho1
    have hyl : Y.length ≤ 100000000 := by rw [hY, List.length_append]; have := unhide HL; omega
    have HY := hide hY
    have Ho1 := hide ho1
    obtain ⟨a1, c1, rfl⟩ := own_is ho1
    have k1 := unhide HC w1 hb1
    have k1a : ∀ o : Obj, (w1.alloc o).cell? ⟨w.heap.size, 1, none⟩ = some (.iface T1 x1) := fun o => unhide HC _ (hb1.trans (BK.alloc (by have := hb1.size; omega) (BK.refl _ _)))
    have hz1 := hb1.size
    have HST : Hid (∀ (W w2 : World) (gg cap' : Nat), Pushd w1 W (.cells #[.int .u8 124] 5) → w2.ownsRow base 5 1 (.slice (some ⟨gg, 0, none⟩) (Y.length + 1) cap') (Y.length + 1) (Y.map mB ++ [.int .u8 124]) → W.grownBy w2 (Value.slice a1 Y.length c1).ownBlock →
        w2.ownsRow base 5 1 (.slice (some ⟨gg, 0, none⟩) (Y.length + 1) cap') (Y ++ [124]).length ((Y ++ [124]).map mB) ∧ BK base w1 w2) := fun W w2 gg cap' hP q1 q2 =>
      ⟨by rw [List.length_append, List.map_append]; exact q1, grownP (unhide Ho1) (by omega) hP q2⟩
    have HCL : Hid (∀ (W : World) (vv : Value), BK base w1 W → W.ownsRow base 5 1 vv (Y ++ [124]).length ((Y ++ [124]).map mB) → Calls Tryz.prog 58 #[vv, .iface T1 x1, .int .i64 1] W fun e w' => ∃ v', e = .returned v' ∧ w'.ownsRow base 5 1 v' Z.length (Z.map mB) ∧ BK base W w') := fun W vv hW ho => by
      refine (unhide HAv base vv (Y ++ [124]) W ho (by have := hW.size; omega) (Lib.TabBelow.on (unhide Htb) ((hb0.trans hb1).trans hW).b) (by rw [unhide HY]; simp only [List.length_append, List.length_singleton]; exact unhide HL)).mono ?_
      rintro e w' ⟨v', h1, h2, h3⟩
      refine ⟨v', h1, ?_, h3⟩
      rw [unhide HZ, ← unhide HY]
      exact h2
    clear ho1 hY
    go_wp2_with fail
    go_region_law (first
      | (refine step_append_lies _ rfl (.tmp 41) (.tmp 42) 22 rfl base 5 i0 (.int .u8 0) 1 1 Tryz.underlying22 hi hz0' hz1' hz2' rfl (by decide) (.slice a1 Y.length c1) Y.length (Y.map mB) (by first | (simp [Act.eval]; done) | (simp [Act.eval, Act.put]; done)) (by refine Pushd.own (w := w1) (o := .cells #[.int .u8 124] 5) ?_ (unhide Ho1); exact ⟨rfl, rfl, rfl, rfl⟩) ⟨w1.heap.size, 0, none⟩ 1 1 [.int .u8 124] (by first | (simp [Act.eval]; done) | (simp [Act.eval, Act.put]; done)) rfl (by refine Pushd.news (w := w1) (cs := #[.int .u8 124]) (t := 5) ?_; exact ⟨rfl, rfl, rfl, rfl⟩) (by intro u hu; simp at hu; subst hu; rfl) (by decide) (by unfold maxLen; omega) (by omega) (by show base ≤ (w1.alloc _).heap.size; rw [sz_alloc]; omega) (w1.heap.size + 1) (sz_alloc w1 _) (fun gg cap' w2 q1 q2 q3 q4 => ?_); have hs := hide (unhide HST _ w2 gg cap' (by exact ⟨rfl, rfl, rfl, rfl⟩) q1 q2); have k2 := unhide HC w2 (hb1.trans (unhide hs).2); clear q1 q2 q3 q4)
      | (refine step_call_o 58 #[.tmp 43, .tmp 45, .const (.int .i64 1)] _ rfl #[.slice (some ⟨gg, 0, none⟩) (Y.length + 1) cap', .iface T1 x1, .int .i64 1] rfl (by first | (simp [Act.eval]; done) | (simp [Act.eval, Act.put]; done)) (run_ao _ _ _) (unhide HCL w2 _ (unhide hs).2 (unhide hs).1) ?_; rintro e w3 ⟨v3, rfl, ho3, hb3⟩; have Ho3 := hide ho3; obtain ⟨a3, c3, rfl⟩ := own_is ho3; clear ho3; refine ⟨_, rfl, ?_⟩))
    all_goals go_wp2
    all_goals go_ret
    all_goals exact ⟨_, rfl, unhide Ho3, (hb0.trans hb1).trans ((unhide hs).2.trans hb3)⟩
def GP (u : Value) (t : List El × Int) : Prop := SzV u t.2 ∧ SegM t.1 t.2 ∧ ∃ x : Tx, TxV u x ∧ TxS t.1 x ∧ SegT t.1 x ∧ (x.1 = 0 ∨ x.1 = 1 ∨ x.1 = 2 ∨ x.1 = 3 ∨ x.1 = 4)
theorem closP : Clos GP := by
  refine ⟨fun h => h.1, ?_, ?_, ?_, ?_, ?_⟩
  · exact ⟨SzV.e, SegM.leaf (Or.inl rfl), _, TxV.e, tx_e, SegT.e, Or.inl rfl⟩
  · intro xs g hc hw
    have hl := canon_len hc
    exact ⟨SzV.s _ _ _ _, SegM.leaf (Or.inr rfl), _, TxV.s hw hc hl, tx_s xs hc hl, SegT.s xs, Or.inr (Or.inl rfl)⟩
  · rintro u v l r ⟨hu1, hu2, x, hu3, hu4, hu5, hu6⟩ ⟨hv1, hv2, y, hv3, hv4, hv5, hv6⟩
    exact ⟨SzV.cat hu1 hv1, SegM.bin hu2 hv2 (Or.inl rfl), _, TxV.cat hu3 hv3, tx_bin_cat _ _ _ _ _ hv2 hu4 hv4, hu5.cat hv5, Or.inr (Or.inr (Or.inl rfl))⟩
  · rintro u v l r ⟨hu1, hu2, x, hu3, hu4, hu5, hu6⟩ ⟨hv1, hv2, y, hv3, hv4, hv5, hv6⟩
    exact ⟨SzV.alt hu1 hv1, SegM.bin hu2 hv2 (Or.inr rfl), _, TxV.alt hu3 hv3, tx_bin_alt _ _ _ _ _ hv2 hu4 hv4, hu5.alt hv5, Or.inr (Or.inr (Or.inr (Or.inl rfl)))⟩
  · rintro u o mn mx ⟨hu1, hu2, x, hu3, hu4, hu5, hu6⟩ o2 o3 o4
    exact ⟨SzV.rep hu1 o2 o3 o4, SegM.rep hu2 rfl o2 (o4.imp id (fun q => q)), _, TxV.rep hu3 mn mx o2 o3 o4 hu6, tx_rep _ _ mn mx hu4 o2 o3 o4, hu5.rep mn mx, Or.inr (Or.inr (Or.inr (Or.inr rfl)))⟩
def ptx (l r : Bool) (T : List Int) : List Int := (if l then [94] else []) ++ T ++ (if r then [36] else [])
def TAns (l r : Bool) (xs : List El) (T : List Int) : Prop := (ValidT xs ∧ ∃ x : Tx, SegT xs x ∧ T = ptx l r x.2) ∨ (¬ ValidT xs ∧ T = [])
theorem TAns.one {l r : Bool} {xs : List El} {A B : List Int} (h : TAns l r xs A) (k : TAns l r xs B) : A = B := by
  rcases h with ⟨h1, x, h2, rfl⟩ | ⟨h1, rfl⟩ <;> rcases k with ⟨k1, y, k2, rfl⟩ | ⟨k1, rfl⟩
  · rw [h2.one k2]
  · exact absurd h1 k1
  · exact absurd k1 h1
  · rfl
set_option maxHeartbeats 1000000 in
set_option maxRecDepth 100000 in
theorem implPr_any (l r : Bool) (v : Value) (xs : List El) (w : World) (hv : ElsAt 0 w.heap.size w v xs) (htb : TB w.heap.size w) :
    Calls Tryz.prog 9 #[.agg #[.bool l, .bool r, v]] w fun e w' => ∃ v' T, e = .returned v' ∧ TAns l r xs T ∧ T.length ≤ 6000002 ∧ w'.ownsRow w.heap.size 5 1 v' T.length (T.map mB) ∧ Below w.heap.size w w' := by
  obtain ⟨a, cp, rfl, -, -⟩ := id hv
  have Hv := hide hv
  have Htb := hide htb
  have hb0 := below1 w (.cells #[.bool l, .bool r, .slice a xs.length cp] 25)
  have HC : Hid (∀ W, Below (w.heap.size + 1) (w.alloc (.cells #[.bool l, .bool r, .slice a xs.length cp] 25)) W → W.cell? ⟨w.heap.size, 0, none⟩ = some (.bool l) ∧ W.cell? ⟨w.heap.size, 1, none⟩ = some (.bool r)) := fun W hW =>
    ⟨(hW.cell (p := ⟨w.heap.size, 0, none⟩) (Nat.lt_succ_self _)).trans ((pushd_alloc w _).news 0 _ rfl), (hW.cell (p := ⟨w.heap.size, 1, none⟩) (Nat.lt_succ_self _)).trans ((pushd_alloc w _).news 1 _ rfl)⟩
  clear hv htb
  go_enter Tryz.func9, Tryz.ntmps9
  go_wp2_with fail
  have hz0 : (w.alloc (.cells #[.bool l, .bool r, .slice a xs.length cp] 25)).heap.size = w.heap.size + 1 := sz_alloc _ _
  generalize w.alloc (.cells #[.bool l, .bool r, .slice a xs.length cp] 25) = W0 at *
  have hz0' : w.heap.size + 1 ≤ W0.heap.size := by omega
  clear hz0
  refine (gnodeOf_any closP _ xs _ ((unhide Hv).below hb0 (Nat.le_refl _))).mono ?_
  rintro e w1 ⟨⟨u, c, rfl, hok, hgx, hc5, -⟩ | ⟨rfl, hbad⟩, hb1⟩
  · have hz1 := hb1.size
    have hB1 : Below w.heap.size w w1 := hb0.trans (hb1.mono (by omega))
    obtain ⟨-, -, x, htv, hts, hst, -⟩ := hgx
    have hxl : x.2.length ≤ 6000000 := by have h1 := hts.2.1; have h2 := hok.1.2; simp only at h1; omega
    have Hans : Hid (TAns l r xs (ptx l r x.2)) := Or.inl ⟨hok, x, hst, rfl⟩
    obtain ⟨⟨T0, x0, rfl⟩, -, ha⟩ := htv
    have HA := hide ha
    have HTB : Hid (TB w1.heap.size w1) := fun w' h => unhide Htb w' (hB1.trans (h.mono hB1.size))
    have HCW : Hid (∀ W, Below w1.heap.size w1 W → W.cell? ⟨w.heap.size, 0, none⟩ = some (.bool l) ∧ W.cell? ⟨w.heap.size, 1, none⟩ = some (.bool r)) := fun W hW => unhide HC W ((hb1.mono (by omega)).trans (hW.mono (by omega)))
    obtain ⟨k0, k1⟩ := unhide HCW w1 (Below.refl _ _)
    clear hok ha hts hst hb1
    cases l with
    | true =>
     cases r with
     | true =>
      have HZ : Hid (ptx true true x.2 = [94] ++ x.2 ++ [36]) := by show ptx _ _ _ = _; simp [ptx]
      go_wp2_with (at_builtin; refine app_litB (w := w1) _ rfl _ _ rfl w1.heap.size _ rfl ([] : List Int) (World.ownsRow_nil _ _ _ _) (Nat.le_refl _) [94] rfl rfl (by simp) (by simp) ?_; intro v2 w2 hb2 ho2 hv2; obtain ⟨Y, hY⟩ : ∃ Y, Y = ([] : List Int) ++ [94] := ⟨_, rfl⟩; rw [← hY] at ho2; have HY := hide hY; have hyl : Y.length ≤ 1 := (by rw [hY]; simp); have Ho2 := hide ho2; obtain ⟨a2, c2, rfl⟩ := own_is ho2; have hz2 := hb2.size; clear ho2 hY hv2)
      refine (unhide HA w1.heap.size _ Y _ (unhide Ho2) hz2 (Lib.TabBelow.on (unhide HTB) hb2.b) (by omega)).mono ?_
      rintro e w3 ⟨v3, rfl, ho3, hb3⟩
      obtain ⟨X, hX⟩ : ∃ X, X = Y ++ x.2 := ⟨_, rfl⟩
      rw [← hX] at ho3
      have hxl2 : X.length ≤ 6000001 := by rw [hX, List.length_append]; omega
      have HX := hide hX
      have Ho3 := hide ho3
      obtain ⟨a3, c3, rfl⟩ := own_is ho3
      have hb13 := hb2.trans hb3
      obtain ⟨-, k3⟩ := unhide HCW w3 hb13.b
      have hz3 := hb13.size
      clear ho3 hX k0 k1
      go_wp2_with (at_builtin; refine app_litB (w := w3) _ rfl _ _ rfl w1.heap.size _ rfl X (unhide Ho3) hz3 [36] rfl rfl (by simp) (by rw [List.length_singleton]; omega) ?_; intro v4 w4 hb4 ho4 hv4; obtain ⟨U, hU⟩ : ∃ U, U = X ++ [36] := ⟨_, rfl⟩; rw [← hU] at ho4; have hul : U.length ≤ 6000002 := (by rw [hU, List.length_append, List.length_singleton]; omega); have HU := hide hU; have Ho4 := hide ho4; obtain ⟨a4, c4, rfl⟩ := own_is ho4; clear ho4 hU hv4)
      go_ret
      exact ⟨_, U, rfl, by rw [show U = ptx true true x.2 by rw [unhide HZ, unhide HU]; rw [unhide HX, unhide HY]; simp]; exact unhide Hans, hul, own_low (unhide Ho4) hB1.size, hB1.trans ((hb13.trans hb4).b.mono hB1.size)⟩
     | false =>
      have HZ : Hid (ptx true false x.2 = [94] ++ x.2) := by show ptx _ _ _ = _; simp [ptx]
      go_wp2_with (at_builtin; refine app_litB (w := w1) _ rfl _ _ rfl w1.heap.size _ rfl ([] : List Int) (World.ownsRow_nil _ _ _ _) (Nat.le_refl _) [94] rfl rfl (by simp) (by simp) ?_; intro v2 w2 hb2 ho2 hv2; obtain ⟨Y, hY⟩ : ∃ Y, Y = ([] : List Int) ++ [94] := ⟨_, rfl⟩; rw [← hY] at ho2; have HY := hide hY; have hyl : Y.length ≤ 1 := (by rw [hY]; simp); have Ho2 := hide ho2; obtain ⟨a2, c2, rfl⟩ := own_is ho2; have hz2 := hb2.size; clear ho2 hY hv2)
      refine (unhide HA w1.heap.size _ Y _ (unhide Ho2) hz2 (Lib.TabBelow.on (unhide HTB) hb2.b) (by omega)).mono ?_
      rintro e w3 ⟨v3, rfl, ho3, hb3⟩
      obtain ⟨X, hX⟩ : ∃ X, X = Y ++ x.2 := ⟨_, rfl⟩
      rw [← hX] at ho3
      have hxl2 : X.length ≤ 6000001 := by rw [hX, List.length_append]; omega
      have HX := hide hX
      have Ho3 := hide ho3
      obtain ⟨a3, c3, rfl⟩ := own_is ho3
      have hb13 := hb2.trans hb3
      obtain ⟨-, k3⟩ := unhide HCW w3 hb13.b
      have hz3 := hb13.size
      clear ho3 hX k0 k1
      go_wp2
      go_ret
      exact ⟨_, X, rfl, by rw [show X = ptx true false x.2 by rw [unhide HZ]; rw [unhide HX, unhide HY]; simp]; exact unhide Hans, by omega, own_low (unhide Ho3) hB1.size, hB1.trans (hb13.b.mono hB1.size)⟩
    | false =>
     cases r with
     | true =>
      have HZ : Hid (ptx false true x.2 = ([] : List Int) ++ x.2 ++ [36]) := by show ptx _ _ _ = _; simp [ptx]
      obtain ⟨Y, hY⟩ : ∃ Y, Y = ([] : List Int) := ⟨_, rfl⟩
      have HY := hide hY
      clear hY
      have hb2 : BK w1.heap.size w1 w1 := BK.refl _ _
      go_wp2_with fail
      refine (unhide HA w1.heap.size _ ([] : List Int) _ (World.ownsRow_nil _ _ _ _) (Nat.le_refl _) (unhide HTB) (by simp; omega)).mono ?_
      rintro e w3 ⟨v3, rfl, ho3, hb3⟩
      obtain ⟨X, hX⟩ : ∃ X, X = ([] : List Int) ++ x.2 := ⟨_, rfl⟩
      rw [← hX] at ho3
      have hxl2 : X.length ≤ 6000001 := by rw [hX, List.length_append]; simp; omega
      have HX := hide hX
      have Ho3 := hide ho3
      obtain ⟨a3, c3, rfl⟩ := own_is ho3
      have hb13 := hb2.trans hb3
      obtain ⟨-, k3⟩ := unhide HCW w3 hb13.b
      have hz3 := hb13.size
      clear ho3 hX k0 k1
      go_wp2_with (at_builtin; refine app_litB (w := w3) _ rfl _ _ rfl w1.heap.size _ rfl X (unhide Ho3) hz3 [36] rfl rfl (by simp) (by rw [List.length_singleton]; omega) ?_; intro v4 w4 hb4 ho4 hv4; obtain ⟨U, hU⟩ : ∃ U, U = X ++ [36] := ⟨_, rfl⟩; rw [← hU] at ho4; have hul : U.length ≤ 6000002 := (by rw [hU, List.length_append, List.length_singleton]; omega); have HU := hide hU; have Ho4 := hide ho4; obtain ⟨a4, c4, rfl⟩ := own_is ho4; clear ho4 hU hv4)
      go_ret
      exact ⟨_, U, rfl, by rw [show U = ptx false true x.2 by rw [unhide HZ, unhide HU]; rw [unhide HX]]; exact unhide Hans, hul, own_low (unhide Ho4) hB1.size, hB1.trans ((hb13.trans hb4).b.mono hB1.size)⟩
     | false =>
      have HZ : Hid (ptx false false x.2 = ([] : List Int) ++ x.2) := by show ptx _ _ _ = _; simp [ptx]
      obtain ⟨Y, hY⟩ : ∃ Y, Y = ([] : List Int) := ⟨_, rfl⟩
      have HY := hide hY
      clear hY
      have hb2 : BK w1.heap.size w1 w1 := BK.refl _ _
      go_wp2_with fail
      refine (unhide HA w1.heap.size _ ([] : List Int) _ (World.ownsRow_nil _ _ _ _) (Nat.le_refl _) (unhide HTB) (by simp; omega)).mono ?_
      rintro e w3 ⟨v3, rfl, ho3, hb3⟩
      obtain ⟨X, hX⟩ : ∃ X, X = ([] : List Int) ++ x.2 := ⟨_, rfl⟩
      rw [← hX] at ho3
      have hxl2 : X.length ≤ 6000001 := by rw [hX, List.length_append]; simp; omega
      have HX := hide hX
      have Ho3 := hide ho3
      obtain ⟨a3, c3, rfl⟩ := own_is ho3
      have hb13 := hb2.trans hb3
      obtain ⟨-, k3⟩ := unhide HCW w3 hb13.b
      have hz3 := hb13.size
      clear ho3 hX k0 k1
      go_wp2
      go_ret
      exact ⟨_, X, rfl, by rw [show X = ptx false false x.2 by rw [unhide HZ]; rw [unhide HX]]; exact unhide Hans, by omega, own_low (unhide Ho3) hB1.size, hB1.trans (hb13.b.mono hB1.size)⟩
  · have hB1 : Below w.heap.size w w1 := hb0.trans (hb1.mono hb0.size)
    have Hans : Hid (TAns l r xs []) := Or.inr ⟨hbad, rfl⟩
    clear hbad hb1
    go_wp2
    go_ret
    exact ⟨_, [], rfl, unhide Hans, by simp, World.ownsRow_nil _ _ _ _, hB1⟩
/-! What is printed is read again, if no limit is broken. -/
theorem PushR.pr {st st' : List (List El × Int)} {x : El} (h : PushR st x st') (ok : ElOk x) (hs : ∀ s ∈ st, ∃ t : Tx, SegT s.1 t ∧ PrT t s.1) : ∀ s ∈ st', ∃ t : Tx, SegT s.1 t ∧ PrT t s.1 := by
  intro s hm
  obtain ⟨k, xs, mn, mx⟩ := x
  rcases h with ⟨hk, rfl⟩ | ⟨hk, b, l, r, rfl, rfl⟩ | ⟨hk, b, o, rfl, rfl⟩
  · simp only [List.mem_append, List.mem_singleton] at hm; rcases hm with hm | rfl
    · exact hs s hm
    · rcases ok with ⟨q1, q2, q3, q4⟩ | ⟨q1, q2, q3, q4⟩ | ⟨q1, q2, q3, q4, q5⟩ <;> simp only at hk q1 q2 q3 q4
      · subst q1 q3 q4
        exact ⟨_, SegT.s xs, PrT.s q2⟩
      · subst q3 q4
        obtain rfl := List.eq_nil_of_length_eq_zero q2
        obtain rfl : k = 0 := by omega
        exact ⟨_, SegT.e, PrT.e⟩
      · omega
  · simp only [List.mem_append, List.mem_singleton] at hm; rcases hm with hm | rfl
    · exact hs s (by simp [hm])
    · obtain ⟨u, u1, u2⟩ := hs l (by simp)
      obtain ⟨v, v1, v2⟩ := hs r (by simp)
      rcases ok with ⟨q1, q2, q3, q4⟩ | ⟨q1, q2, q3, q4⟩ | ⟨q1, q2, q3, q4, q5⟩ <;> simp only at hk q1 q2 q3 q4
      · omega
      · subst q3 q4
        obtain rfl := List.eq_nil_of_length_eq_zero q2
        rcases hk with rfl | rfl
        · exact ⟨_, u1.cat v1, u2.cat v2⟩
        · exact ⟨_, u1.alt v1, u2.alt v2⟩
      · omega
  · simp only [List.mem_append, List.mem_singleton] at hm; rcases hm with hm | rfl
    · exact hs s (by simp [hm])
    · obtain ⟨u, u1, u2⟩ := hs o (by simp)
      rcases ok with ⟨q1, q2, q3, q4⟩ | ⟨q1, q2, q3, q4⟩ | ⟨q1, q2, q3, q4, q5⟩ <;> simp only at hk q1 q2 q3 q4
      · omega
      · omega
      · subst hk
        obtain rfl := List.eq_nil_of_length_eq_zero q2
        exact ⟨_, u1.rep mn mx, u2.rep q3 q4 q5⟩
theorem valid_pr {xs : List El} (h : ValidT xs) : ∃ t : Tx, SegT xs t ∧ PrT t xs := by
  obtain ⟨h1, ok, sh, -⟩ := h
  have key : ∀ k : Nat, k ≤ xs.length → ∃ st, flats st = xs.take k ∧ (∀ s ∈ st, SegM s.1 s.2) ∧ ∀ s ∈ st, ∃ t : Tx, SegT s.1 t ∧ PrT t s.1 := by
    intro k
    induction k with
    | zero => intro _; exact ⟨[], by simp [flats], by simp, by simp⟩
    | succ k ih =>
      intro hk
      obtain ⟨st, hst, hok, hgx⟩ := ih (by omega)
      have hx := ok k (by omega)
      have h1 : wsum (xs.take (k + 1)) + wsum (xs.drop (k + 1)) = 1 := by rw [← wsum_append, List.take_append_drop]; exact sh.1
      have h2 := sh.2 (k + 1) (by omega) hk
      have h3 := wsum_flats (fun s hs => (hok s hs).ws)
      rw [hst] at h3
      rw [take_next (by omega), wsum_append, h3] at h1
      simp only [wsum] at h1
      obtain ⟨st', hp⟩ := PushR.ex (st := st) hx (by omega)
      exact ⟨st', by rw [hp.flats, hst, take_next (by omega)], hp.seg hx hok, hp.pr hx hgx⟩
  obtain ⟨st, hst, hok, hgx⟩ := key xs.length (Nat.le_refl _)
  rw [List.take_length] at hst
  have h3 := wsum_flats (fun s hs => (hok s hs).ws)
  rw [hst, sh.1] at h3
  obtain ⟨t, rfl⟩ := List.length_eq_one_iff.1 (show st.length = 1 by omega)
  obtain ⟨u, h5, h6⟩ := hgx t (by simp)
  rw [flats_one] at hst
  rw [hst] at h5 h6
  exact ⟨u, h5, h6⟩
theorem lxs_hd {s : List Int} {ts : List Tk} (h : Lxs s ts []) (u : List Int) (hu : pkB u 0 ≠ 94) : pkB (s ++ u) 0 ≠ 94 := by
  cases ts with
  | nil => obtain rfl : s = [] := h; exact hu
  | cons t ts =>
    obtain ⟨r, h1, -⟩ := h
    cases s with
    | nil => simp [lx] at h1
    | cons c s =>
      intro e
      have : c = 94 := e
      subst this
      simp [lx, spcZ] at h1
theorem prs_print {xs : List El} {t : Tx} (l r : Bool) (hp : PrT t xs) : ∃ T ts, Prs ((ptx l r t.2).drop (at1 (ptx l r t.2))) T ts r ∧ T.l = xs ∧ decide (pkB (ptx l r t.2) 0 = 94) = l := by
  obtain ⟨-, ts, T, h1, h2, h3⟩ := hp
  have h1' := h1 []
  rw [List.append_nil] at h1'
  have hg := h2.up (lev_le _) (Nat.le_refl 3)
  have hP : Prs (t.2 ++ (if r then [36] else [])) T ts r := by
    cases r with
    | false => exact ⟨hg, .inl ⟨rfl, by simpa using h1'⟩⟩
    | true => exact ⟨hg, .inr ⟨rfl, t.2, by simp, h1'⟩⟩
  have hu : pkB (if r then [36] else []) 0 ≠ 94 := by cases r <;> simp [pkB]
  cases l with
  | true =>
    refine ⟨T, ts, ?_, h3, by simp [ptx, pkB]⟩
    have e : at1 (ptx true r t.2) = 1 := by simp [at1, ptx, pkB]
    rw [e]
    simpa [ptx] using hP
  | false =>
    have e0 : ptx false r t.2 = t.2 ++ (if r then [36] else []) := by simp [ptx]
    have hn := lxs_hd h1' _ hu
    rw [e0]
    refine ⟨T, ts, ?_, h3, by simpa using hn⟩
    rw [at1, if_neg hn]
    exact hP
theorem print_read {xs L : List El} {t : Tx} {l r l' r' : Bool} {c : Int} (hp : PrT t xs) (h : PAns (ptx l r t.2) l' r' L c) (hc : c ≠ 2) : c = 0 ∧ l' = l ∧ r' = r ∧ L = xs := by
  obtain ⟨T, ts, h1, h2, h3⟩ := prs_print l r hp
  rcases h with ⟨-, -, -, -, rfl⟩ | ⟨-, ⟨k1, -⟩ | ⟨T', ts', b, k1, k2⟩⟩
  · exact absurd rfl hc
  · exact absurd h1 (k1 _ _ _)
  · obtain ⟨rfl, rfl, rfl⟩ := h1.one k1
    rcases k2 with ⟨-, -, -, -, rfl⟩ | ⟨-, -, rfl, rfl, rfl, rfl⟩
    · exact absurd rfl hc
    · exact ⟨rfl, h3, rfl, h2⟩
theorem ptx_by {t : Tx} {xs : List El} (l r : Bool) (hp : PrT t xs) : BytesIn (ptx l r t.2) := by
  unfold ptx
  refine (BytesIn.app ?_ hp.1).app ?_
  · split
    · exact .cons (by omega) (by omega) .nil
    · exact .nil
  · split
    · exact .cons (by omega) (by omega) .nil
    · exact .nil
theorem conv_strC (s : ByteArray) (T : List Int) (w : World) (h : StrB s T) (hl : T.length ≤ 1000000000) : ∃ (W : World) (cp : Nat), (convert 9 22 (.string s)).run Tryz.prog w = .ok (.slice (some ⟨w.heap.size, 0, none⟩) T.length cp) W ∧ SlAt mB 0 0 W.heap.size W (.slice (some ⟨w.heap.size, 0, none⟩) T.length cp) T ∧ T.length ≤ cp ∧ Below w.heap.size w W := by
  have hz : s.size = T.length := h.size
  refine ⟨Lib.bytesWorld w 5 s, _, by rw [← hz]; exact Lib.run_convert_string_bytes w 9 22 5 s Tryz.underlying9 Tryz.underlying22 Tryz.underlying5, ⟨_, _, rfl, by unfold maxLen; omega, fun _ => ⟨w.heap.size, 0, rfl, Nat.zero_le _, by rw [Lib.bytesWorld_size]; exact Nat.lt_succ_self _, fun i hi => ?_⟩⟩, by rw [← hz]; exact grownCap_ge _ _ _ _, ⟨rfl, rfl, rfl, by rw [Lib.bytesWorld_size]; omega, fun k hk => Lib.bytesWorld_at_old w _ s k hk⟩⟩
  rw [Nat.zero_add, Lib.bytesWorld_cell w _ s i (by omega)]
  have h2 : (Go.Lib.strCells s)[i]? = (T.map mB)[i]? := by rw [show Go.Lib.strCells s = T.map mB from h]
  unfold Go.Lib.strCells at h2
  rw [List.getElem?_map, List.getElem?_map, getD_of_lt hi] at h2
  have hi0 : s.data.toList.length = s.size := by rw [Array.length_toList]; rfl
  have hi' : i < s.data.toList.length := by omega
  rw [List.getElem?_eq_getElem hi'] at h2
  simp only [Option.map_some, Option.some.injEq] at h2
  rw [← h2]
  simp [List.getD, List.getElem?_eq_getElem hi']
set_option maxHeartbeats 1000000 in
set_option maxRecDepth 100000 in
theorem specPr_c (l r : Bool) (v : Value) (xs : List El) (w : World) (hv : ElsAt 0 w.heap.size w v xs) :
    Calls Tryz.prog 7 #[.agg #[.bool l, .bool r, v]] w fun e w' => ∃ v' T, e = .returned v' ∧ TAns l r xs T ∧ SlAt mB 0 0 w'.heap.size w' v' T ∧ (∃ a cap, v' = .slice a T.length cap ∧ T.length ≤ cap) ∧ Below w.heap.size w w' := by
  obtain ⟨a, cp, rfl, -, -⟩ := id hv
  have Hv := hide hv
  have hb0 := below1 w (.cells #[.bool l, .bool r, .slice a xs.length cp] 25)
  have HC : Hid (∀ W, Below (w.heap.size + 1) (w.alloc (.cells #[.bool l, .bool r, .slice a xs.length cp] 25)) W → W.cell? ⟨w.heap.size, 0, none⟩ = some (.bool l) ∧ W.cell? ⟨w.heap.size, 1, none⟩ = some (.bool r) ∧ W.cell? ⟨w.heap.size, 2, none⟩ = some (.slice a xs.length cp)) := fun W hW =>
    ⟨(hW.cell (p := ⟨w.heap.size, 0, none⟩) (Nat.lt_succ_self _)).trans ((pushd_alloc w _).news 0 _ rfl), (hW.cell (p := ⟨w.heap.size, 1, none⟩) (Nat.lt_succ_self _)).trans ((pushd_alloc w _).news 1 _ rfl), (hW.cell (p := ⟨w.heap.size, 2, none⟩) (Nat.lt_succ_self _)).trans ((pushd_alloc w _).news 2 _ rfl)⟩
  clear hv
  go_enter Tryz.func7, Tryz.ntmps7
  go_wp2_with fail
  have hz0 : (w.alloc (.cells #[.bool l, .bool r, .slice a xs.length cp] 25)).heap.size = w.heap.size + 1 := sz_alloc _ _
  generalize w.alloc (.cells #[.bool l, .bool r, .slice a xs.length cp] 25) = W0 at *
  have hz0' : w.heap.size + 1 ≤ W0.heap.size := by omega
  clear hz0
  refine (specValid_any l r _ xs _ ((unhide Hv).below hb0 (Nat.le_refl _))).mono ?_
  rintro e w1 ⟨hret, hb1⟩
  have hz1 := hb1.size
  have hB1 : Below w.heap.size w w1 := hb0.trans (hb1.mono (by omega))
  obtain ⟨-, -, k2⟩ := unhide HC w1 (hb1.mono (by omega))
  rcases hret.cases with ⟨rfl, hok⟩ | ⟨rfl, hbad⟩
  · obtain ⟨u, c, -, -, x, -, hts, hst, -⟩ := valid_g closP hok
    have hlen := hok.1.2
    have hxl : x.2.length ≤ 6000000 := by have h1 := hts.2.1; simp only at h1; omega
    have Hans : Hid (TAns l r xs (ptx l r x.2)) := Or.inl ⟨hok, x, hst, rfl⟩
    have HX := hide hts.2.2
    clear hret hok hts hst
    go_wp2_with fail
    refine (unhide HX _ _ ((unhide Hv).below hB1 (Nat.le_refl _)) hlen).mono ?_
    rintro e w2 ⟨⟨S, rfl, hS⟩, hb2⟩
    have hB2 := hB1.trans (hb2.mono hB1.size)
    obtain ⟨k0, k1, -⟩ := unhide HC w2 (Below.trans (hb1.mono (by omega)) (hb2.mono (by omega)))
    have hsz := hS.size
    have HS := hide hS
    clear hS hb2 hb1 k2
    cases l with
    | true =>
     cases r with
     | true =>
      obtain ⟨Z, hZ⟩ : ∃ Z, Z = [94] ++ x.2 ++ [36] := ⟨_, rfl⟩
      have hzl : Z.length ≤ 6000002 := by rw [hZ]; (try simp); omega
      have hP : ptx true true x.2 = Z := by rw [hZ]; simp [ptx]
      rw [hP] at Hans
      obtain ⟨W, cq, hcv, hsl, hcq, hbW⟩ := conv_strC (({ data := #[94] } ++ S) ++ { data := #[36] }) Z w2 (by rw [hZ]; exact (StrB.app (StrB.app (a := { data := #[94] }) (xs := [94]) rfl (unhide HS)) (b := { data := #[36] }) (ys := [36]) rfl)) (by omega)
      have n1 : ¬ 9223372036854775807 < 1 + S.size := by omega
      have n2 : ¬ 9223372036854775807 < 1 + S.size + 1 := by omega
      have HSL := hide hsl
      clear hsl hP hZ
      go_wp2
      go_ret
      exact ⟨_, Z, rfl, unhide Hans, unhide HSL, ⟨_, _, rfl, hcq⟩, hB2.trans (hbW.mono hB2.size)⟩
     | false =>
      obtain ⟨Z, hZ⟩ : ∃ Z, Z = [94] ++ x.2 := ⟨_, rfl⟩
      have hzl : Z.length ≤ 6000002 := by rw [hZ]; (try simp); omega
      have hP : ptx true false x.2 = Z := by rw [hZ]; simp [ptx]
      rw [hP] at Hans
      obtain ⟨W, cq, hcv, hsl, hcq, hbW⟩ := conv_strC ({ data := #[94] } ++ S) Z w2 (by rw [hZ]; exact (StrB.app (a := { data := #[94] }) (xs := [94]) rfl (unhide HS))) (by omega)
      have n1 : ¬ 9223372036854775807 < 1 + S.size := by omega
      have HSL := hide hsl
      clear hsl hP hZ
      go_wp2
      go_ret
      exact ⟨_, Z, rfl, unhide Hans, unhide HSL, ⟨_, _, rfl, hcq⟩, hB2.trans (hbW.mono hB2.size)⟩
    | false =>
     cases r with
     | true =>
      obtain ⟨Z, hZ⟩ : ∃ Z, Z = x.2 ++ [36] := ⟨_, rfl⟩
      have hzl : Z.length ≤ 6000002 := by rw [hZ]; (try simp); omega
      have hP : ptx false true x.2 = Z := by rw [hZ]; simp [ptx]
      rw [hP] at Hans
      obtain ⟨W, cq, hcv, hsl, hcq, hbW⟩ := conv_strC (S ++ { data := #[36] }) Z w2 (by rw [hZ]; exact (StrB.app (unhide HS) (b := { data := #[36] }) (ys := [36]) rfl)) (by omega)
      have n2 : ¬ 9223372036854775807 < S.size + 1 := by omega
      have HSL := hide hsl
      clear hsl hP hZ
      go_wp2
      go_ret
      exact ⟨_, Z, rfl, unhide Hans, unhide HSL, ⟨_, _, rfl, hcq⟩, hB2.trans (hbW.mono hB2.size)⟩
     | false =>
      obtain ⟨Z, hZ⟩ : ∃ Z, Z = x.2 := ⟨_, rfl⟩
      have hzl : Z.length ≤ 6000002 := by rw [hZ]; (try simp); omega
      have hP : ptx false false x.2 = Z := by rw [hZ]; simp [ptx]
      rw [hP] at Hans
      obtain ⟨W, cq, hcv, hsl, hcq, hbW⟩ := conv_strC S Z w2 (by rw [hZ]; exact (unhide HS)) (by omega)
      have HSL := hide hsl
      clear hsl hP hZ
      go_wp2
      go_ret
      exact ⟨_, Z, rfl, unhide Hans, unhide HSL, ⟨_, _, rfl, hcq⟩, hB2.trans (hbW.mono hB2.size)⟩
  · have Hans : Hid (TAns l r xs []) := Or.inr ⟨hbad, rfl⟩
    clear hret hbad
    go_wp2
    go_ret
    exact ⟨_, [], rfl, unhide Hans, ⟨none, 0, rfl, Nat.zero_le _, fun h => absurd h (by simp)⟩, ⟨none, 0, rfl, Nat.le_refl _⟩, hB1⟩
end Go.Proofs.YtcmofgehhdfifaaGreatDoor
