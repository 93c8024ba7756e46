import Derived.Test.YtmhafibngbojcaaDoorPp13
namespace Go.Proofs.YtmhafibngbojcaaDoor
open Go.RowKit

theorem run_ao (x y z : Value) (w : World) : Sem.run Tryd.prog (callFunc 32 #[x, y, z]) w = .ok (.enter 32 #[x, y, z]) w := by kernel_rfl

set_option maxHeartbeats 4000000 in
set_option maxRecDepth 100000 in
theorem TxV.alt {u v : Value} {s t : Tx} (hu : TxV u s) (hv : TxV v t) : TxV (aV u v) (altX2 s t) := by
  have HAu := hide (appendOperand_any hu 0)
  have HAv := hide (appendOperand_any hv 1)
  obtain ⟨⟨T0, x0, rfl⟩, -, -⟩ := hu
  obtain ⟨⟨T1, x1, rfl⟩, -, -⟩ := hv
  refine ⟨⟨_, _, rfl⟩, fun w => ?_, ?_⟩
  · unfold aV
    have t1 := tp_aa
    clear HAu HAv
    go_enter Tryd.func54, Tryd.ntmps54
    go_wp2
    go_ret
    exact ⟨rfl, rfl⟩
  · intro base ov os w hown hbase htb hlen
    have Hown := hide hown
    have Htb := hide htb
    obtain ⟨i0, hi, hz0', hz1', hz2'⟩ := info_parts Tryd.zinByte
    obtain ⟨oa, oc, rfl⟩ := own_is hown
    obtain ⟨Z, hZ⟩ : ∃ Z, Z = os ++ (altX2 s t).2 := ⟨_, rfl⟩
    rw [← hZ]
    have HZ : Hid (Z = os ++ grp (tgt s.1 < 0) s.2 ++ [124] ++ grp (tgt t.1 < 1) t.2) := by
      show Z = _
      rw [hZ]
      simp only [altX2]
      rw [grp_iff (p := tgt t.1 < 1) (q := t.1 = 3) (by unfold tgt; repeat' split; all_goals omega), show grp (tgt s.1 < 0) s.2 = s.2 by unfold grp; rw [if_neg (by unfold tgt; repeat' split; all_goals omega)]]
      simp
    have HL : Hid (os.length + (grp (tgt s.1 < 0) s.2).length + 1 + (grp (tgt t.1 < 1) t.2).length ≤ 100000000) := by
      have h1 := congrArg List.length (hZ.symm.trans (unhide HZ))
      simp only [List.length_append, List.length_singleton] at h1
      show _ ≤ _
      omega
    clear hown htb hlen hZ
    generalize grp (tgt s.1 < 0) s.2 = A at *
    generalize grp (tgt t.1 < 1) t.2 = B at *
    unfold aV
    have t1 := tp_ae
    have t2 := tp_as
    have t3 := tp_ac
    have t4 := tp_aa
    have hb0 : BK base w (w.alloc (.cells #[.iface T0 x0, .iface T1 x1] 74)) := BK.alloc hbase (BK.refl _ _)
    have HC : Hid (∀ W, BK base (w.alloc (.cells #[.iface T0 x0, .iface T1 x1] 74)) W → W.cell? ⟨w.heap.size, 1, none⟩ = some (.iface T1 x1)) := fun W hW =>
      cell_blk (box_bk hW (fun c fz e => by simp at e)) rfl
    go_enter Tryd.func18, Tryd.ntmps18
    go_wp2_with fail
    have Ho0 := hide (World.ownsRow.alloc (unhide Hown) (.cells #[.iface T0 x0, .iface T1 x1] 74))
    generalize w.alloc (.cells #[.iface T0 x0, .iface T1 x1] 74) = W0 at *
    have hz0 := hb0.size
    refine (unhide HAu base _ os _ (unhide Ho0) (by omega) (Lib.TabBelow.on (unhide Htb) hb0.b) (by have := unhide HL; omega)).mono ?_
    rintro e w1 ⟨v1, rfl, ho1, hb1⟩
    obtain ⟨Y, hY⟩ : ∃ Y, Y = os ++ A := ⟨_, rfl⟩
    rw [← hY] at ho1
    have hyl : Y.length ≤ 100000000 := by rw [hY, List.length_append]; have := unhide HL; omega
    have HY := hide hY
    have Ho1 := hide ho1
    obtain ⟨a1, c1, rfl⟩ := own_is ho1
    have k1 := unhide HC w1 hb1
    have k1a : ∀ o : Obj, (w1.alloc o).cell? ⟨w.heap.size, 1, none⟩ = some (.iface T1 x1) := fun o => unhide HC _ (hb1.trans (BK.alloc (by have := hb1.size; omega) (BK.refl _ _)))
    have hz1 := hb1.size
    have HST : Hid (∀ (W w2 : World) (gg cap' : Nat), Pushd w1 W (.cells #[.int .u8 124] 5) → w2.ownsRow base 5 1 (.slice (some ⟨gg, 0, none⟩) (Y.length + 1) cap') (Y.length + 1) (Y.map mB ++ [.int .u8 124]) → W.grownBy w2 (Value.slice a1 Y.length c1).ownBlock →
        w2.ownsRow base 5 1 (.slice (some ⟨gg, 0, none⟩) (Y.length + 1) cap') (Y ++ [124]).length ((Y ++ [124]).map mB) ∧ BK base w1 w2) := fun W w2 gg cap' hP q1 q2 =>
      ⟨by rw [List.length_append, List.map_append]; exact q1, grownP (unhide Ho1) (by omega) hP q2⟩
    have HCL : Hid (∀ (W : World) (vv : Value), BK base w1 W → W.ownsRow base 5 1 vv (Y ++ [124]).length ((Y ++ [124]).map mB) → Calls Tryd.prog 32 #[vv, .iface T1 x1, .int .i64 1] W fun e w' => ∃ v', e = .returned v' ∧ w'.ownsRow base 5 1 v' Z.length (Z.map mB) ∧ BK base W w') := fun W vv hW ho => by
      refine (unhide HAv base vv (Y ++ [124]) W ho (by have := hW.size; omega) (Lib.TabBelow.on (unhide Htb) ((hb0.trans hb1).trans hW).b) (by rw [unhide HY]; simp only [List.length_append, List.length_singleton]; exact unhide HL)).mono ?_
      rintro e w' ⟨v', h1, h2, h3⟩
      refine ⟨v', h1, ?_, h3⟩
      rw [unhide HZ, ← unhide HY]
      exact h2
    clear ho1 hY
    go_wp2_with fail
    go_region_law (first
      | (refine step_append_lies _ rfl (.tmp 41) (.tmp 42) 26 rfl base 5 i0 (.int .u8 0) 1 1 Tryd.underlying26 hi hz0' hz1' hz2' rfl (by decide) (.slice a1 Y.length c1) Y.length (Y.map mB) (by first | (simp [Act.eval]; done) | (simp [Act.eval, Act.put]; done)) (by refine Pushd.own (w := w1) (o := .cells #[.int .u8 124] 5) ?_ (unhide Ho1); exact ⟨rfl, rfl, rfl, rfl⟩) ⟨w1.heap.size, 0, none⟩ 1 1 [.int .u8 124] (by first | (simp [Act.eval]; done) | (simp [Act.eval, Act.put]; done)) rfl (by refine Pushd.news (w := w1) (cs := #[.int .u8 124]) (t := 5) ?_; exact ⟨rfl, rfl, rfl, rfl⟩) (by intro u hu; simp at hu; subst hu; rfl) (by decide) (by unfold maxLen; omega) (by omega) (by show base ≤ (w1.alloc _).heap.size; rw [sz_alloc]; omega) (w1.heap.size + 1) (sz_alloc w1 _) (fun gg cap' w2 q1 q2 q3 q4 => ?_); have hs := hide (unhide HST _ w2 gg cap' (by exact ⟨rfl, rfl, rfl, rfl⟩) q1 q2); have k2 := unhide HC w2 (hb1.trans (unhide hs).2); clear q1 q2 q3 q4)
      | (refine step_call_o 32 #[.tmp 43, .tmp 45, .const (.int .i64 1)] _ rfl #[.slice (some ⟨gg, 0, none⟩) (Y.length + 1) cap', .iface T1 x1, .int .i64 1] rfl (by first | (simp [Act.eval]; done) | (simp [Act.eval, Act.put]; done)) (run_ao _ _ _) (unhide HCL w2 _ (unhide hs).2 (unhide hs).1) ?_; rintro e w3 ⟨v3, rfl, ho3, hb3⟩; have Ho3 := hide ho3; obtain ⟨a3, c3, rfl⟩ := own_is ho3; clear ho3; refine ⟨_, rfl, ?_⟩))
    all_goals go_wp2
    all_goals go_ret
    all_goals exact ⟨_, rfl, unhide Ho3, (hb0.trans hb1).trans ((unhide hs).2.trans hb3)⟩

end Go.Proofs.YtmhafibngbojcaaDoor
