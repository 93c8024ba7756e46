import Derived.Test.YtgedhbnmejlmeaaR2
import Derived.Deep.RegionWith
namespace Go.Proofs.Ytgedhbnmejlmeaa
open Go.RowKit

/-- What a run of a table answers, as data. -/
def RunV (xs ys bs : List Int) (zs : List Bool) (nc : Int) (acc : Bool) (tr : List Int) : Prop :=
  (TabOk xs ys zs nc ∧ acc = zs[(stt xs ys bs nc bs.length).toNat]?.getD false ∧ tr = trace xs ys bs nc (bs.length + 1)) ∨ (¬ TabOk xs ys zs nc ∧ acc = false ∧ tr = [])

theorem RunV.uniq {xs ys bs : List Int} {zs : List Bool} {nc : Int} {a b : Bool} {s t : List Int} (h : RunV xs ys bs zs nc a s) (k : RunV xs ys bs zs nc b t) : a = b ∧ s = t := by
  rcases h with ⟨h1, h2, h3⟩ | ⟨h1, h2, h3⟩ <;> rcases k with ⟨k1, k2, k3⟩ | ⟨k1, k2, k3⟩
  · exact ⟨by rw [h2, k2], by rw [h3, k3]⟩
  · exact absurd h1 k1
  · exact absurd k1 h1
  · exact ⟨by rw [h2, k2], by rw [h3, k3]⟩
theorem RunV.len {xs ys bs : List Int} {zs : List Bool} {nc : Int} {a : Bool} {s : List Int} (h : RunV xs ys bs zs nc a s) (hb : bs.length ≤ 1048576) : s.length ≤ 1048577 := by
  rcases h with ⟨-, -, h3⟩ | ⟨-, -, h3⟩
  · rw [h3, trace_len]; omega
  · rw [h3]; simp

/-- The contract of a function that runs a table. -/
def RunsTable (f : FuncId) : Prop := ∀ (cl nx ac ln : Value) (xs ys bs : List Int) (zs : List Bool) (nc : Int) (w : World), SlAt mI 0 0 w.heap.size w cl xs → SlAt mI 0 0 w.heap.size w nx ys → SlAt mT false 0 w.heap.size w ac zs → SlAt mB 0 0 w.heap.size w ln bs →
  Bytes bs → bs.length ≤ 1048576 → In64 nc → xs.length ≤ 1048576 → ys.length ≤ 1048576 → zs.length ≤ 1048576 → (∀ i : Nat, In64 (xs[i]?.getD 0)) → (∀ i : Nat, In64 (ys[i]?.getD 0)) →
  Calls Try.prog f #[.agg #[cl, .int .i64 nc, nx, ac], ln] w fun e w' => ∃ acc tr v, RunV xs ys bs zs nc acc tr ∧ e = .returned (.tuple #[.bool acc, v]) ∧ SlW mI 0 w.heap.size w'.heap.size w' v tr ∧ Below w.heap.size w w'

theorem specRuns : RunsTable 19 := by
  intro cl nx ac ln xs ys bs zs nc w h1 h2 h3 h4 hbb hl _ _ _ _ _ _
  refine (specRun_any cl nx ac ln xs ys bs zs nc w h1 h2 h3 h4 hbb hl).mono ?_
  rintro e w' ⟨h | h, hb⟩
  · obtain ⟨h5, rfl⟩ := h
    exact ⟨false, [], _, Or.inr ⟨h5, rfl, rfl⟩, rfl, ⟨none, 0, rfl, by simp, by simp⟩, hb⟩
  · obtain ⟨h5, v, rfl, h6⟩ := h
    exact ⟨_, _, v, Or.inl ⟨h5, rfl, rfl⟩, rfl, h6, hb⟩

set_option maxHeartbeats 4000000 in
set_option maxRecDepth 100000 in
theorem lawRun_any (himpl : RunsTable 22) (cl nx ac ln : Value) (xs ys bs : List Int) (zs : List Bool) (nc : Int) (w : World) (h1 : SlAt mI 0 0 w.heap.size w cl xs) (h2 : SlAt mI 0 0 w.heap.size w nx ys) (h3 : SlAt mT false 0 w.heap.size w ac zs) (h4 : SlAt mB 0 0 w.heap.size w ln bs)
    (hbb : Bytes bs) (hnc : In64 nc) (hxs : ∀ i : Nat, In64 (xs[i]?.getD 0)) (hys : ∀ i : Nat, In64 (ys[i]?.getD 0)) :
    Calls Try.prog 5 #[.agg #[cl, .int .i64 nc, nx, ac], ln] w fun e w' => e = .returned (.bool true) ∧ Below w.heap.size w w' := by
  obtain ⟨a1, c1, rfl, l1, -⟩ := id h1
  obtain ⟨a2, c2, rfl, l2, -⟩ := id h2
  obtain ⟨a3, c3, rfl, l3, -⟩ := id h3
  obtain ⟨a4, c4, rfl, l4, -⟩ := id h4
  have l4' := l4
  unfold maxLen at l4'
  have HI := hide himpl
  have HX := hide hxs
  have HY := hide hys
  have HB := hide hbb
  have HN := hide hnc
  have H1 := hide h1
  have H2 := hide h2
  have H3 := hide h3
  have H4 := hide h4
  clear himpl hxs hys hbb hnc h1 h2 h3 h4
  by_cases hbig : 1048576 < bs.length
  · have hbig' : 1048576 < (bs.length : Int) := by omega
    go_enter Try.func5, Try.ntmps5
    go_wp2
    go_ret
    exact ⟨rfl, below1 w _⟩
  · have hbig' : ¬ 1048576 < (bs.length : Int) := by omega
    have hl4 : bs.length ≤ 1048576 := by omega
    go_enter Try.func5, Try.ntmps5
    go_wp2_with fail
    refine (szDFA_any _ _ _ _ _ _ _ _ _ nc _ l1 l2 l3).mono ?_
    rintro e w1 ⟨hq, hb1⟩
    have hz1 := hb1.size
    rw [sz_alloc] at hz1
    have hB1 : Below w.heap.size w w1 := (below1 w _).trans (hb1.mono (by rw [sz_alloc]; omega))
    have RA := hide ((Row4.new w 42 (.slice a1 xs.length c1) (.int .i64 nc) (.slice a2 ys.length c2) (.slice a3 zs.length c3)).below hb1 (by rw [sz_alloc]; omega))
    clear hb1
    rcases hq with rfl | ⟨hsum, r, hr0, rfl⟩
    · go_wp2
      go_ret
      exact ⟨rfl, hB1⟩
    · obtain ⟨k0, k1, k2, k3, -⟩ := (unhide RA).facts
      have m1 : xs.length ≤ 1048576 := by omega
      have m2 : ys.length ≤ 1048576 := by omega
      have m3 : zs.length ≤ 1048576 := by omega
      go_wp2_with fail
      refine (toDFA_any _ _ _ xs ys zs nc _ ((unhide H1).below hB1 (Nat.le_refl _)) ((unhide H2).below hB1 (Nat.le_refl _)) ((unhide H3).below hB1 (Nat.le_refl _)) m1 m2 m3).mono ?_
      rintro e w2 ⟨u1, u2, u3, s1, s2, rfl, o1, o2, o3, hu1, hu2, hu3, hb2⟩
      obtain ⟨b1, d1, rfl⟩ := hu1.val
      obtain ⟨b2, d2, rfl⟩ := hu2.val
      obtain ⟨b3, d3, rfl⟩ := hu3.val
      have hz2 := hb2.size
      have hB2 : Below w.heap.size w w2 := hB1.trans (hb2.mono (by omega))
      have Ra2 := hide ((unhide RA).below hb2 (by omega))
      have U1 := hide hu1
      have U2 := hide hu2
      have U3 := hide hu3
      clear hb2 hu1 hu2 hu3 k0 k1 k2 k3 RA
      go_wp2_with fail
      refine (toByteS_w _ bs _ ((unhide H4).below hB2 (Nat.le_refl _)) hl4).mono ?_
      rintro e w3 ⟨u4, rfl, hu4, hb3⟩
      obtain ⟨b4, d4, rfl⟩ := hu4.val
      have hz3 := hb3.size
      have hB3 : Below w.heap.size w w3 := hB2.trans (hb3.mono (by omega))
      have Ra3 := hide ((unhide Ra2).below hb3 (by omega))
      have V1 := hide ((unhide U1).keep hb3 (by omega))
      have V2 := hide ((unhide U2).keep hb3 (by omega))
      have V3 := hide ((unhide U3).keep hb3 (by omega))
      have V4 := hide hu4
      clear hb3 hu4 U1 U2 U3 Ra2
      go_wp2_with fail
      refine (specRuns _ _ _ _ xs ys bs zs nc _ ((unhide V1).all (by omega)) ((unhide V2).all (by omega)) ((unhide V3).all (by omega)) ((unhide V4).all (by omega)) (unhide HB) hl4 (unhide HN) m1 m2 m3 (unhide HX) (unhide HY)).mono ?_
      rintro e w4 ⟨acc, tr, vw, hrv, rfl, hvw, hb4⟩
      obtain ⟨aw, cw, rfl⟩ := hvw.val
      have hz4 := hb4.size
      have htl := hrv.len hl4
      have HRV := hide hrv
      have hB4 : Below w.heap.size w w4 := hB3.trans (hb4.mono (by omega))
      have ra4 := (unhide Ra3).below hb4 (by omega)
      have Ra4 := hide ra4
      have VW := hide hvw
      obtain ⟨k0, k1, k2, k3, -⟩ := ra4.facts
      clear hb4 hvw V1 V2 V3 V4 Ra3 ra4 hrv
      go_wp2_with fail
      refine (toDFA_any _ _ _ xs ys zs nc _ ((unhide H1).below hB4 (Nat.le_refl _)) ((unhide H2).below hB4 (Nat.le_refl _)) ((unhide H3).below hB4 (Nat.le_refl _)) m1 m2 m3).mono ?_
      rintro e w5 ⟨x1, x2, x3, t1, t2, rfl, p1, p2, p3, hx1, hx2, hx3, hb5⟩
      obtain ⟨e1, f1, rfl⟩ := hx1.val
      obtain ⟨e2, f2, rfl⟩ := hx2.val
      obtain ⟨e3, f3, rfl⟩ := hx3.val
      have hz5 := hb5.size
      have hB5 : Below w4.heap.size w4 w5 := hb5
      have X1 := hide hx1
      have X2 := hide hx2
      have X3 := hide hx3
      clear hb5 hx1 hx2 hx3 k0 k1 k2 k3
      go_wp2_with fail
      have hB5' : Below w4.heap.size w4 (w5.alloc (.cells #[.slice e1 xs.length f1, .int .i64 nc, .slice e2 ys.length f2, .slice e3 zs.length f3] 47)) := hB5.alloc (by omega) _
      refine (toByteS_w _ bs _ (by exact (unhide H4).below (hB4.trans (hB5'.mono (by omega))) (Nat.le_refl _)) hl4).mono ?_
      rintro e w6 ⟨x4, rfl, hx4, hb6⟩
      obtain ⟨e4, f4, rfl⟩ := hx4.val
      have hz6 := hb6.size
      rw [sz_alloc] at hz6
      have hB6 : Below w4.heap.size w4 w6 := hB5'.trans (hb6.mono (by rw [sz_alloc]; omega))
      have rx6 := (Row4.new w5 47 (.slice e1 xs.length f1) (.int .i64 nc) (.slice e2 ys.length f2) (.slice e3 zs.length f3)).below hb6 (by rw [sz_alloc]; omega)
      have Rx6 := hide rx6
      have Y1 := hide (((unhide X1).keep (below1 w5 (.cells #[.slice e1 xs.length f1, .int .i64 nc, .slice e2 ys.length f2, .slice e3 zs.length f3] 47)) (by omega)).keep hb6 (by rw [sz_alloc]; omega))
      have Y2 := hide (((unhide X2).keep (below1 w5 (.cells #[.slice e1 xs.length f1, .int .i64 nc, .slice e2 ys.length f2, .slice e3 zs.length f3] 47)) (by omega)).keep hb6 (by rw [sz_alloc]; omega))
      have Y3 := hide (((unhide X3).keep (below1 w5 (.cells #[.slice e1 xs.length f1, .int .i64 nc, .slice e2 ys.length f2, .slice e3 zs.length f3] 47)) (by omega)).keep hb6 (by rw [sz_alloc]; omega))
      have Y4 := hide (by rw [sz_alloc] at hx4; exact hx4)
      obtain ⟨k0, k1, k2, k3, -⟩ := rx6.facts
      clear hb6 hx4 X1 X2 X3 rx6 hB5 hB5'
      go_wp2_with fail
      refine ((unhide HI) _ _ _ _ xs ys bs zs nc _ ((unhide Y1).all (by omega)) ((unhide Y2).all (by omega)) ((unhide Y3).all (by omega)) ((unhide Y4).all (by omega)) (unhide HB) hl4 (unhide HN) m1 m2 m3 (unhide HX) (unhide HY)).mono ?_
      rintro e w7 ⟨acc', tr', vg, hrv', rfl, hvg, hb7⟩
      obtain ⟨rfl, rfl⟩ := RunV.uniq (unhide HRV) hrv'
      obtain ⟨ag, cg, rfl⟩ := hvg.val
      have hz7 := hb7.size
      have hB7 : Below w4.heap.size w4 w7 := hB6.trans (hb7.mono (by omega))
      have VW7 := hide ((unhide VW).keep hB7 (by omega))
      have VG := hide hvg
      have Rx7 := hide ((unhide Rx6).below hb7 (by omega))
      have Y1' := hide ((unhide Y1).keep hb7 (by omega))
      have Y2' := hide ((unhide Y2).keep hb7 (by omega))
      have Y3' := hide ((unhide Y3).keep hb7 (by omega))
      have Y4' := hide ((unhide Y4).keep hb7 (by omega))
      clear hb7 hvg hrv' k0 k1 k2 k3 Rx6 Y1 Y2 Y3 Y4 hB6
      have hbe : (acc != acc) = false := by cases acc <;> rfl
      go_wp2_with fail
      refine (eqIntS_w _ _ tr _ ((unhide VG).all (by omega)) ((unhide VW7).all (by omega))).mono ?_
      rintro e w7' ⟨rfl, n7, hw7⟩
      subst hw7
      have hB7' : Below w4.heap.size w4 (w7.drewN n7) := below_drewN hB7 n7
      obtain ⟨k0, k1, k2, k3, -⟩ := ((unhide Ra4).below hB7 (by omega)).facts
      obtain ⟨q0, q1, q2, q3, -⟩ := (unhide Rx7).facts
      have hW7 : Below w.heap.size w (w7.drewN n7) := hB4.trans (hB7'.mono (by omega))
      go_wp2_with fail
      go_region_with ((first | (go_at_call 20; refine (toDFA_any _ _ _ xs ys zs nc _ (by exact (unhide H1).below hW7.drew (Nat.le_refl _)) (by exact (unhide H2).below hW7.drew (Nat.le_refl _)) (by exact (unhide H3).below hW7.drew (Nat.le_refl _)) m1 m2 m3).mono ?_; rintro e w8 ⟨y1, y2, y3, r1, r2, rfl, j1, j2, j3, hy1, hy2, hy3, hb8⟩; have hb8' : Below w7.heap.size w7 w8 := ⟨hb8.os, hb8.tape, hb8.output, hb8.size, hb8.block⟩; clear hb8; obtain ⟨g1, h1, rfl⟩ := hy1.val; obtain ⟨g2, h2, rfl⟩ := hy2.val; obtain ⟨g3, h3, rfl⟩ := hy3.val; have hz8 := hb8'.size; have Z1 := hide (hy1.all (Nat.le_trans j2 j3)); have Z2 := hide (hy2.all j3); have Z3 := hide (hy3.all (Nat.le_refl _)); clear hy1 hy2 hy3; obtain ⟨p0, p1', p2', p3', -⟩ := ((unhide Rx7).below hb8' (by omega)).facts) | (go_at_call 24; refine (eqDFA_same _ _ _ _ _ _ xs ys zs nc _ (by exact ((unhide Y1').keep hb8' (by omega)).all (by omega)) (by exact ((unhide Y2').keep hb8' (by omega)).all (by omega)) (by exact ((unhide Y3').keep hb8' (by omega)).all (by omega)) (by exact unhide Z1) (by exact unhide Z2) (by exact unhide Z3)).mono ?_; rintro e w9 ⟨rfl, hb9⟩)))
      all_goals
        have hb7w9 : Below w7.heap.size w7 w9 := hb8'.trans (hb9.mono (by omega))
        have hz9 := hb7w9.size
        have hW9 : Below w.heap.size w w9 := hB4.trans ((hB7.trans (hb7w9.mono (by omega))).mono (by omega))
        clear hb8' hb9 Z1 Z2 Z3 k0 k1 k2 k3 q0 q1 q2 q3 p0 p1' p2' p3' hW7 hB7'
        go_wp2_with fail
        refine (toByteS_w _ bs _ ((unhide H4).below hW9 (Nat.le_refl _)) hl4).mono ?_
        rintro e w10 ⟨z4, rfl, hz4', hb10⟩
        obtain ⟨g4, h4, rfl⟩ := hz4'.val
        have hb7w10 : Below w7.heap.size w7 w10 := hb7w9.trans (hb10.mono (by omega))
        have hz10 := hb10.size
        have ZB := hide (hz4'.all (Nat.le_refl _))
        clear hz4' hb10
        go_wp2_with fail
        refine (eqByteS_w _ _ bs _ (((unhide Y4').keep hb7w10 (by omega)).all (by omega)) (unhide ZB)).mono ?_
        rintro e wA ⟨rfl, nA, hwA⟩
        have hb7wA : Below w7.heap.size w7 wA := by rw [hwA]; exact below_drewN hb7w10 nA
        have hzA : w10.heap.size = wA.heap.size := by rw [hwA]; rfl
        clear hwA ZB hb7w10 hb7w9 hW9
        obtain ⟨q0, q1, q2, q3, -⟩ := ((unhide Rx7).below hb7wA (by omega)).facts
        go_wp2_with fail
        refine (markDFA_any _ _ _ xs ys zs nc 1 w4.heap.size t1 t2 w5.heap.size _ ((unhide Y1').keep hb7wA (by omega)) ((unhide Y2').keep hb7wA (by omega)) ((unhide Y3').keep hb7wA (by omega)) m1 m2 m3 (by omega) (by omega) p1 p2 p3 (by omega)).mono ?_
        rintro e w11 ⟨rfl, -, -, -, hb11, hs11⟩
        have hz11 := hb11.size
        have Hs11 := hide hs11
        clear q0 q1 q2 q3 hs11
        go_wp2_with fail
        refine (markByteS_any _ bs _ (w5.heap.size + 1) w6.heap.size _ (((unhide Y4').keep hb7wA (by omega)).same ((unhide Hs11).mono (by omega) (by omega))) (by omega) (by omega) (by omega)).mono ?_
        rintro e w12 ⟨rfl, -, hc12⟩
        have hz12 := hc12.size
        have hS : SameB w6.heap.size w7.heap.size w7 w12 := ((SameB.of_below hb7wA (by omega)).trans ((unhide Hs11).mono (by omega) (by omega))).trans (SameB.of_chg hc12 (Or.inr (Nat.le_refl _)))
        have VG12 := hide ((unhide VG).same hS)
        have hB12 : Below w4.heap.size w4 w12 := ((hB7.trans (hb7wA.mono (by omega))).trans hb11).trans (hc12.below.mono (by omega))
        have VW12 := hide ((unhide VW).keep hB12 (by omega))
        clear hS hc12 hb11 Hs11 hb7wA
        go_wp2_with fail
        refine (eqIntS_w _ _ tr _ ((unhide VG12).all (by omega)) ((unhide VW12).all (by omega))).mono ?_
        rintro e wB ⟨rfl, nB, hwB⟩
        have hBB : Below w4.heap.size w4 wB := by rw [hwB]; exact below_drewN hB12 nB
        have VGB : SlW mI 0 w6.heap.size w7.heap.size wB (.slice ag tr.length cg) tr := by rw [hwB]; exact unhide VG12
        have hzB : w12.heap.size = wB.heap.size := by rw [hwB]; rfl
        have HVGB := hide VGB
        clear hwB VG12 VW12 VGB hB12
        go_wp2_with fail
        refine (markIntS_any _ tr 1 w6.heap.size w7.heap.size _ (unhide HVGB) (by omega) (by omega) (by omega)).mono ?_
        rintro e w13 ⟨rfl, hg13, hc13⟩
        have hz13 := hc13.size
        have hB13 : Below w4.heap.size w4 w13 := hBB.trans (hc13.below.mono (by omega))
        have HG13 := hide hg13.at
        clear hg13 hc13 HVGB hBB
        go_wp2_with fail
        refine (heldIntS_any _ tr.length 1 _ _ _ (unhide HG13) (by omega) (by omega) (by omega)).mono ?_
        rintro e wC ⟨rfl, hwC⟩
        subst hwC
        obtain ⟨k0, k1, k2, k3, -⟩ := ((unhide Ra4).below hB13 (by omega)).facts
        have hW13 : Below w.heap.size w wC := hB4.trans (hB13.mono (by omega))
        have VWC := hide ((unhide VW).keep hB13 (by omega))
        clear HG13
        go_wp2_with fail
        refine (toDFA_any _ _ _ xs ys zs nc _ ((unhide H1).below hW13 (Nat.le_refl _)) ((unhide H2).below hW13 (Nat.le_refl _)) ((unhide H3).below hW13 (Nat.le_refl _)) m1 m2 m3).mono ?_
        rintro e w14 ⟨v1, v2, v3, i1, i2, rfl, n1, n2, n3, hv1, hv2, hv3, hb14⟩
        obtain ⟨g1', h1', rfl⟩ := hv1.val
        obtain ⟨g2', h2', rfl⟩ := hv2.val
        obtain ⟨g3', h3', rfl⟩ := hv3.val
        have hz14 := hb14.size
        have hW14 : Below w.heap.size w w14 := hW13.trans (hb14.mono (by omega))
        have T1 := hide hv1
        have T2 := hide hv2
        have T3 := hide hv3
        have VWD := hide ((unhide VWC).keep hb14 (by omega))
        clear hv1 hv2 hv3 k0 k1 k2 k3 hb14 VWC
        go_wp2_with fail
        refine (toByteS_w _ bs _ ((unhide H4).below hW14 (Nat.le_refl _)) hl4).mono ?_
        rintro e w15 ⟨v4, rfl, hv4, hb15⟩
        obtain ⟨g4', h4', rfl⟩ := hv4.val
        have hz15 := hb15.size
        have hW15 : Below w.heap.size w w15 := hW14.trans (hb15.mono (by omega))
        have S1 := hide (((unhide T1).keep hb15 (by omega)).all (by omega))
        have S2 := hide (((unhide T2).keep hb15 (by omega)).all (by omega))
        have S3 := hide (((unhide T3).keep hb15 (by omega)).all (by omega))
        have S4 := hide (hv4.all (Nat.le_refl _))
        have VWE := hide ((unhide VWD).keep hb15 (by omega))
        clear hv4 hb15 T1 T2 T3 VWD
        go_wp2_with fail
        refine ((unhide HI) _ _ _ _ xs ys bs zs nc _ (unhide S1) (unhide S2) (unhide S3) (unhide S4) (unhide HB) hl4 (unhide HN) m1 m2 m3 (unhide HX) (unhide HY)).mono ?_
        rintro e w16 ⟨acc', tr', vh, hrv', rfl, hvh, hb16⟩
        obtain ⟨rfl, rfl⟩ := RunV.uniq (unhide HRV) hrv'
        obtain ⟨ah, ch, rfl⟩ := hvh.val
        have hz16 := hb16.size
        have hW16 : Below w.heap.size w w16 := hW15.trans (hb16.mono (by omega))
        have VH := hide (hvh.all (Nat.le_refl _))
        have VWF := hide (((unhide VWE).keep hb16 (by omega)).all (by omega))
        clear hvh hb16 hrv' VWE S1 S2 S3 S4
        go_wp2_with fail
        refine (eqIntS_w _ _ tr _ (unhide VH) (unhide VWF)).mono ?_
        rintro e wF ⟨rfl, nF, hwF⟩
        have hWF : Below w.heap.size w wF := by rw [hwF]; exact below_drewN hW16 nF
        clear hwF VH VWF
        go_wp2
        go_ret
        exact ⟨rfl, hWF⟩

end Go.Proofs.Ytgedhbnmejlmeaa
