import Derived.Test.YthgnefdefjannaaGreatIg1
namespace Go.Proofs.YthgnefdefjannaaGreat
open Go.RowKit

theorem l4bytes_big (v : Value) (xss : List (List Int)) (w : World) (hv : SsAt mB 0 w.heap.size w v xss) (hT : tot xss ≤ 16777216) (hL : xss.length ≤ 16777216) :
    Calls Tryz.prog 18 #[v] w fun e w' => e = .returned (.int .i64 (tot xss)) ∧ w' = w := by
  obtain ⟨a, cap, rfl, hl, hc⟩ := hv
  unfold maxLen at hl
  go_enter Tryz.func18, Tryz.ntmps18
  go_wp2
  go_loop [3, 4] (fun n i => ∃ k : Nat, k ≤ xss.length ∧ i = .int .i64 k ∧ n = .int .i64 (tot (xss.take k))) (fun _ i => xss.length - (intOf i).toNat)
  case atStart => exact ⟨0, Nat.zero_le _, rfl, by simp [tot]⟩
  case round =>
    obtain ⟨k, hk, rfl, rfl⟩ := hrel
    by_cases hlt : k < xss.length
    · obtain ⟨b, off, rfl, hbn, hcell⟩ := hc (by omega)
      obtain ⟨s, hx, hs, -⟩ := hcell k hlt
      obtain ⟨sa, sc, rfl, hsl, -⟩ := hs
      have hlt' : (k : Int) < (xss.length : Int) := by omega
      have HB := hide (tot_step xss k hlt)
      have ht := tot_take xss k
      have ht2 := tot_get xss k
      have ht3 := tot_take xss (k + 1)
      clear hcell hc
      generalize xss[k]?.getD [] = x at *
      go_wp2
      go_round
      case rel => exact ⟨k + 1, by omega, by go_num, by rw [unhide HB]; simp⟩
      case measure => simp [intOf]; omega
    · obtain rfl : k = xss.length := by omega
      go_wp2
      go_ret
      exact ⟨rfl, rfl⟩

theorem SsAt.monoN {N N' : Nat} {w : World} {v : Value} {xss : List (List Int)} (h : SsAt mB 0 N w v xss) (hN : N ≤ N') : SsAt mB 0 N' w v xss := by
  obtain ⟨a, cap, rfl, hl, hc⟩ := h
  refine ⟨a, cap, rfl, hl, fun hp => ?_⟩
  obtain ⟨b, off, rfl, h1, h2⟩ := hc hp
  refine ⟨b, off, rfl, by omega, fun i hi => ?_⟩
  obtain ⟨s, h3, h4, h5⟩ := h2 i hi
  exact ⟨s, h3, h4.mono (Nat.le_refl _) hN, h5⟩

set_option maxHeartbeats 16000000 in
set_option maxRecDepth 100000 in
theorem specIngest_any (v tv : Value) (bss oss : List (List Int)) (bs : List Int) (w : World) (hv : StRd w v bss oss) (hby : ∀ x ∈ bss, Bytes x) (t1 : tot bss ≤ 1048576) (l1 : bss.length ≤ 1048576) (t2 : tot oss ≤ 1048576) (l2 : oss.length ≤ 1048576) (htv : SlAt mB 0 0 w.heap.size w tv bs) (hl : bs.length ≤ 1048576) :
    Calls Tryz.prog 5 #[v, tv] w fun e w' => StWant e w' (IngIs bss oss (lns bs)) ∧ Below w.heap.size w w' := by
  have HV := hide hv
  have HB := hide hby
  have HTV := hide htv
  obtain ⟨ta, tc, rfl, -, -⟩ := htv
  obtain ⟨sv, ov, rfl, u1, u2⟩ := hv
  have U2 := hide u2
  obtain ⟨a1, c1, rfl, -⟩ := id u1
  obtain ⟨a2, c2, rfl, -⟩ := id u2
  clear u1 u2 hby
  have hb0 := below2 w (.cells #[.slice a1 bss.length c1, .slice a2 oss.length c2] 25) (.cells #[.slice none 0 0, .slice none 0 0] 25)
  have RA := (Row2.new w 25 (.slice a1 bss.length c1) (.slice a2 oss.length c2)).alloc (.cells #[.slice none 0 0, .slice none 0 0] 25)
  have RR := Row2.new (w.alloc (.cells #[.slice a1 bss.length c1, .slice a2 oss.length c2] 25)) 25 (.slice none 0 0) (.slice none 0 0)
  rw [sz_alloc] at RR
  have hzV : ((w.alloc (.cells #[.slice a1 bss.length c1, .slice a2 oss.length c2] 25)).alloc (.cells #[.slice none 0 0, .slice none 0 0] 25)).heap.size = w.heap.size + 2 := by simp
  have hql' : (lns bs).length ≤ 1048576 := by have := lns_len bs; omega
  have hqt : tot (lns bs) ≤ 1048576 := by have := lns_tot bs; omega
  obtain ⟨R, hR⟩ : ∃ R, lns bs = R := ⟨_, rfl⟩
  rw [hR] at hql' hqt ⊢
  have HRE := hide hR
  clear hR
  go_enter Tryz.func5, Tryz.ntmps5
  go_wp2_with fail
  generalize (w.alloc (.cells #[.slice a1 bss.length c1, .slice a2 oss.length c2] 25)).alloc (.cells #[.slice none 0 0, .slice none 0 0] 25) = V at *
  have hVz : w.heap.size + 2 ≤ V.heap.size := by omega
  have HRA := hide RA
  have HRR := hide RR
  clear hzV RA RR
  refine (l5segs_any _ bss oss V ((unhide HV).below hb0 (Nat.le_refl _)) (unhide HB) t1 l1 t2 l2).mono ?_
  rintro e w1 ⟨hg, hb1⟩
  have hz1' := hb1.size
  have hB1 : Below w.heap.size w w1 := hb0.trans (hb1.mono (by omega))
  have RA1 := hide ((unhide HRA).below hb1 (by omega))
  have RR1 := hide ((unhide HRR).below hb1 (by omega))
  clear HRA HRR hb0 hb1
  rcases hg with ⟨sv, ss, rfl, hst, hrow⟩ | ⟨rfl, hst⟩
  · have HST := hide hst
    have HSG := hide hrow
    obtain ⟨ga, gc, rfl⟩ := hrow.form
    obtain ⟨-, -, s3, s4, s5, -⟩ := stO_all hst (unhide HB)
    rw [List.length_map] at s3
    have hss : ss.length ≤ 1000 := by omega
    clear hst hrow
    obtain ⟨nl, hnl⟩ : ∃ nl, nL (ss.map Sv.g) = nl := ⟨_, rfl⟩
    obtain ⟨nb, hnb⟩ : ∃ nb, nB (ss.map Sv.g) = nb := ⟨_, rfl⟩
    rw [hnl] at s3 s4
    rw [hnb] at s5
    have HNL := hide hnl
    have HNB := hide hnb
    clear hnl hnb
    obtain ⟨f0, f1, -⟩ := (unhide RA1).facts4
    go_wp2_with fail
    refine (specSplit_any _ bs w1 ((unhide HTV).below hB1 (Nat.le_refl _)) hl).mono ?_
    rintro e w2 ⟨lv, qs, rfl, hqs, hlq, hb2⟩
    rw [unhide HRE] at hqs
    have hz2' := hb2.size
    have hB2 : Below w.heap.size w w2 := hB1.trans (hb2.mono (by omega))
    have RA2 := hide ((unhide RA1).below hb2 (by omega))
    have RR2 := hide ((unhide RR1).below hb2 (by omega))
    have HSG2 := hide ((unhide HSG).keep hb2 (Nat.le_refl _))
    have HQS := hide hqs
    have HLQ := hide hlq
    have hql : qs.length ≤ R.length := by rw [← hqs, List.length_map]; exact Nat.le_refl _
    have HSS : Hid (SsAt mB 0 w2.heap.size w2 lv R) := by rw [← hqs]; exact (LB.footR hlq).all (Nat.le_refl _)
    obtain ⟨la, lc, rfl⟩ := own_is hlq.own
    clear hqs hlq RA1 RR1 HSG f0 f1
    go_wp2_with fail
    refine (l5flat_any _ _ ss w2 (unhide HSG2) (by rw [unhide HNL]; omega) hss).mono ?_
    rintro e w3 ⟨⟨v3, vs, rfl, hown3, hln3⟩, hb3⟩
    have hz3' := hb3.size
    have hvl : vs.length = nl := by rw [hln3.1, flat_len]; exact unhide HNL
    have hvl' : vs.length ≤ 1000 := by omega
    have Hown3 := hide hown3
    have Hln3 := hide hln3
    have hB3 : Below w.heap.size w w3 := hB2.trans (hb3.mono (by omega))
    have RA3 := hide ((unhide RA2).below hb3 (by omega))
    obtain ⟨oa3, oc3, rfl⟩ := own_is hown3
    obtain ⟨f0, f1, -⟩ := (unhide RA3).facts4
    have HO3 : Hid (SsAt mB 0 w2.heap.size w3 (.slice a2 oss.length c2) oss) := ((unhide U2).below hB2 (Nat.le_refl _)).under hb3 (Nat.le_refl _)
    have HSS3 := hide ((unhide HSS).under hb3 (Nat.le_refl _))
    have HVL := hide hvl
    clear hown3 hln3 hvl
    go_wp2_with (at_builtin; refine app_lines w2.heap.size w2.heap.size rfl _ _ rfl _ vs _ rfl (unhide Hown3) (unhide Hln3) _ oss rfl (unhide HO3) (by omega) hz3' (Nat.le_refl _) ?_)
    intro v4 w4 vs4 r1 r2 hb4
    have R14 := hide r1
    have R24 := hide r2
    have hv4 : vs4.length = nl + oss.length := by rw [r2.1, List.length_append, flat_len, unhide HNL]
    have hv4' : vs4.length ≤ 1000 := by omega
    have hz4' := hb4.size
    have HSS4 := hide ((unhide HSS3).under hb4 (Nat.le_refl _))
    obtain ⟨oa4, oc4, rfl⟩ := own_is r1
    have HV4 := hide hv4
    clear r1 r2 hv4 f0 f1
    go_wp2_with (at_builtin; refine app_lines w2.heap.size w2.heap.size rfl _ _ rfl _ vs4 _ rfl (unhide R14) (unhide R24) _ R rfl (unhide HSS4) (by omega) (by omega) (Nat.le_refl _) ?_)
    intro v5 w5 vs5 r1 r2 hb5
    obtain ⟨AL, hAL⟩ : ∃ AL, flat (ss.map Sv.g) ++ oss ++ R = AL := ⟨_, rfl⟩
    have r2' : LnV w2.heap.size w5 vs5 AL := by rw [← hAL]; simpa [List.append_assoc] using r2
    have hll5 : AL.length = nl + oss.length + R.length := by rw [← hAL, List.length_append, List.length_append, flat_len, unhide HNL]
    have htt : tot AL = nb + tot oss + tot R := by rw [← hAL, tot_app, tot_app, flat_tot, unhide HNB]
    have hv5 : vs5.length = nl + oss.length + R.length := by rw [r2'.1]; exact hll5
    clear hAL r2
    have hz5' := hb5.size
    have ha5 := r2'.ss r1 (by omega)
    have HTT := hide htt
    have HLL5 := hide hll5
    obtain ⟨oa5, oc5, rfl⟩ := own_is r1
    rw [hv5] at ha5
    have HA5' := hide ha5
    clear ha5
    have hB35 : Below w2.heap.size w3 w5 := hb4.trans hb5
    have hB25 : Below w2.heap.size w2 w5 := hb3.trans hB35
    have hB5 : Below w.heap.size w w5 := hB2.trans (hB25.mono (by omega))
    have RA5 := hide ((unhide RA2).below hB25 (by omega))
    have RR5 := hide ((unhide RR2).below hB25 (by omega))
    have HLQ5 := hide ((unhide HLQ).keep hB25 (Nat.le_refl _))
    have HFIT : Hid (IngFit (ss.map Sv.g) oss R ↔ nl + oss.length + R.length ≤ 1000 ∧ nb + tot oss + tot R ≤ 20000) := by show IngFit _ _ _ ↔ _; unfold IngFit; rw [unhide HNL, unhide HNB]
    rw [hv5]
    clear r1 r2' htt hll5 hv5
    obtain ⟨f0, f1, -⟩ := (unhide RA5).facts4
    by_cases h1 : 1000 < nl + oss.length + R.length
    · have HN : Hid (¬ IngFit (ss.map Sv.g) oss R) := fun h => by have := (unhide HFIT).1 h; omega
      have h1' : (1000 : Int) < ((nl + oss.length + R.length : Nat) : Int) := by omega
      go_wp2_with fail
      refine (l5copy_any _ bss oss w5 ((unhide HV).below hB5 (Nat.le_refl _)) t1 l1 t2 l2).mono ?_
      rintro e w6 ⟨⟨cv, ov, ps, rs, m, rfl, hps, hrs, hl1, -, hl2, hm1, hm2⟩, hb6⟩
      have hz6' := hb6.size
      have HP1 : Hid (SsAt mB 0 w6.heap.size w6 cv bss) := by rw [← hps]; exact (LB.footR hl1).all (Nat.le_refl _)
      have HP2 : Hid (SsAt mB 0 w6.heap.size w6 ov oss) := by rw [← hrs]; exact (LB.footR hl2).all (Nat.le_refl _)
      have HQ1 := hide hl1
      have HQ2 := hide hl2
      have HE1 := hide hps
      have HE2 := hide hrs
      have RR6 := hide ((unhide RR5).below hb6 (by omega))
      obtain ⟨p1, k1, rfl⟩ := own_is hl1.own
      obtain ⟨p2, k2, rfl⟩ := own_is hl2.own
      obtain ⟨r0, r1, r2, r3⟩ := (unhide RR6).facts4
      have hB6 : Below w.heap.size w w6 := hB5.trans (hb6.mono (by omega))
      clear hl1 hl2 hps hrs
      go_wp2_with fail
      obtain ⟨e0, e1, -⟩ := (((unhide RR6).put0 (u := .slice p1 ps.length k1)).put1 (u := .slice p2 rs.length k2)).facts4
      refine bodyPost_ret (v := .tuple #[.agg #[.slice p1 ps.length k1, .slice p2 rs.length k2], .int .i64 6]) (by simp [results, Tryz.results5, go_sem, e0, e1]) rfl ⟨⟨_, bss, oss, 6, rfl, Or.inr (Or.inr ⟨_, unhide HST, unhide HN, rfl, rfl, rfl⟩), _, _, rfl, ?_, ?_⟩, bput2 hB6 (by omega) _ _⟩
      · have h2 := (LB.footR (((unhide HQ1).putlo (B := w.heap.size + 1) (o := 0) (u := .slice p1 ps.length k1) (by omega)).putlo (B := w.heap.size + 1) (o := 1) (u := .slice p2 rs.length k2) (by omega))).all (Nat.le_refl _)
        rw [unhide HE1] at h2
        exact h2
      · have h2 := (LB.footR (((unhide HQ2).putlo (B := w.heap.size + 1) (o := 0) (u := .slice p1 ps.length k1) (by omega)).putlo (B := w.heap.size + 1) (o := 1) (u := .slice p2 rs.length k2) (by omega))).all (Nat.le_refl _)
        rw [unhide HE2] at h2
        exact h2
    · have h1' : ¬ (1000 : Int) < ((nl + oss.length + R.length : Nat) : Int) := by omega
      go_wp2_with fail
      refine (l4bytes_big _ AL w5 (unhide HA5') (by rw [unhide HTT]; omega) (by rw [unhide HLL5]; omega)).mono ?_
      rintro e w6 ⟨rfl, hw6⟩
      rw [hw6, unhide HTT]
      clear hw6 w6
      by_cases h2 : 20000 < nb + tot oss + tot R
      · have HN : Hid (¬ IngFit (ss.map Sv.g) oss R) := fun h => by have := (unhide HFIT).1 h; omega
        have h2' : (20000 : Int) < ((nb + tot oss + tot R : Nat) : Int) := by omega
        go_wp2_with fail
        refine (l5copy_any _ bss oss w5 ((unhide HV).below hB5 (Nat.le_refl _)) t1 l1 t2 l2).mono ?_
        rintro e w6 ⟨⟨cv, ov, ps, rs, m, rfl, hps, hrs, hl1, -, hl2, hm1, hm2⟩, hb6⟩
        have hz6' := hb6.size
        have HQ1 := hide hl1
        have HQ2 := hide hl2
        have HE1 := hide hps
        have HE2 := hide hrs
        have RR6 := hide ((unhide RR5).below hb6 (by omega))
        obtain ⟨p1, k1, rfl⟩ := own_is hl1.own
        obtain ⟨p2, k2, rfl⟩ := own_is hl2.own
        obtain ⟨r0, r1, r2, r3⟩ := (unhide RR6).facts4
        have hB6 : Below w.heap.size w w6 := hB5.trans (hb6.mono (by omega))
        clear hl1 hl2 hps hrs
        go_wp2_with fail
        obtain ⟨e0, e1, -⟩ := (((unhide RR6).put0 (u := .slice p1 ps.length k1)).put1 (u := .slice p2 rs.length k2)).facts4
        refine bodyPost_ret (v := .tuple #[.agg #[.slice p1 ps.length k1, .slice p2 rs.length k2], .int .i64 6]) (by simp [results, Tryz.results5, go_sem, e0, e1]) rfl ⟨⟨_, bss, oss, 6, rfl, Or.inr (Or.inr ⟨_, unhide HST, unhide HN, rfl, rfl, rfl⟩), _, _, rfl, ?_, ?_⟩, bput2 hB6 (by omega) _ _⟩
        · have h2 := (LB.footR (((unhide HQ1).putlo (B := w.heap.size + 1) (o := 0) (u := .slice p1 ps.length k1) (by omega)).putlo (B := w.heap.size + 1) (o := 1) (u := .slice p2 rs.length k2) (by omega))).all (Nat.le_refl _)
          rw [unhide HE1] at h2
          exact h2
        · have h2 := (LB.footR (((unhide HQ2).putlo (B := w.heap.size + 1) (o := 0) (u := .slice p1 ps.length k1) (by omega)).putlo (B := w.heap.size + 1) (o := 1) (u := .slice p2 rs.length k2) (by omega))).all (Nat.le_refl _)
          rw [unhide HE2] at h2
          exact h2
      · have HY : Hid (IngFit (ss.map Sv.g) oss R) := (unhide HFIT).2 ⟨by omega, by omega⟩
        have h2' : ¬ (20000 : Int) < ((nb + tot oss + tot R : Nat) : Int) := by omega
        go_wp2_with fail
        refine (l5copy_any _ bss oss w5 ((unhide HV).below hB5 (Nat.le_refl _)) t1 l1 t2 l2).mono ?_
        rintro e w6 ⟨⟨cv, ov, ps, rs, m, rfl, hps, hrs, hl1, hF1, hl2, hm1, hm2⟩, hb6⟩
        have hz6' := hb6.size
        have HF1 := hide hF1
        have HQ2 := hide hl2
        have HE2 := hide hrs
        have RR6 := hide ((unhide RR5).below hb6 (by omega))
        have HLQ6 := hide ((unhide HLQ5).keep hb6 (Nat.le_refl _))
        have hpl : ps.length ≤ 1048576 := by have := congrArg List.length hps; rw [List.length_map] at this; omega
        have hrl : rs.length ≤ 1000 := by have := congrArg List.length hrs; rw [List.length_map] at this; omega
        obtain ⟨p1, k1, rfl⟩ := own_is hl1.own
        obtain ⟨p2, k2, rfl⟩ := own_is hl2.own
        have hB6 : Below w.heap.size w w6 := hB5.trans (hb6.mono (by omega))
        have RO := Row2.new w6 25 (.slice p1 ps.length k1) (.slice p2 rs.length k2)
        have hV6 := below1 w6 (.cells #[.slice p1 ps.length k1, .slice p2 rs.length k2] 25)
        have hzV6 : (w6.alloc (.cells #[.slice p1 ps.length k1, .slice p2 rs.length k2] 25)).heap.size = w6.heap.size + 1 := sz_alloc _ _
        obtain ⟨o0, o1, x0, x1⟩ := RO.facts4
        clear hl1 hl2 hps hrs hF1
        have HAP : Hid (∀ p ∈ rs, ∀ q ∈ qs, 0 < p.xs.length → 0 < q.xs.length → p.b ≠ q.b) := fun p hp q hq h0 h1 e => by have h2 := (unhide HQ2).lo p hp h0; have h3 := ((unhide HLQ).ok q hq).lt h1; omega
        have HQ6 := hide (((unhide HQ2).keep hV6 (Nat.le_refl _)).low (lo := w1.heap.size) (by omega))
        have HLQ7 := hide ((unhide HLQ6).keep hV6 (Nat.le_refl _))
        go_upto_region 11 with fail
        generalize w6.alloc (.cells #[.slice p1 ps.length k1, .slice p2 rs.length k2] 25) = V6 at *
        have hzV6' : w6.heap.size + 1 ≤ V6.heap.size := by omega
        have HRO := hide RO
        clear hzV6 RO
        go_wp2_with (at_builtin; refine app_all w1.heap.size rfl _ _ rfl _ _ rs qs rfl (unhide HQ6) rfl (unhide HLQ7) (unhide HAP) (by omega) (by omega) ?_)
        intro v7 w7 h7 hg7
        have H7 := hide h7
        have hgz := hg7.size
        have HO7 : Hid (Row2 w7 w6.heap.size 25 (.slice p1 ps.length k1) (.slice p2 rs.length k2)) := World.rowIs.of_block (unhide HRO) (hg7.block _ (by omega) (fun e => by have := ((unhide HQ2).own.lt _ e.symm).2; omega))
        have hB7 : Below m V6 w7 := (Below.refl m V6).grown hg7 (by omega) (fun j hj => ((unhide HQ2).own.lt j hj).1)
        have RR7 := hide ((((unhide RR6).below hV6 (by omega)).below hB7 (by omega)).other (b' := w6.heap.size) (o := 1) (u := v7) (by omega))
        have HF7 := hide ((((unhide HF1).keep hV6 (by omega)).keep hB7 (Nat.le_refl _)))
        obtain ⟨d0, d1, z0, z1⟩ := (unhide HO7).facts4
        obtain ⟨r0, r1, r2, r3⟩ := (unhide RR7).facts4
        have RO7 := hide ((unhide HO7).put1 (u := v7))
        obtain ⟨o0', o1', -⟩ := (unhide RO7).facts4
        obtain ⟨va, vc, hva⟩ := own_is h7.own
        obtain ⟨n7, hn7⟩ : ∃ n7, (rs ++ qs).length = n7 := ⟨_, rfl⟩
        rw [hn7] at hva
        clear hn7
        obtain ⟨e0, e1, -⟩ := (((unhide RR7).put0 (u := .slice p1 ps.length k1)).put1 (u := v7)).facts4
        have hBw7 : Below w.heap.size w w7 := hB6.trans (((hV6.mono hm2).trans hB7).mono (by omega))
        clear h7 hg7 o0 o1 x0 x1
        subst hva
        go_wp2_with fail
        refine bodyPost_ret (v := .tuple #[.agg #[.slice p1 ps.length k1, .slice va n7 vc], .int .i64 0]) (by simp [results, Tryz.results5, go_sem, e0, e1]) rfl ⟨⟨_, bss, oss ++ R, 0, rfl, Or.inr (Or.inl ⟨_, unhide HST, unhide HY, rfl, rfl, rfl⟩), _, _, rfl, ?_, ?_⟩, bput2 (bput hBw7 (by omega) _) (by omega) _ _⟩
        · have q1 := ((((unhide HF7).putR (b := w6.heap.size) (o := 1) (u := .slice va n7 vc) (Or.inr (by omega))).putR (b := w.heap.size + 1) (o := 0) (u := .slice p1 ps.length k1) (Or.inl (by omega))).putR (b := w.heap.size + 1) (o := 1) (u := .slice va n7 vc) (Or.inl (by omega)))
          exact q1.all (by simp only [sz_put]; omega)
        · have q1 := ((((unhide H7).putty (B := w6.heap.size) (o := 1) (u := .slice va n7 vc) (unhide HO7) (by decide) (by decide)).putlo (B := w.heap.size + 1) (o := 0) (u := .slice p1 ps.length k1) (by omega)).putlo (B := w.heap.size + 1) (o := 1) (u := .slice va n7 vc) (by omega))
          have q2 := (LB.footR q1).all (Nat.le_refl _)
          rw [List.map_append, unhide HE2, unhide HQS] at q2
          exact q2
  · have HST := hide hst
    obtain ⟨r0, r1, r2, r3⟩ := (unhide RR1).facts4
    clear hst
    go_wp2_with fail
    obtain ⟨e0, e1, -⟩ := (((unhide RR1).put0 (u := .slice none 0 0)).put1 (u := .slice none 0 0)).facts4
    exact bodyPost_ret (v := .tuple #[.agg #[.slice none 0 0, .slice none 0 0], .int .i64 4]) (by simp [results, Tryz.results5, go_sem, e0, e1]) rfl ⟨⟨_, [], [], 4, rfl, Or.inl ⟨unhide HST, rfl, rfl, rfl⟩, (StF.zero 0 0 _).rd (Nat.zero_le _)⟩, bput2 hB1 (by omega) _ _⟩

end Go.Proofs.YthgnefdefjannaaGreat
