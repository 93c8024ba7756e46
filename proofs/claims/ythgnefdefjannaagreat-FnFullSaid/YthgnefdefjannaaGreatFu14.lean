import Derived.Test.YthgnefdefjannaaGreatFu13
namespace Go.Proofs.YthgnefdefjannaaGreat
open Go.RowKit

set_option maxHeartbeats 16000000 in
set_option maxRecDepth 100000 in
theorem lawFull_any (code : List Int) (v : Value) (w : World) (hv : SlAt mB 0 0 w.heap.size w v code) (hcap : CapOk v) (hbb : Bytes code) :
    Calls Tryz.prog 3 #[v] w fun e w' => e = .returned (.bool true) ∧ Below w.heap.size w w' := by
  obtain ⟨B, O, T, hok, ⟨hTb, hTl⟩, hdraw⟩ := drawIngest_ex code (fun x hx => bytes_mem hbb x hx)
  have HV := hide hv
  have HCAP := hide hcap
  have HOK := hide hok
  have HTB := hide hTb
  have HDR := hide hdraw
  obtain ⟨a, cap, rfl, -, -⟩ := hv
  obtain ⟨hB, hO, t1, l1, t2, l2⟩ := id hok
  clear hcap hbb hok hTb hdraw hB hO
  by_cases hbig : code.length ≤ 1048576
  · have hbig' : ¬ (1048576 : Int) < (code.length : Int) := by omega
    have hlt := lns_len T
    have hlt2 := lns_tot T
    obtain ⟨LS, hLS⟩ : ∃ LS, lns T = LS := ⟨_, rfl⟩
    rw [hLS] at hlt hlt2
    have HLS := hide hLS
    clear hLS
    go_enter Tryz.func3, Tryz.ntmps3
    go_wp2_with fail
    refine (unhide HDR _ w (unhide HV) (unhide HCAP)).mono ?_
    rintro e w1 ⟨⟨v1, tv1, rfl, hs1, ht1, hcp1⟩, hb1⟩
    have hz1 := hb1.size
    have HS1 := hide hs1
    have HT1 := hide ht1
    obtain ⟨a1, c1, a2, c2, rfl⟩ := hs1.rd.val
    have HOVL : Hid (∀ k, (Value.slice a2 O.length c2).ownBlock = some k → k < w1.heap.size) := fun k hk => by
      obtain ⟨sv, ov, S, qs, e, -, h2, -⟩ := hs1
      simp only [Value.agg.injEq, Array.mk.injEq, List.cons.injEq, and_true] at e
      obtain ⟨-, rfl⟩ := e
      exact (h2.own.lt k hk).2
    obtain ⟨ta, tc, rfl, -⟩ := id ht1
    have hV1 := below1 w1 (.cells #[.slice a1 B.length c1, .slice a2 O.length c2] 25)
    have RA := Row2.new w1 25 (.slice a1 B.length c1) (.slice a2 O.length c2)
    have hzV1 : (w1.alloc (.cells #[.slice a1 B.length c1, .slice a2 O.length c2] 25)).heap.size = w1.heap.size + 1 := sz_alloc _ _
    obtain ⟨x0, x1, -⟩ := RA.facts4
    clear hs1 ht1 hcp1
    go_wp2_with fail
    generalize w1.alloc (.cells #[.slice a1 B.length c1, .slice a2 O.length c2] 25) = V1 at *
    have hVz1 : w1.heap.size + 1 ≤ V1.heap.size := by omega
    clear hzV1
    refine (specIngest_any _ _ B O T V1 ((unhide HS1).rd.below hV1 (Nat.le_refl _)) (unhide HOK).b t1 l1 t2 l2 ((unhide HT1).below hV1 (Nat.le_refl _)) hTl).mono ?_
    rintro e w2 ⟨⟨vw, bw, ow, cw, rfl, hIs, hrw⟩, hb2⟩
    rw [unhide HLS] at hIs
    have hz2 := hb2.size
    have HIS := hide hIs
    obtain ⟨p1, q1, p2, q2, rfl⟩ := hrw.val
    have hV2 := below1 w2 (.cells #[.slice p1 bw.length q1, .slice p2 ow.length q2] 25)
    have hzV2 : (w2.alloc (.cells #[.slice p1 bw.length q1, .slice p2 ow.length q2] 25)).heap.size = w2.heap.size + 1 := sz_alloc _ _
    clear hrw hIs x0 x1
    go_wp2_with fail
    generalize w2.alloc (.cells #[.slice p1 bw.length q1, .slice p2 ow.length q2] 25) = V2 at *
    have hVz2 : w2.heap.size + 1 ≤ V2.heap.size := by omega
    have hB12 : Below V1.heap.size V1 V2 := hb2.trans (hV2.mono (by omega))
    have hBw2 : Below w.heap.size w V2 := (hb1.trans (hV1.mono (by omega))).trans (hB12.mono (by omega))
    clear hzV2 hb2 hV2
    refine (unhide HDR _ V2 ((unhide HV).below hBw2 (Nat.le_refl _)) (unhide HCAP)).mono ?_
    rintro e w3 ⟨⟨v3, tv3, rfl, hs3, ht3, hcp3⟩, hb3⟩
    have hz3 := hb3.size
    have HS3 := hide hs3.rd
    have HT3 := hide ht3
    have HC3 := hide hcp3
    obtain ⟨b1, d1, b2, d2, rfl⟩ := hs3.rd.val
    obtain ⟨tb, td, rfl, -⟩ := id ht3
    have hV3 := below1 w3 (.cells #[.slice b1 B.length d1, .slice b2 O.length d2] 25)
    have RC := Row2.new w3 25 (.slice b1 B.length d1) (.slice b2 O.length d2)
    have hzV3 : (w3.alloc (.cells #[.slice b1 B.length d1, .slice b2 O.length d2] 25)).heap.size = w3.heap.size + 1 := sz_alloc _ _
    obtain ⟨x0, x1, -⟩ := RC.facts4
    clear hs3 ht3 hcp3
    go_wp2_with fail
    generalize w3.alloc (.cells #[.slice b1 B.length d1, .slice b2 O.length d2] 25) = V3 at *
    have hVz3 : w3.heap.size + 1 ≤ V3.heap.size := by omega
    clear hzV3
    refine (implIngest_any _ _ B O T V3 ((unhide HS3).below hV3 (Nat.le_refl _)) (unhide HOK).b (unhide HOK).o t1 l1 t2 l2 ((unhide HT3).below hV3 (Nat.le_refl _)) (unhide HC3) (unhide HTB) hTl).mono ?_
    rintro e w4 ⟨⟨vg, bg, og, cg, rfl, hIg, hFg⟩, hb4⟩
    rw [unhide HLS] at hIg
    obtain ⟨rfl, rfl, rfl⟩ := (unhide HIS).uniq hIg
    have hz4 := hb4.size
    have hRg := hFg.rd (Nat.le_refl _)
    have HFG := hide hFg
    obtain ⟨g1, h1, g2, h2, rfl⟩ := hRg.val
    have HRG := hide hRg
    have hV4 := below1 w4 (.cells #[.slice g1 bw.length h1, .slice g2 ow.length h2] 25)
    have RG := Row2.new w4 25 (.slice g1 bw.length h1) (.slice g2 ow.length h2)
    have hzV4 : (w4.alloc (.cells #[.slice g1 bw.length h1, .slice g2 ow.length h2] 25)).heap.size = w4.heap.size + 1 := sz_alloc _ _
    have hB24 : Below V2.heap.size V2 w4 := (hb3.trans (hV3.mono (by omega))).trans (hb4.mono (by omega))
    have hBV : Below V1.heap.size V1 (w4.alloc (.cells #[.slice g1 bw.length h1, .slice g2 ow.length h2] 25)) := (hB12.trans (hB24.mono (by omega))).trans (hV4.mono (by omega))
    have hcc : (cw != cw) = false := by simp
    clear hFg hIg hRg hb3 hV3 hb4 RC x0 x1
    obtain ⟨V4, hV4e⟩ : ∃ V4, V4 = w4.alloc (.cells #[.slice g1 bw.length h1, .slice g2 ow.length h2] 25) := ⟨_, rfl⟩
    rw [← hV4e] at hV4 RG hzV4 hBV
    have HV4E := hide hV4e
    clear hV4e
    have hVz4 : w4.heap.size + 1 ≤ V4.heap.size := by omega
    have HRG4 := hide ((unhide HRG).below hV4 (Nat.le_refl _))
    have HSD4 := hide (((unhide HS1).keep hV1 (Nat.le_refl _)).keep hBV (Nat.le_refl _))
    have HT4 := hide (((unhide HT1).below hV1 (Nat.le_refl _)).below hBV (Nat.le_refl _))
    have RA4 := hide (RA.below hBV (by omega))
    have hBw4 : Below w.heap.size w V4 := (hb1.trans (hV1.mono (by omega))).trans (hBV.mono (by omega))
    have HFG4 := hide ((unhide HFG).keep hV4 (Nat.le_refl _))
    clear hzV4 hV4 hBV hB24 RA hV1 HS1 HT1 HRG HFG
    rcases unhide HIS with ⟨hs0, rfl, rfl, rfl⟩ | ⟨gs, hs0, hfit, rfl, how, rfl⟩ | ⟨gs, hs0, hfit, rfl, rfl, rfl⟩
    · clear hs0 HIS
      go_wp2
      go_ret
      rw [unhide HV4E] at hBw4
      exact ⟨rfl, hBw4⟩
    · have HOW := hide how
      have hol : ow.length ≤ 1000 := by rw [how, List.length_append]; have := hfit.1; omega
      clear hs0 hfit HIS how
      obtain ⟨sv, ov, S, qs, e9, k1, k2, k3, k4, k5⟩ := unhide HSD4
      simp only [Value.agg.injEq, Array.mk.injEq, List.cons.injEq, and_true] at e9
      obtain ⟨rfl, rfl⟩ := e9
      have HK1 := hide k1
      have HK2 := hide k2
      have HK3 := hide k3
      have HK4 := hide k4
      have HK5 := hide k5
      have hql : qs.length ≤ 1048576 := by have h9 := congrArg List.length k3; rw [List.length_map] at h9; omega
      clear k1 k2 k3 k4 k5 HSD4
      go_upto_region 13 with fail
      rw [← unhide HV4E]
      have hS : Hid (∀ W' : World, Below V4.heap.size V4 W' → Row2 W' w1.heap.size 25 (.slice a1 bw.length c1) (.slice a2 O.length c2)) := fun W' hW => (unhide RA4).below hW (by omega)
      obtain ⟨m0, m1, m2, m3⟩ := (unhide RA4).facts4
      have HRGb := hide RG
      clear RG
      go_wp2_with fail
      go_region_law (
        (first
          | (refine step_call_o 8 #[.tmp 58] _ rfl #[.slice ta T.length tc] rfl (by first | (simp [Act.eval]; done) | (simp [Act.eval, Act.put]; done)) (run_specSplit _) (specSplit_any _ T _ (by exact unhide HT4) hTl) ?_; rintro e w5 ⟨lv, us, rfl, hus, hlu, hb5⟩; rw [unhide HLS] at hus; have hB5 : Below V4.heap.size V4 w5 := ⟨hb5.os, hb5.tape, hb5.output, hb5.size, hb5.block⟩; have hz5 := hB5.size; have HUS := hide hus; have HLU : Hid (LB V4.heap.size w5 lv us) := hlu; have hul : us.length ≤ 1048576 := (by have h9 := congrArg List.length hus; rw [List.length_map] at h9; omega); have RA5 := hide (unhide hS _ hB5); obtain ⟨n0, n1, n2, n3⟩ := (unhide RA5).facts4; obtain ⟨la, lc, rfl⟩ := own_is hlu.own; clear hus hlu hb5; refine ⟨_, rfl, ?_⟩)
          | (refine step_app_any w.heap.size rfl (.tmp 57) (.tmp 59) rfl (.slice a2 O.length c2) (.slice la us.length lc) qs us (by first | (simp [Act.eval]; done) | (simp [Act.eval, Act.put]; done)) (by exact (unhide HK2).keep hB5 (Nat.le_refl _)) (by first | (simp [Act.eval]; done) | (simp [Act.eval, Act.put]; done)) (by exact (unhide HLU).low (by omega)) (by intro p hp q hq h0 h1 e; have h7 := ((unhide HK2).ok p hp).lt h0; have h8 := (unhide HLU).lo q hq h1; omega) (by show w.heap.size ≤ w5.heap.size; omega) (by omega) (fun v6 w6 h6 hg6 ho6 => ?_); have hg6' : w5.grownBy w6 (Value.slice a2 O.length c2).ownBlock := ⟨hg6.os, hg6.tape, hg6.output, hg6.size, hg6.block⟩; have ho6' : OwnS w5 (.slice a2 O.length c2) v6 := ho6; have RA6 := hide ((unhide RA5).grown ((unhide HK2).keep hB5 (Nat.le_refl _)).own hg6'); have RG6 := hide (((unhide HRGb).below hB5 (by omega)).grown ((unhide HK2).keep hB5 (Nat.le_refl _)).own hg6'); have H6 := hide h6; obtain ⟨va, vc, e6⟩ := own_is h6.own; generalize (qs ++ us).length = L at e6; subst e6; obtain ⟨t0, t1, t2, t3⟩ := (unhide RA6).facts4; clear h6 hg6)))
      all_goals
        have hz6 : w5.heap.size ≤ w6.heap.size := hg6'.size
        have hsd6 := StD.more (oss := ow) ((unhide HK1).same (w' := w5) (fun k hk => hB5.block k ((unhide HK4 k hk).2.lt))) (fun k hk => ⟨(unhide HK4 k hk).1, (unhide HK4 k hk).2.same (hB5.block k ((unhide HK4 k hk).2.lt))⟩) (unhide HK5) (unhide H6) hg6' ho6' (by rw [List.map_append, unhide HK3, unhide HUS, unhide HOW])
        have HST7 := hide ((hsd6.putty (unhide RA6) (o := 1) (u := .slice va L vc)).rd)
        have HFG7 := hide ((((unhide HFG4).keep hB5 (by omega)).same (w' := w6) (fun k q1 q2 => hg6'.block k (by omega) (fun e => by have := unhide HOVL k e.symm; omega))).put (b := w1.heap.size) (o := 1) (u := .slice va L vc) (Or.inl (by omega)))
        have hBf6 : Below w.heap.size w (w6.setCell ⟨w1.heap.size, 1, none⟩ (.slice va L vc)) := bput ((hBw4.trans (hB5.mono (by omega))).grown hg6' (by omega) (fun j hj => ((unhide HK2).own.lt j hj).1)) (by omega) _
        obtain ⟨s0, s1, -⟩ := ((unhide RA6).put1 (u := .slice va L vc)).facts4
        obtain ⟨u0, u1, -⟩ := ((unhide RG6).other (b' := w1.heap.size) (o := 1) (u := .slice va L vc) (by omega)).facts4
        clear hsd6 hg6' ho6' m0 m1 m2 m3 n0 n1 n2 n3
        go_wp2_with fail
        refine (sameState_same _ _ bw ow _ ((unhide HFG7).rd (by rw [sz_put]; omega)) (unhide HST7) l1 (by omega)).mono ?_
        rintro e w8 ⟨rfl, hb8⟩
        have hBf : Below w.heap.size w w8 := hBf6.trans (hb8.mono (by rw [sz_put]; omega))
        clear hb8 hBf6
        go_wp2
        go_ret
        exact ⟨rfl, hBf⟩
    · clear hs0 hfit HIS
      obtain ⟨y0, y1, -⟩ := RG.facts4
      obtain ⟨y2, y3, -⟩ := (unhide RA4).facts4
      rw [unhide HV4E] at y0 y1 y2 y3
      go_wp2_with fail
      rw [← unhide HV4E]
      refine (sameState_same _ _ bw ow V4 (unhide HRG4) (unhide HSD4).rd l1 l2).mono ?_
      rintro e w5 ⟨rfl, hb5⟩
      have hBf : Below w.heap.size w w5 := hBw4.trans (hb5.mono (by omega))
      clear hb5
      go_wp2
      go_ret
      exact ⟨rfl, hBf⟩
  · have hbig' : (1048576 : Int) < (code.length : Int) := by omega
    go_enter Tryz.func3, Tryz.ntmps3
    go_wp2
    go_ret
    exact ⟨rfl, Below.refl _ _⟩

end Go.Proofs.YthgnefdefjannaaGreat
