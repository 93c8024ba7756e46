import Derived.Test.YtbgjgaejfkdceaaGreatMg1
import Derived.Test.YtbgjgaejfkdceaaGreatL6
import Derived.Deep.DeepCutAuto
namespace Go.Proofs.YtbgjgaejfkdceaaGreat
open Go.RowKit

/-- Two segments of a valid state that stand one behind the other. -/
theorem pair_ok {bss oss : List (List Int)} {gs : List Sg} {k : Nat} (h : StS bss oss gs) (hby : ∀ x ∈ bss, Bytes x) (hk : k + 1 < gs.length) : ∃ g g', gs[k]? = some g ∧ gs[k + 1]? = some g' ∧ Joins g.b g.xs g.ks g.pss g'.b g'.xs g'.ks g'.pss ∧ SegIn g.b g.xs g.ks g.pss ∧ SegIn g'.b g'.xs g'.ks g'.pss ∧ Fits g.b (g.xs ++ g'.xs) ∧ (∀ x ∈ g.xs ++ g'.xs, Bytes x) ∧ (g.xs ++ g'.xs).length ≤ 1000 ∧ flat ((gs.drop k).take 2) = g.xs ++ g'.xs := by
  obtain ⟨-, s2, -, s4, s5, -⟩ := stO_all h hby
  obtain ⟨-, k2, -⟩ := decA_ok bss 0 gs (stO_is h).1
  obtain ⟨g, e1, -, e3⟩ := k2 k (by omega)
  obtain ⟨g', f1, -, f3⟩ := k2 (k + 1) hk
  have hg := s2 g (List.mem_of_getElem? e1)
  have hg' := s2 g' (List.mem_of_getElem? f1)
  have hs : gs.take (k + 1) = gs.take k ++ [g] := by rw [List.take_add_one, e1]; rfl
  rw [hs, nL_app, nL_one] at f3
  have hJ : Joins g.b g.xs g.ks g.pss g'.b g'.xs g'.ks g'.pss := ⟨hg.2, hg'.2, by omega⟩
  have hd : (gs.drop k).take 2 = [g, g'] := by
    have h0 : gs.drop k = g :: gs.drop (k + 1) := by rw [List.getElem?_eq_getElem (by omega)] at e1; rw [List.drop_eq_getElem_cons (by omega), Option.some.inj e1]
    have h1 : gs.drop (k + 1) = g' :: gs.drop (k + 1 + 1) := by rw [List.getElem?_eq_getElem hk] at f1; rw [List.drop_eq_getElem_cons hk, Option.some.inj f1]
    rw [h0, h1]
    rfl
  have ht : tot (g.xs ++ g'.xs) ≤ 20000 := by
    have q : gs = gs.take k ++ ([g, g'] ++ gs.drop (k + 2)) := by
      rw [← hd]
      have := List.take_append_drop 2 (gs.drop k)
      rw [List.drop_drop] at this
      rw [this, List.take_append_drop]
    rw [q, nB_app, nB_app] at s5
    simp only [nB] at s5
    rw [tot_app]
    omega
  have hF : Fits g.b (g.xs ++ g'.xs) := hJ.fits.2 ht
  refine ⟨g, g', e1, f1, hJ, hg.1.2, hg'.1.2, hF, fun x hx => ?_, by have := hF.1; have := hF.2.2.1; omega, by rw [hd]; simp [flat]⟩
  rcases List.mem_append.1 hx with hx | hx
  · exact hg.1.1.bytes x hx
  · exact hg'.1.1.bytes x hx

set_option maxHeartbeats 16000000 in
set_option maxRecDepth 100000 in
theorem specMergeSt_any (v : Value) (k : Int) (bss oss : List (List Int)) (w : World) (hv : StRd w v bss oss) (hby : ∀ x ∈ bss, Bytes x) (t1 : tot bss ≤ 1048576) (l1 : bss.length ≤ 1048576) (t2 : tot oss ≤ 1048576) (l2 : oss.length ≤ 1048576) (hk1 : -9223372036854775808 ≤ k) (hk2 : k ≤ 9223372036854775807) :
    Calls Tryz.prog 15 #[v, .int .i64 k] w fun e w' => StWant e w' (MergeIs bss oss k) ∧ Below w.heap.size w w' := by
  obtain ⟨i0, hi, hz0, hz1, hz2⟩ := info_parts Tryz.zinByteS
  have HV := hide hv
  have HB := hide hby
  obtain ⟨sv, ov, rfl, u1, u2⟩ := hv
  have U2 := hide u2
  obtain ⟨a1, c1, rfl, -⟩ := id u1
  obtain ⟨a2, c2, rfl, -⟩ := id u2
  clear u1 u2 hby
  have hb0 := below2 w (.cells #[.slice a1 bss.length c1, .slice a2 oss.length c2] 27) (.cells #[.slice none 0 0, .slice none 0 0] 27)
  have RA := (Row2.new w 27 (.slice a1 bss.length c1) (.slice a2 oss.length c2)).alloc (.cells #[.slice none 0 0, .slice none 0 0] 27)
  have RR := Row2.new (w.alloc (.cells #[.slice a1 bss.length c1, .slice a2 oss.length c2] 27)) 27 (.slice none 0 0) (.slice none 0 0)
  rw [sz_alloc] at RR
  have hzV : ((w.alloc (.cells #[.slice a1 bss.length c1, .slice a2 oss.length c2] 27)).alloc (.cells #[.slice none 0 0, .slice none 0 0] 27)).heap.size = w.heap.size + 2 := by simp
  go_enter Tryz.func15, Tryz.ntmps15
  go_wp2_with fail
  generalize (w.alloc (.cells #[.slice a1 bss.length c1, .slice a2 oss.length c2] 27)).alloc (.cells #[.slice none 0 0, .slice none 0 0] 27) = V at *
  have hVz : w.heap.size + 2 ≤ V.heap.size := by omega
  have HRA := hide RA
  have HRR := hide RR
  clear hzV RA RR
  refine (l5segs_any _ bss oss V ((unhide HV).below hb0 (Nat.le_refl _)) (unhide HB) t1 l1 t2 l2).mono ?_
  rintro e w1 ⟨hg, hb1⟩
  have hz1' := hb1.size
  have hB1 : Below w.heap.size w w1 := hb0.trans (hb1.mono (by omega))
  have RA1 := hide ((unhide HRA).below hb1 (by omega))
  have RR1 := hide ((unhide HRR).below hb1 (by omega))
  clear HRA HRR hb0 hb1
  rcases hg with ⟨sv, ss, rfl, hst, hrow⟩ | ⟨rfl, hst⟩
  · have HST := hide hst
    have HSG := hide hrow
    obtain ⟨ga, gc, rfl⟩ := hrow.form
    obtain ⟨s1', s2', s3, s4, s5, -⟩ := stO_all hst (unhide HB)
    rw [List.length_map] at s3
    have hss : ss.length ≤ 1000 := by omega
    have HEB := hide s1'
    have HALL := hide s2'
    clear hst hrow s1' s2' s3 s5
    obtain ⟨f0, f1, -⟩ := (unhide RA1).facts4
    have hgm : (ss.map Sv.g).length = ss.length := List.length_map ..
    have HGM := hide hgm
    clear hgm
    by_cases hk0 : k < 0
    · have HN : Hid (¬ (0 ≤ k ∧ k + 1 < ((ss.map Sv.g).length : Nat))) := fun h => by omega
      go_wp2_with fail
      refine (l5copy_any _ bss oss w1 ((unhide HV).below hB1 (Nat.le_refl _)) t1 l1 t2 l2).mono ?_
      rintro e w6 ⟨⟨cv, ov, ps, rs, m, rfl, hps, hrs, hl1, -, hl2, hm1, hm2⟩, hb6⟩
      have hz6' := hb6.size
      have HQ1 := hide hl1
      have HQ2 := hide hl2
      have HE1 := hide hps
      have HE2 := hide hrs
      have RR6 := hide ((unhide RR1).below hb6 (by omega))
      obtain ⟨p1, k1, rfl⟩ := own_is hl1.own
      obtain ⟨p2, k2, rfl⟩ := own_is hl2.own
      obtain ⟨r0, r1, r2, r3⟩ := (unhide RR6).facts4
      have hB6 : Below w.heap.size w w6 := hB1.trans (hb6.mono (by omega))
      clear hl1 hl2 hps hrs
      go_wp2_with fail
      obtain ⟨e0, e1, -⟩ := (((unhide RR6).put0 (u := .slice p1 ps.length k1)).put1 (u := .slice p2 rs.length k2)).facts4
      refine bodyPost_ret (v := .tuple #[.agg #[.slice p1 ps.length k1, .slice p2 rs.length k2], .int .i64 7]) (by simp [results, Tryz.results15, go_sem, e0, e1]) rfl ⟨⟨_, bss, oss, 7, rfl, Or.inr (Or.inl ⟨_, unhide HST, unhide HN, rfl, rfl, rfl⟩), _, _, rfl, ?_, ?_⟩, bput2 hB6 (by omega) _ _⟩
      · have h2 := (LB.footR (((unhide HQ1).putlo (B := w.heap.size + 1) (o := 0) (u := .slice p1 ps.length k1) (by omega)).putlo (B := w.heap.size + 1) (o := 1) (u := .slice p2 rs.length k2) (by omega))).all (Nat.le_refl _)
        rw [unhide HE1] at h2
        exact h2
      · have h2 := (LB.footR (((unhide HQ2).putlo (B := w.heap.size + 1) (o := 0) (u := .slice p1 ps.length k1) (by omega)).putlo (B := w.heap.size + 1) (o := 1) (u := .slice p2 rs.length k2) (by omega))).all (Nat.le_refl _)
        rw [unhide HE2] at h2
        exact h2
    by_cases hk3 : (ss.length : Int) - 1 ≤ k
    · have HN : Hid (¬ (0 ≤ k ∧ k + 1 < ((ss.map Sv.g).length : Nat))) := fun h => by have := unhide HGM; omega
      go_wp2_with fail
      refine (l5copy_any _ bss oss w1 ((unhide HV).below hB1 (Nat.le_refl _)) t1 l1 t2 l2).mono ?_
      rintro e w6 ⟨⟨cv, ov, ps, rs, m, rfl, hps, hrs, hl1, -, hl2, hm1, hm2⟩, hb6⟩
      have hz6' := hb6.size
      have HQ1 := hide hl1
      have HQ2 := hide hl2
      have HE1 := hide hps
      have HE2 := hide hrs
      have RR6 := hide ((unhide RR1).below hb6 (by omega))
      obtain ⟨p1, k1, rfl⟩ := own_is hl1.own
      obtain ⟨p2, k2, rfl⟩ := own_is hl2.own
      obtain ⟨r0, r1, r2, r3⟩ := (unhide RR6).facts4
      have hB6 : Below w.heap.size w w6 := hB1.trans (hb6.mono (by omega))
      clear hl1 hl2 hps hrs
      go_wp2_with fail
      obtain ⟨e0, e1, -⟩ := (((unhide RR6).put0 (u := .slice p1 ps.length k1)).put1 (u := .slice p2 rs.length k2)).facts4
      refine bodyPost_ret (v := .tuple #[.agg #[.slice p1 ps.length k1, .slice p2 rs.length k2], .int .i64 7]) (by simp [results, Tryz.results15, go_sem, e0, e1]) rfl ⟨⟨_, bss, oss, 7, rfl, Or.inr (Or.inl ⟨_, unhide HST, unhide HN, rfl, rfl, rfl⟩), _, _, rfl, ?_, ?_⟩, bput2 hB6 (by omega) _ _⟩
      · have h2 := (LB.footR (((unhide HQ1).putlo (B := w.heap.size + 1) (o := 0) (u := .slice p1 ps.length k1) (by omega)).putlo (B := w.heap.size + 1) (o := 1) (u := .slice p2 rs.length k2) (by omega))).all (Nat.le_refl _)
        rw [unhide HE1] at h2
        exact h2
      · have h2 := (LB.footR (((unhide HQ2).putlo (B := w.heap.size + 1) (o := 0) (u := .slice p1 ps.length k1) (by omega)).putlo (B := w.heap.size + 1) (o := 1) (u := .slice p2 rs.length k2) (by omega))).all (Nat.le_refl _)
        rw [unhide HE2] at h2
        exact h2
    obtain ⟨kk, rfl⟩ : ∃ kk : Nat, k = kk := ⟨k.toNat, by omega⟩
    have hkk : kk + 1 < ss.length := by omega
    have hkr : (0 ≤ (kk : Int) ∧ (kk : Int) + 1 < ((ss.map Sv.g).length : Nat)) := ⟨by omega, by have := unhide HGM; omega⟩
    have HKR := hide hkr
    obtain ⟨g, g', e1, f1', hJ, -, -, hF, hby2, hl2, hfl⟩ := pair_ok (unhide HST) (unhide HB) (k := kk) (by have := unhide HGM; omega)
    obtain ⟨ks0, pss0, hsr0⟩ := segR_ex g.b (g.xs ++ g'.xs) hl2
    have hsl0 := segR_len hsr0 hl2
    have hFt := hF.2.2.2.2
    have HENC := hide (built_enc hF hsr0 hby2 (by omega) (by omega))
    have HG1 := hide e1
    have HG2 := hide f1'
    have HSR0 := hide hsr0
    have HFL := hide hfl
    have HBY2 := hide hby2
    have hgb0 := hF.1
    have hgb1 := hF.2.2.1
    have hgl : (g.xs ++ g'.xs).length ≤ 1000 := hl2
    obtain ⟨X, hX⟩ : ∃ X, g.xs ++ g'.xs = X := ⟨_, rfl⟩
    rw [hX] at hl2 hFt HENC HSR0 HFL HBY2 hgb1 hgl
    have HX := hide hX
    obtain ⟨gb, hgb⟩ : ∃ gb, g.b = gb := ⟨_, rfl⟩
    rw [hgb] at HENC HSR0 hgb0 hgb1
    have HGB := hide hgb
    obtain ⟨x, hx⟩ : ∃ x, encL gb X ks0 pss0 = x := ⟨_, rfl⟩
    have HXE := hide hx
    clear e1 f1' hJ hF hby2 hfl hsr0 hsl0 hX hgb hx hkr hl2
    have hk0' : ¬ (kk : Int) < 0 := by omega
    have hk3' : ¬ (ss.length : Int) - 1 ≤ (kk : Int) := by omega
    go_wp2_with fail
    refine (l4copy_any _ oss w1 ((unhide U2).below hB1 (Nat.le_refl _)) t2 l2).mono ?_
    rintro e w2 ⟨ov, rfl, ⟨qs, hqs, hl3⟩, hb2⟩
    have hz2' := hb2.size
    have HQS := hide hqs
    have HLO := hide hl3
    have RR2 := hide ((unhide RR1).below hb2 (by omega))
    have HSG2 := hide ((unhide HSG).keep hb2 (Nat.le_refl _))
    have hB2 : Below w.heap.size w w2 := hB1.trans (hb2.mono (by omega))
    obtain ⟨p2, q2, rfl⟩ := own_is hl3.own
    clear hqs hl3 f0 f1 RR1 HSG hb2
    have RO := Row2.new w2 27 (.slice none 0 0) (.slice p2 qs.length q2)
    have hV2 := below1 w2 (.cells #[.slice none 0 0, .slice p2 qs.length q2] 27)
    have hzV2 : (w2.alloc (.cells #[.slice none 0 0, .slice p2 qs.length q2] 27)).heap.size = w2.heap.size + 1 := sz_alloc _ _
    go_wp2_with fail
    generalize w2.alloc (.cells #[.slice none 0 0, .slice p2 qs.length q2] 27) = V2 at *
    have hzV2' : w2.heap.size + 1 ≤ V2.heap.size := by omega
    have hzV2'' : V2.heap.size ≤ w2.heap.size + 1 := by omega
    clear hzV2
    go_loopw [9] (fun iv wr => ∃ (i : Nat) (sv : Value) (ps : List (Cl Int)), i ≤ ss.length ∧ ps.length ≤ i ∧ iv = .int .i64 i ∧ ps.map Cl.xs = outK kk x bss i ∧ Row2 wr w2.heap.size 27 sv (.slice p2 qs.length q2) ∧ LB V2.heap.size wr sv ps ∧ Below w2.heap.size V2 wr) (fun iv _ => ss.length - (intOf iv).toNat)
    case atStart => exact ⟨0, _, [], Nat.zero_le _, Nat.le_refl _, rfl, by simp [outK], RO, LL.nil, Below.refl _ _⟩
    case round =>
      obtain ⟨i, sv, ps, hil, hpi, rfl, hln, hbox, hll, hbl⟩ := hrel
      have hszr := hbl.size
      have Hll := hide hll
      have Hln := hide hln
      have Hbx := hide hbox
      have HBL := hide hbl
      obtain ⟨la, lc, rfl⟩ := own_is hll.own
      have hBL2 : Below w2.heap.size w2 wr := hV2.trans hbl
      have HBL2 := hide hBL2
      have HSGr := hide ((unhide HSG2).keep hBL2 (Nat.le_refl _))
      have hBw : Below w.heap.size w wr := hB2.trans (hBL2.mono (by omega))
      clear hll hln hbox hbl
      by_cases hlt : i < ss.length
      · have hlt' : (i : Int) < (ss.length : Int) := by omega
        obtain ⟨s, hsi⟩ : ∃ s, ss[i]? = some s := ⟨ss[i], by simp [hlt]⟩
        have hmem : s ∈ ss := List.mem_of_getElem? hsi
        obtain ⟨q, cap, e1, hq1, hq2, d0, d1, d2, d3⟩ := (unhide HSGr).at i s hsi
        simp only [Value.slice.injEq] at e1
        obtain ⟨rfl, -, rfl⟩ := e1
        by_cases hik : i = kk
        · subst hik
          have hsg : s.g = g := by
            have := unhide HG1
            rw [List.getElem?_map, hsi] at this
            simpa using this
          have HEM : Hid (outK i x bss (i + 1) = outK i x bss i ++ [x]) := by show outK i x bss i ++ emit i x bss i = _; rw [emit, if_pos rfl]
          rw [hsg, unhide HGB] at d0
          have HFA : Hid (FlatAt wr.heap.size wr (.slice (some ⟨q, i * 4, none⟩) 2 (gc - i)) (((ss.map Sv.g).drop i).take 2)) := ((unhide HSGr).flatAt).two (by have := unhide HGM; omega) _
          have hcap : i + 2 ≤ gc := by
            rcases (unhide HSGr).own.2 with ⟨e, _⟩ | ⟨_, _, _, e, _, _, hnc, _⟩
            · cases e
            · cases e; omega
          have hcap' : (i : Int) + 2 ≤ (gc : Int) := by omega
          have hw2 : IntKind.i64.wrap ((i : Int) + 2) = (i : Int) + 2 := k64i (by omega) (by omega)
          have hi0 : (0 : Int) ≤ (i : Int) := by omega
          have hgi : ¬ gc = i := by omega
          have htn : ((i : Int) + 2).toNat - i = 2 := by omega
          have hi2 : (i : Int) ≤ (i : Int) + 2 := by omega
          have hi3 : (0 : Int) ≤ (i : Int) + 2 := by omega
          have hnl2 : nL (((ss.map Sv.g).drop i).take 2) ≤ 1000 := by rw [← flat_len, unhide HFL]; exact hgl
          have hlen2 : (((ss.map Sv.g).drop i).take 2).length ≤ 1000 := by simp; omega
          clear hsi hmem d1 d2 d3 hsg
          have hib : ((i : Int) == (i : Int)) = true := by simp
          have hS : Hid (∀ W' : World, Below wr.heap.size wr W' → W'.cell? ⟨q, i * 4, none⟩ = some (.int .i64 gb)) := fun W' hW => by rw [hW.cell (p := ⟨q, i * 4, none⟩) hq2]; exact d0
          have hBaa : ∀ o : Obj, Below wr.heap.size wr (wr.alloc o) := fun o => below1 _ o
          obtain ⟨w0', hw0'⟩ : ∃ w0', w0' = wr := ⟨_, rfl⟩
          go_upto_region 11 with fail
          go_cut [10] (fun bx wx => SpecBox bx wr wx gb X)
          case first =>
            go_region_held3 (fun W' => W'.cell? ⟨q, i * 4, none⟩ = some (.int .i64 gb))
              (first | (with_reducible exact unhide hS _ (hBda _)) | (with_reducible exact unhide hS _ hBd) | (with_reducible exact unhide hS _ (hBp _ _ _ _ _ (by omega))) | (with_reducible exact unhide hS _ (hBba _)) | (with_reducible exact unhide hS _ hBb) | (with_reducible exact unhide hS _ (hBaa _)) | go_keep)
              (first
                | (go_at_call 31; refine (l4build_any gb _ X _ (by first | exact unhide HXR | exact (unhide HXR).below (below1 w3 _) (Nat.le_refl _)) (unhide HBY2) (by omega) (by omega) hgb0 (by omega)).mono ?_; rintro e w5 ⟨⟨v5, ks5, pss5, rfl, hsr5, hF5⟩, hb5⟩; have hBd : Below wr.heap.size wr w5 := (by first | exact hBb.trans (hb5.mono hBb.size) | exact (hBba _).trans (hb5.mono (hBba _).size)); have hBda : ∀ o : Obj, Below wr.heap.size wr (w5.alloc o) := fun o => hBd.alloc hBd.size o; have hBp : ∀ (N : Nat) (q0 q1 q2 q3 : Value), wr.heap.size ≤ N → Below wr.heap.size wr ((((w5.setCell ⟨N, 0, none⟩ q0).setCell ⟨N, 1, none⟩ q1).setCell ⟨N, 2, none⟩ q2).setCell ⟨N, 3, none⟩ q3) := fun N q0 q1 q2 q3 hN => bput4 hBd hN q0 q1 q2 q3; have hsd := hb5.size; (try rw [sz_alloc] at hsd); ((first | (have RZ5 := hide ((unhide RZ3).below hb5 (by omega))) | (have RZ5 := hide ((Row4.new w3 56 (.int .i64 0) (.slice none 0 0) (.slice none 0 0) (.slice none 0 0)).below hb5 (by rw [sz_alloc]; exact Nat.lt_succ_self _))) | skip)); have HSR := hide hsr5; have HFA5 := hide hF5; obtain ⟨v1a, v1c, v2a, v2c, v3a, v3c, rfl⟩ := hF5.rd.val; (try obtain ⟨r0, r1, r2, r3, t0, t1, t2, t3⟩ := (unhide RZ5).facts); clear hsr5 hF5)
                | (go_at_call 20; refine (l5flatA_any _ (((ss.map Sv.g).drop i).take 2) _ (by (try rw [if_neg hgi]); (try rw [htn]); first | exact (unhide HFA).below (m := wr.heap.size) ((Below.refl _ _).drew) (Nat.le_refl _) | exact ((unhide HFA).below (m := wr.heap.size) ((below1 wr (.cells #[.int .i64 0, .slice none 0 0, .slice none 0 0, .slice none 0 0] 56)).drew) (Nat.le_refl _)).up (N' := (wr.alloc (.cells #[.int .i64 0, .slice none 0 0, .slice none 0 0, .slice none 0 0] 56)).heap.size) (by rw [sz_alloc]; omega)) hnl2 hlen2).mono ?_; rintro e w3 ⟨⟨v3, vs3, rfl, hown3, hln3⟩, hb3⟩; rw [unhide HFL] at hln3; have hBb : Below wr.heap.size wr w3 := (by first | exact ⟨hb3.os, hb3.tape, hb3.output, hb3.size, hb3.block⟩ | exact (below1 wr (.cells #[.int .i64 0, .slice none 0 0, .slice none 0 0, .slice none 0 0] 56)).drew.trans (hb3.mono (by show wr.heap.size ≤ (wr.alloc _).heap.size; rw [sz_alloc]; omega))); have hBba : ∀ o : Obj, Below wr.heap.size wr (w3.alloc o) := fun o => hBb.alloc hBb.size o; have hsb := hBb.size; (try (have hsb2 : (wr.alloc (.cells #[.int .i64 0, .slice none 0 0, .slice none 0 0, .slice none 0 0] 56)).heap.size ≤ w3.heap.size := hb3.size; rw [sz_alloc] at hsb2)); have HXR := hide (hln3.ss hown3 hb3.size); obtain ⟨fa3, fc3, rfl⟩ := own_is hown3; ((first | (have RZ3 := hide ((Row4.new wr 56 (.int .i64 0) (.slice none 0 0) (.slice none 0 0) (.slice none 0 0)).below (show Below (wr.alloc (.cells #[.int .i64 0, .slice none 0 0, .slice none 0 0, .slice none 0 0] 56)).heap.size (wr.alloc (.cells #[.int .i64 0, .slice none 0 0, .slice none 0 0, .slice none 0 0] 56)) w3 from ⟨hb3.os, hb3.tape, hb3.output, hb3.size, hb3.block⟩) (by rw [sz_alloc]; exact Nat.lt_succ_self _))) | skip)); clear hown3 hln3))
            all_goals go_wp2_with fail
            all_goals go_meet
            all_goals first
              | exact ⟨_, ks5, pss5, _, _, _, _, _, _, rfl, unhide HSR, Row4.new w5 _ _ _ _ _, (unhide HFA5).rd.below (below1 w5 _) (Nat.le_refl _), hBd.size, by rw [sz_alloc]; exact Nat.lt_succ_self _, hBda _⟩
              | exact ⟨_, ks5, pss5, _, _, _, _, _, _, rfl, unhide HSR, (unhide RZ5).all _ _ _ _, ((unhide HFA5).put4 (by first | omega | (rw [sz_alloc]; omega)) _ _ _ _).rd, by omega, by rw [sz_put4]; omega, hBp _ _ _ _ _ (by omega)⟩
          case rest =>
            obtain ⟨N, ks, pss, s1, k1, s2, k2, s3, k3, rfl, hsr, hrowN, hrd, hN, hN2, hE⟩ := hcut
            obtain ⟨rfl, rfl⟩ := hsr.uniq (unhide HSR0)
            obtain ⟨w9, hw9⟩ : ∃ w9, w9 = wc := ⟨_, rfl⟩
            rw [← hw9] at hrowN hrd hN2 hE ⊢
            have hz9 := hE.size
            have hel := encL_len (unhide HENC)
            have HO9 := hide ((unhide Hbx).below hE (by omega))
            have HL9 := hide ((unhide Hll).keep hE (Nat.le_refl _))
            have HBL9 := hide ((unhide HBL).trans (hE.mono (by omega)))
            have HRD := hide hrd
            obtain ⟨g0, g1, g2, g3, -⟩ := hrowN.facts
            obtain ⟨y0, y1, y2, y3⟩ := (unhide HO9).facts4
            have HEE : Hid (encL gb X ks pss = x) := unhide HXE
            clear hsr hw9 hrd hrowN hS hBaa
            have hS9 : Hid (∀ W' : World, Below w9.heap.size w9 W' → W'.cell? ⟨w2.heap.size, 0, none⟩ = some (.slice la ps.length lc) ∧ W'.frozen? ⟨w2.heap.size, 0, none⟩ = false) := fun W' hW => by
              have := ((unhide HO9).below hW (by omega)).facts4
              exact ⟨this.1, this.2.2.1⟩
            have hS92 : Hid (∀ W' : World, Below V2.heap.size w9 W' → W'.cell? ⟨w2.heap.size, 0, none⟩ = some (.slice la ps.length lc) ∧ W'.frozen? ⟨w2.heap.size, 0, none⟩ = false) := fun W' hW => by
              have := ((unhide HO9).below hW (by omega)).facts4
              exact ⟨this.1, this.2.2.1⟩
            rw [unhide HEE] at hel
            obtain ⟨y, hy⟩ : ∃ y, x = y := ⟨_, rfl⟩
            subst hy
            go_wp2_with fail
            go_region_law (
              (first
                | (refine step_call_o 32 #[.tmp 57] _ rfl #[.agg #[.int .i64 gb, .slice s1 X.length k1, .slice s2 ks.length k2, .slice s3 pss.length k3]] rfl (by first | (simp [Act.eval]; done) | (simp [Act.eval, Act.put]; done)) (run_l4encode _) (l4encode_any _ gb X pss ks _ (by exact unhide HRD) (unhide HENC)) ?_; rintro e w5 ⟨⟨v5, rfl, hown5⟩, hb5⟩; rw [unhide HEE] at hown5; have hB5 : Below w9.heap.size w9 w5 := ⟨hb5.os, hb5.tape, hb5.output, hb5.size, hb5.block⟩; have Hown5 : Hid (w5.ownsRow w9.heap.size 5 1 v5 x.length (x.map mB)) := hown5; have hz5 := hB5.size; have HLk := hide ((unhide HL9).keep hB5 (Nat.le_refl _)); have Hpu := hide (LB.push (unhide HL9) (by omega) hB5 (Below.refl _ w9) (unhide Hown5)); obtain ⟨ya, yc, rfl⟩ := own_is (unhide Hown5); obtain ⟨d5, z5⟩ := unhide hS9 _ hB5; obtain ⟨d6, z6⟩ := unhide hS9 _ (hB5.alloc hz5 (.cells #[.slice ya x.length yc] 25)); clear hown5 hb5; refine ⟨_, rfl, ?_⟩)
                | (refine step_append_lies _ rfl (.tmp 56) (.tmp 59) 22 rfl V2.heap.size 25 i0 (.slice none 0 0) 1 24 Tryz.underlying22 hi hz0 hz1 hz2 rfl (by decide) (.slice la ps.length lc) ps.length (ps.map Cl.v) (by first | (simp [Act.eval]; done) | (simp [Act.eval, Act.put]; done)) (by refine Pushd.own (w := w5) (o := .cells #[.slice ya x.length yc] 25) ?_ (unhide HLk).own; exact ⟨rfl, rfl, rfl, rfl⟩) ⟨w5.heap.size, 0, none⟩ 1 1 [.slice ya x.length yc] (by first | (simp [Act.eval]; done) | (simp [Act.eval, Act.put]; done)) rfl (by refine Pushd.news (w := w5) (cs := #[.slice ya x.length yc]) (t := 25) ?_; exact ⟨rfl, rfl, rfl, rfl⟩) (by intro u hu; simp at hu; subst hu; rfl) (by decide) (by unfold maxLen; omega) (by omega) (by show V2.heap.size ≤ (w5.alloc _).heap.size; rw [sz_alloc]; omega) (w5.heap.size + 1) (sz_alloc w5 _) (fun gg cap' w7 q1 q2 q3 q4 => ?_); have h7 := hide (unhide Hpu w7 (.slice (some ⟨gg, 0, none⟩) (ps.length + 1) cap') q1 q2); have hB7 : Below V2.heap.size w9 w7 := (by obtain ⟨_, _, _, r⟩ := unhide h7; exact r); obtain ⟨d7, z7⟩ := unhide hS92 _ hB7; clear q1 q2 q3 q4)))
            all_goals
              go_wp2
              obtain ⟨p, r1, r2, r3⟩ := unhide h7
              exact ⟨⟨i + 1, _, ps ++ [p], by omega, by simp; omega, by go_num, by rw [unhide HEM, List.map_append, unhide Hln, List.map_singleton, r1], ((unhide HO9).below hB7 (by omega)).put0, r2.putlo (by omega), bput (unhide HBL9 |>.trans (hB7.mono (by omega))) (Nat.le_refl _) _⟩, by simp [intOf]; omega⟩
        · by_cases hik1 : i = kk + 1
          · have HEM : Hid (outK kk x bss (i + 1) = outK kk x bss i) := by show outK kk x bss i ++ emit kk x bss i = _; rw [emit, if_neg hik, if_pos hik1, List.append_nil]
            have hb1 : ((i : Int) == (kk : Int)) = false := by rw [beq_eq_false_iff_ne]; omega
            have hb2 : ((i : Int) != (kk : Int) + 1) = false := by simp; omega
            have hw : IntKind.i64.wrap ((kk : Int) + 1) = (kk : Int) + 1 := k64i (by omega) (by omega)
            clear hik hik1 hsi hmem d0 d1 d2 d3
            go_wp2
            go_roundw
            case rel => exact ⟨i + 1, _, ps, by omega, by omega, by go_num, by rw [unhide HEM]; exact unhide Hln, unhide Hbx, unhide Hll, unhide HBL⟩
            case measure => simp [intOf]; omega
          · have hbi : bss[i]?.getD [] = encG s.g := by
              rw [← unhide HEB, List.getElem?_map, List.getElem?_map, hsi]
              rfl
            have HEM : Hid (outK kk x bss (i + 1) = outK kk x bss i ++ [encL s.g.b s.g.xs s.g.ks s.g.pss]) := by show outK kk x bss i ++ emit kk x bss i = _; rw [emit, if_neg hik, if_neg hik1, hbi]; rfl
            have hb1 : ((i : Int) == (kk : Int)) = false := by rw [beq_eq_false_iff_ne]; omega
            have hb2 : ((i : Int) != (kk : Int) + 1) = true := by simp; omega
            have hw : IntKind.i64.wrap ((kk : Int) + 1) = (kk : Int) + 1 := k64i (by omega) (by omega)
            have HENS := hide ((unhide HALL) s.g (List.mem_map_of_mem hmem)).1.1
            obtain ⟨s1, k1, s2, k2, s3, k3, v1, v2, v3⟩ := (unhide HSGr).vals s hmem
            have hrd := ((unhide HSGr).seg s hmem).rd ((unhide HSGr).blk s hmem).2.1
            unfold Sv.v at hrd
            rw [v1] at d1 hrd
            rw [v2] at d2 hrd
            rw [v3] at d3 hrd
            have HRD := hide hrd
            have hel := encL_len (unhide HENS)
            clear hik hik1 hsi hmem hrd v1 v2 v3 hbi
            generalize s.g = sg at *
            obtain ⟨sb, sxs, sks, sps⟩ := sg
            dsimp only at d0 d1 d2 d3 HRD HENS HEM hel
            generalize hEE : encL sb sxs sks sps = y at *
            have HEE := hide hEE
            clear hEE
            have HO9 := Hbx
            have HL9 := Hll
            have HBL9 := HBL
            obtain ⟨y0, y1, y2, y3⟩ := (unhide HO9).facts4
            have hS9 : Hid (∀ W' : World, Below wr.heap.size wr W' → W'.cell? ⟨w2.heap.size, 0, none⟩ = some (.slice la ps.length lc) ∧ W'.frozen? ⟨w2.heap.size, 0, none⟩ = false) := fun W' hW => by
              have := ((unhide HO9).below hW (by omega)).facts4
              exact ⟨this.1, this.2.2.1⟩
            have hS92 : Hid (∀ W' : World, Below V2.heap.size wr W' → W'.cell? ⟨w2.heap.size, 0, none⟩ = some (.slice la ps.length lc) ∧ W'.frozen? ⟨w2.heap.size, 0, none⟩ = false) := fun W' hW => by
              have := ((unhide HO9).below hW (by omega)).facts4
              exact ⟨this.1, this.2.2.1⟩
            go_wp2_with fail
            go_region_law (
              (first
                | (refine step_call_o 32 #[.tmp 71] _ rfl #[.agg #[.int .i64 sb, .slice s1 sxs.length k1, .slice s2 sks.length k2, .slice s3 sps.length k3]] rfl (by first | (simp [Act.eval]; done) | (simp [Act.eval, Act.put]; done)) (run_l4encode _) (l4encode_any _ sb sxs sps sks _ (by exact unhide HRD) (unhide HENS)) ?_; rintro e w5 ⟨⟨v5, rfl, hown5⟩, hb5⟩; rw [unhide HEE] at hown5; have hB5 : Below wr.heap.size wr w5 := ⟨hb5.os, hb5.tape, hb5.output, hb5.size, hb5.block⟩; have Hown5 : Hid (w5.ownsRow wr.heap.size 5 1 v5 y.length (y.map mB)) := hown5; have hz5 := hB5.size; have HLk := hide ((unhide HL9).keep hB5 (Nat.le_refl _)); have Hpu := hide (LB.push (unhide HL9) (by omega) hB5 (Below.refl _ wr) (unhide Hown5)); obtain ⟨ya, yc, rfl⟩ := own_is (unhide Hown5); obtain ⟨d5, z5⟩ := unhide hS9 _ hB5; obtain ⟨d6, z6⟩ := unhide hS9 _ (hB5.alloc hz5 (.cells #[.slice ya y.length yc] 25)); clear hown5 hb5; refine ⟨_, rfl, ?_⟩)
                | (refine step_append_lies _ rfl (.tmp 67) (.tmp 73) 22 rfl V2.heap.size 25 i0 (.slice none 0 0) 1 24 Tryz.underlying22 hi hz0 hz1 hz2 rfl (by decide) (.slice la ps.length lc) ps.length (ps.map Cl.v) (by first | (simp [Act.eval]; done) | (simp [Act.eval, Act.put]; done)) (by refine Pushd.own (w := w5) (o := .cells #[.slice ya y.length yc] 25) ?_ (unhide HLk).own; exact ⟨rfl, rfl, rfl, rfl⟩) ⟨w5.heap.size, 0, none⟩ 1 1 [.slice ya y.length yc] (by first | (simp [Act.eval]; done) | (simp [Act.eval, Act.put]; done)) rfl (by refine Pushd.news (w := w5) (cs := #[.slice ya y.length yc]) (t := 25) ?_; exact ⟨rfl, rfl, rfl, rfl⟩) (by intro u hu; simp at hu; subst hu; rfl) (by decide) (by unfold maxLen; omega) (by omega) (by show V2.heap.size ≤ (w5.alloc _).heap.size; rw [sz_alloc]; omega) (w5.heap.size + 1) (sz_alloc w5 _) (fun gg cap' w7 q1 q2 q3 q4 => ?_); have h7 := hide (unhide Hpu w7 (.slice (some ⟨gg, 0, none⟩) (ps.length + 1) cap') q1 q2); have hB7 : Below V2.heap.size wr w7 := (by obtain ⟨_, _, _, r⟩ := unhide h7; exact r); obtain ⟨d7, z7⟩ := unhide hS92 _ hB7; clear q1 q2 q3 q4)))
            all_goals
              go_wp2
              obtain ⟨p, r1, r2, r3⟩ := unhide h7
              exact ⟨⟨i + 1, _, ps ++ [p], by omega, by simp; omega, by go_num, by rw [unhide HEM, List.map_append, unhide Hln, List.map_singleton, r1], ((unhide HO9).below hB7 (by omega)).put0, r2.putlo (by omega), bput (unhide HBL9 |>.trans (hB7.mono (by omega))) (Nat.le_refl _) _⟩, by simp [intOf]; omega⟩
      · obtain rfl : i = ss.length := by omega
        have hlt' : ¬ (ss.length : Int) < (ss.length : Int) := by omega
        have hbl : bss.length = ss.length := by rw [← unhide HEB, List.length_map]; exact unhide HGM
        have HLN : Hid (ps.map Cl.xs = outK kk x bss bss.length) := by rw [hbl]; exact unhide Hln
        obtain ⟨y0, y1, y2, y3⟩ := (unhide Hbx).facts4
        have RRf := hide ((unhide RR2).below hBL2 (by omega))
        have HLOf := hide ((unhide HLO).keep hBL2 (Nat.le_refl _))
        obtain ⟨r0, r1, r2, r3⟩ := (unhide RRf).facts4
        clear hbl
        go_wp2_with fail
        obtain ⟨e0, e1, -⟩ := (((unhide RRf).put0 (u := .slice la ps.length lc)).put1 (u := .slice p2 qs.length q2)).facts4
        refine bodyPost_ret (v := .tuple #[.agg #[.slice la ps.length lc, .slice p2 qs.length q2], .int .i64 0]) (by simp [results, Tryz.results15, go_sem, e0, e1]) rfl ⟨⟨_, outK kk x bss bss.length, oss, 0, rfl, Or.inr (Or.inr ⟨_, g, g', ks0, pss0, unhide HST, unhide HKR, unhide HG1, unhide HG2, ?_, ?_, rfl, rfl⟩), _, _, rfl, ?_, ?_⟩, bput2 hBw (by omega) _ _⟩
        · rw [unhide HGB, unhide HX]; exact unhide HSR0
        · rw [unhide HGB, unhide HX, unhide HXE]; rfl
        · have h2 := (LB.footR (((unhide Hll).putlo (B := w.heap.size + 1) (o := 0) (u := .slice la ps.length lc) (by omega)).putlo (B := w.heap.size + 1) (o := 1) (u := .slice p2 qs.length q2) (by omega))).all (Nat.le_refl _)
          rw [unhide HLN] at h2
          exact h2
        · have h2 := (LB.footR (((unhide HLOf).putlo (B := w.heap.size + 1) (o := 0) (u := .slice la ps.length lc) (by omega)).putlo (B := w.heap.size + 1) (o := 1) (u := .slice p2 qs.length q2) (by omega))).all (Nat.le_refl _)
          rw [unhide HQS] at h2
          exact h2
  · have HST := hide hst
    obtain ⟨r0, r1, r2, r3⟩ := (unhide RR1).facts4
    clear hst
    go_wp2_with fail
    obtain ⟨e0, e1, -⟩ := (((unhide RR1).put0 (u := .slice none 0 0)).put1 (u := .slice none 0 0)).facts4
    exact bodyPost_ret (v := .tuple #[.agg #[.slice none 0 0, .slice none 0 0], .int .i64 4]) (by simp [results, Tryz.results15, go_sem, e0, e1]) rfl ⟨⟨_, [], [], 4, rfl, Or.inl ⟨unhide HST, rfl, rfl, rfl⟩, (StF.zero 0 0 _).rd (Nat.zero_le _)⟩, bput2 hB1 (by omega) _ _⟩

end Go.Proofs.YtbgjgaejfkdceaaGreat
