import Derived.Test.YtijejbdpagbmpaaDoorPb6
namespace Go.Proofs.YtijejbdpagbmpaaDoor
open Go.RowKit

set_option maxHeartbeats 16000000 in
set_option maxRecDepth 100000 in
theorem specPos_any (l r : Bool) (v : Value) (xs : List El) (w : World) (hv : ElsAt 0 w.heap.size w v xs) :
    Calls Tryd.prog 5 #[.agg #[.bool l, .bool r, v]] w fun e w' => ∃ v' S b F L W, e = .returned v' ∧ AnsA l r xs S b F L W ∧ AutoV w' v' S b F L W ∧ Below w.heap.size w w' := by
  obtain ⟨a, cp, rfl, -, -⟩ := id hv
  have Hv := hide hv
  obtain ⟨W0, hW0⟩ : ∃ W0, W0 = (w.alloc (.cells #[.bool l, .bool r, .slice a xs.length cp] 33)).alloc (.cells #[.slice none 0 0, .bool false, .slice none 0 0, .slice none 0 0, .slice none 0 0] 29) := ⟨_, rfl⟩
  have hz0 : W0.heap.size = w.heap.size + 2 := by rw [hW0, sz_alloc, sz_alloc]
  have hb0 : Below w.heap.size w W0 := by rw [hW0]; exact below2 w _ _
  have HC : Hid (∀ W, Below (w.heap.size + 2) W0 W → W.cell? ⟨w.heap.size, 0, none⟩ = some (.bool l) ∧ W.cell? ⟨w.heap.size, 1, none⟩ = some (.bool r) ∧ W.cell? ⟨w.heap.size, 2, none⟩ = some (.slice a xs.length cp)) := fun W hW => by
    have hW1 : Below (w.heap.size + 1) (w.alloc (.cells #[.bool l, .bool r, .slice a xs.length cp] 33)) W := by
      have := (below1 (w.alloc (.cells #[.bool l, .bool r, .slice a xs.length cp] 33)) (.cells #[.slice none 0 0, .bool false, .slice none 0 0, .slice none 0 0, .slice none 0 0] 29))
      rw [sz_alloc, ← hW0] at this
      exact this.trans (hW.mono (by omega))
    exact ⟨(hW1.cell (p := ⟨w.heap.size, 0, none⟩) (Nat.lt_succ_self _)).trans ((pushd_alloc w _).news 0 _ rfl), (hW1.cell (p := ⟨w.heap.size, 1, none⟩) (Nat.lt_succ_self _)).trans ((pushd_alloc w _).news 1 _ rfl), (hW1.cell (p := ⟨w.heap.size, 2, none⟩) (Nat.lt_succ_self _)).trans ((pushd_alloc w _).news 2 _ rfl)⟩
  have HR : Hid (Row5 W0 (w.heap.size + 1) (.slice none 0 0) false (.slice none 0 0) (.slice none 0 0) (.slice none 0 0)) := by
    have := Row5.new (w.alloc (.cells #[.bool l, .bool r, .slice a xs.length cp] 33)) (.slice none 0 0) false (.slice none 0 0) (.slice none 0 0) (.slice none 0 0)
    rw [sz_alloc, ← hW0] at this
    exact this
  have HW0 := hide hW0
  clear hv hW0
  go_enter Tryd.func5, Tryd.ntmps5
  go_wp2_with fail
  rw [← unhide HW0]
  clear HW0
  refine (specValid_any l r _ xs _ ((unhide Hv).below hb0 (Nat.le_refl _))).mono ?_
  rintro e w1 ⟨hret, hb1⟩
  have hz1 := hb1.size
  have HB1 := hide (hb1.mono (show w.heap.size + 2 ≤ W0.heap.size by omega))
  have HB01 := hide (hb0.trans (hb1.mono (by omega)))
  have HR1 := hide ((unhide HR).on ((unhide HB1).block _ (by omega)))
  clear hb1 hb0 HR
  rcases hret.cases with ⟨rfl, hok⟩ | ⟨rfl, hbad⟩
  · obtain ⟨k0, k1, k2⟩ := unhide HC _ (unhide HB1)
    obtain ⟨L0, hx, hn, hl, hsx, ⟨U, hpos⟩, -⟩ := valid_q closPos hok
    -- what the model finds at the whole list
    have hwh : ∃ U', PosS U' (whL l r L0) := by
      obtain ⟨g, hg⟩ := words_ex canon_all
      unfold whL
      cases l <;> cases r
      · exact ⟨_, closPos.cat (closPos.cat (closPos.all hg) hpos) (closPos.all hg)⟩
      · exact ⟨_, closPos.cat (closPos.all hg) hpos⟩
      · exact ⟨_, closPos.cat hpos (closPos.all hg)⟩
      · exact ⟨_, hpos⟩
    have hMl := whL_len l r L0
    have HNM := hide (nice_wh l r hn)
    have HL2 := hide (l2whole_any l r (.slice a xs.length cp) xs L0 w1 ((unhide Hv).below (unhide HB01) (Nat.le_refl _)) hok.1.2 hx hn hl)
    obtain ⟨M, hM⟩ : ∃ M, M = whL l r L0 := ⟨_, rfl⟩
    rw [← hM] at hwh hMl HNM HL2
    obtain ⟨U', A, ln, ss, c, -, hnu, hed, hso, hbd, hasc, hsm, hall⟩ := hwh
    have HANS : Hid (AnsA l r xs (setsOf M) A.nl (edg A false 0) (edg A true 0) (folL ln (lvs M))) := Or.inl ⟨hok, L0, A, ln, ss, hsx, hl, by rw [← hM]; exact hso, by rw [← hM], rfl, rfl, rfl, by rw [← hM]⟩
    have HNU := hide hnu
    have HED := hide hed
    have HSM := hide hsm
    have HALL := hide hall
    have HLN : Hid ((oRun ini M).ln = ln) := by
      show (oRun ini M).ln = ln
      rw [hso ini]
      simp [ini, shL0]
    have hMl2 : M.length ≤ 1006 := by omega
    have hlv := lvs_le M
    clear hret hok hx hn hsx hpos hM hMl hnu hed hso hbd hasc hsm hall hl
    go_wp2_with fail
    refine (unhide HL2).mono ?_
    rintro e w2 ⟨v2, rfl, hg2, hb2⟩
    have hz2 := hb2.size
    have HEL := hide (hg2.els (unhide HNM))
    obtain ⟨a2, c2, rfl⟩ := hg2.form
    have HB2 := hide ((unhide HB1).trans (hb2.mono (by omega)))
    have HB02 := hide ((unhide HB01).trans (hb2.mono (by omega)))
    have HR2 := hide ((unhide HR1).on (hb2.block _ (by omega)))
    clear hg2 hb2 HL2 k0 k1 k2 HB1 HB01 HR1
    have hr3 := Row5.new w2 (.slice none 0 0) false (.slice none 0 0) (.slice none 0 0) (.slice none 0 0)
    have hb3 := below1 w2 (.cells #[.slice none 0 0, .bool false, .slice none 0 0, .slice none 0 0, .slice none 0 0] 29)
    go_wp2_with fail
    go_loopw [5] (fun iv wr => ∃ (k : Nat) (sv : Value) (ps : List (Cl Int)), k ≤ M.length ∧ iv = .int .i64 k ∧ Row5 wr w2.heap.size sv false (.slice none 0 0) (.slice none 0 0) (.slice none 0 0) ∧ LI (w2.heap.size + 1) wr sv ps ∧ ps.map Cl.xs = setsOf (M.take k) ∧ Below w2.heap.size w2 wr) (fun iv _ => M.length - (intOf iv).toNat)
    case atStart => exact ⟨0, _, [], Nat.zero_le _, rfl, hr3, LL.nil, rfl, hb3⟩
    case round =>
      clear hr3 hb3
      obtain ⟨k, sv, ps, hk, rfl, hrow, hli, hps, hb⟩ := hrel
      have hszr := hrow.lt
      by_cases hlt : k < M.length
      · have hlt' : (k : Int) < (M.length : Int) := by omega
        obtain ⟨x1, x2, e9, -, hc⟩ := id (unhide HEL)
        cases e9
        obtain ⟨b, off, rfl, -, hbn, hel⟩ := hc (by omega)
        obtain ⟨i1, i2, i3, sv', c0, c1, c2', c3, hints⟩ := (hel k hlt).same (Same.of_below hb (Nat.le_refl _)) (Nat.zero_le _) hbn
        have hsk := (unhide HNM).len k
        have Hsv := hide (ints_sl (hints.mono (Nat.le_refl _) hb.size))
        have HNX := hide (setsOf_next hlt)
        generalize M[k]?.getD dE = x at *
        obtain ⟨sa', sc', rfl, -, -, -⟩ := id hints
        obtain ⟨sa, sc, rfl⟩ := own_is hli.own
        have hpl : ps.length ≤ 1006 := by
          have h1 := congrArg List.length hps
          rw [List.length_map, setsOf_len] at h1
          have h2 := lvs_le (M.take k)
          rw [List.length_take] at h2
          omega
        have hbw : b < wr.heap.size := by omega
        have HLI := hide hli
        have HPS := hide hps
        have HRW := hide hrow
        have HBB := hide hb
        clear hel hc hints i1 i2 i3 hli hps hrow hb c2' c3
        by_cases hq : x.kind = 1
        · go_wp2_with (first
            | (at_builtin; refine app_ints_own rfl _ _ rfl rfl _ rfl x.set (unhide Hsv) hsk ?_; intro sv1 w3 hb3 hown h1c; obtain ⟨pb, hpok, hplo⟩ := own_cl hown; obtain ⟨s1, s2, rfl⟩ := own_is hown; have hz3 := hb3.size; have HP := hide hpok; have HPL := hide hplo; have HB3 := hide hb3; have HLI3 := hide ((unhide HLI).keep hb3 (Nat.le_refl _)); have HR3 := hide ((unhide HRW).on (hb3.block _ (by omega))); obtain ⟨f0, f1, f2, f3, f4⟩ := (unhide HR3).facts; clear hown h1c hpok hplo hb3)
            | (at_builtin; refine app_list rfl _ _ rfl (p := ⟨.slice s1 x.set.length s2, x.set, pb⟩) (unhide HLI3) rfl (by omega) (unhide HP) (fun h0 => by have := unhide HPL h0; show w2.heap.size + 1 ≤ pb; omega) (fun q hq h0 h1 => by have h2 := unhide HPL h1; have h3 := ((unhide HLI).ok q hq).lt h0; show q.b ≠ pb; omega) (pushd_alloc w3 _) rfl (by omega) ?_; intro g cap w7 q1 q2 q3; have hnD : ¬ ((Value.slice sa ps.length sc).ownBlock = some w2.heap.size ∨ w3.heap.size ≤ w2.heap.size) := (by rintro (h | h); (have := ((unhide HLI).own.lt _ h).1; omega); omega); have HR7 := hide ((unhide HR3).on (q2.block _ hnD)); have HQ1 := hide q1; have HQ2 := hide q2; obtain ⟨g0, -, -, -, -⟩ := (unhide HR7).facts; have y0 := World.rowIs.frozen (unhide HR7) 0; clear q1 q2 q3 hnD))
          go_roundw
          case rel =>
            refine ⟨k + 1, _, ps ++ [⟨.slice s1 x.set.length s2, x.set, pb⟩], by omega, by go_num, (unhide HR7).put0 _, ?_, ?_, ?_⟩
            · exact (unhide HQ1).keepF (fun j hj => Below.heap_setCell _ _ _ _ (by have := (LI.lt (unhide HQ1) hj).1; show j ≠ w2.heap.size; omega))
            · rw [List.map_append, unhide HPS, unhide HNX, if_pos hq]; rfl
            · refine bput ((unhide HBB).trans (((unhide HB3).mono (by omega)).trans ((unhide HQ2).below (fun j hj => ?_)))) (Nat.le_refl _) _
              rintro (h | h)
              · have := ((unhide HLI).own.lt _ h).1; omega
              · omega
          case measure => simp [intOf]; omega
        · go_wp2
          go_roundw
          case rel => exact ⟨k + 1, _, ps, by omega, by go_num, unhide HRW, unhide HLI, by rw [unhide HPS, unhide HNX, if_neg hq, List.append_nil], unhide HBB⟩
          case measure => simp [intOf]; omega
      · obtain rfl : k = M.length := by omega
        rw [List.take_length] at hps
        obtain ⟨sa, sc, rfl⟩ := own_is hli.own
        have HPS := hide hps
        have HLI := hide hli
        have HRW := hide hrow
        have HB := hide hb
        clear hps hli hrow hb
        go_wp2_with fail
        refine (unhide HNU _ _ ((unhide HEL).below (unhide HB) (Nat.le_refl _)) (by omega)).mono ?_
        rintro e w4 ⟨rfl, hb4⟩
        have hz4 := hb4.size
        have hr4 := (unhide HRW).on (hb4.block _ (by omega))
        have HLI5 : Hid (LI (w2.heap.size + 1) (w4.setCell ⟨w2.heap.size, 1, none⟩ (.bool A.nl)) (.slice sa ps.length sc) ps) := LI.keepF ((unhide HLI).keep hb4 (Nat.le_refl _)) (fun j hj => Below.heap_setCell _ _ _ _ (by have := (LI.lt (unhide HLI) hj).1; show j ≠ w2.heap.size; omega))
        have HR5 := hide (hr4.put1 A.nl)
        have HB5 := hide (bput ((unhide HB).trans (hb4.mono (by omega))) (Nat.le_refl _) (o := 1) (.bool A.nl))
        obtain ⟨-, g1, -, -, -⟩ := hr4.facts
        have y1 := World.rowIs.frozen hr4 1
        have hz5 : (w4.setCell ⟨w2.heap.size, 1, none⟩ (.bool A.nl)).heap.size = w4.heap.size := sz_put _ _ _
        clear hb4 hr4 HLI HRW HB HNU
        go_wp2_with fail
        generalize w4.setCell ⟨w2.heap.size, 1, none⟩ (.bool A.nl) = w5 at *
        have HSL := hide (unhide HANS)
        obtain ⟨F, hF⟩ : ∃ F, F = edg A false 0 := ⟨_, rfl⟩
        obtain ⟨Z, hZ⟩ : ∃ Z, Z = edg A true 0 := ⟨_, rfl⟩
        have hFl : F.length ≤ 1006 := by have := edg_len (unhide HED) false 0; rw [← hF] at this; omega
        have hZl : Z.length ≤ 1006 := by have := edg_len (unhide HED) true 0; rw [← hZ] at this; omega
        have hE5 := (unhide HED).2.2 (.slice a2 M.length c2) w5 0 false ((unhide HEL).below (unhide HB5) (Nat.le_refl _)) (by omega) (by omega)
        rw [← hF] at hE5
        have HE5 := hide hE5
        have HFq := hide hF
        have HZq := hide hZ
        clear hE5 HSL g1 y1 hF hZ
        refine (unhide HE5).mono ?_
        rintro e w6 ⟨fv, rfl, hf6, hb6⟩
        obtain ⟨fa, fc, rfl⟩ := own_is hf6
        have hz6 := hb6.size
        have hr6 := (unhide HR5).on (hb6.block _ (by omega))
        have HLI7 : Hid (LI (w2.heap.size + 1) (w6.setCell ⟨w2.heap.size, 2, none⟩ (.slice fa F.length fc)) (.slice sa ps.length sc) ps) := LI.keepF ((unhide HLI5).keep hb6 (Nat.le_refl _)) (fun j hj => Below.heap_setCell _ _ _ _ (by have := (LI.lt (unhide HLI5) hj).1; show j ≠ w2.heap.size; omega))
        have HR7 := hide (hr6.put2 (.slice fa F.length fc))
        have HB7 := hide (bput ((unhide HB5).trans (hb6.mono (by omega))) (Nat.le_refl _) (o := 2) (.slice fa F.length fc))
        have HF7 : Hid ((w6.setCell ⟨w2.heap.size, 2, none⟩ (.slice fa F.length fc)).ownsRow w5.heap.size 3 1 (.slice fa F.length fc) F.length (F.map mI)) := own_blk hf6 (fun q hq => Below.heap_setCell _ _ _ _ (by have := (hf6.lt q hq).1; show q ≠ w2.heap.size; omega))
        obtain ⟨-, -, g2, -, -⟩ := hr6.facts
        have y2 := World.rowIs.frozen hr6 2
        have hz7 : (w6.setCell ⟨w2.heap.size, 2, none⟩ (.slice fa F.length fc)).heap.size = w6.heap.size := sz_put _ _ _
        clear hb6 hr6 hf6 HLI5 HR5 HB5 HE5
        go_wp2_with fail
        generalize w6.setCell ⟨w2.heap.size, 2, none⟩ (.slice fa F.length fc) = w7 at *
        have hE7 := (unhide HED).2.2 (.slice a2 M.length c2) w7 0 true ((unhide HEL).below (unhide HB7) (Nat.le_refl _)) (by omega) (by omega)
        rw [← unhide HZq] at hE7
        have HE7 := hide hE7
        clear hE7 g2 y2
        refine (unhide HE7).mono ?_
        rintro e w8 ⟨lv, rfl, hl8, hb8⟩
        obtain ⟨la, lc, rfl⟩ := own_is hl8
        have hz8 := hb8.size
        have hr8 := (unhide HR7).on (hb8.block _ (by omega))
        have HLI9 : Hid (LI (w2.heap.size + 1) (w8.setCell ⟨w2.heap.size, 3, none⟩ (.slice la Z.length lc)) (.slice sa ps.length sc) ps) := LI.keepF ((unhide HLI7).keep hb8 (Nat.le_refl _)) (fun j hj => Below.heap_setCell _ _ _ _ (by have := (LI.lt (unhide HLI7) hj).1; show j ≠ w2.heap.size; omega))
        have HR9 := hide (hr8.put3 (.slice la Z.length lc))
        have HB9 := hide (bput ((unhide HB7).trans (hb8.mono (by omega))) (Nat.le_refl _) (o := 3) (.slice la Z.length lc))
        have HF9 : Hid ((w8.setCell ⟨w2.heap.size, 3, none⟩ (.slice la Z.length lc)).ownsRow (w2.heap.size + 1) 3 1 (.slice fa F.length fc) F.length (F.map mI)) := own_low (own_blk (unhide HF7) (fun q hq => (Below.heap_setCell _ _ _ _ (by have := ((unhide HF7).lt q hq).1; show q ≠ w2.heap.size; omega)).trans (hb8.block q ((unhide HF7).lt q hq).2))) (by omega)
        have HL9 : Hid ((w8.setCell ⟨w2.heap.size, 3, none⟩ (.slice la Z.length lc)).ownsRow (w2.heap.size + 1) 3 1 (.slice la Z.length lc) Z.length (Z.map mI)) := own_low (own_blk hl8 (fun q hq => Below.heap_setCell _ _ _ _ (by have := (hl8.lt q hq).1; show q ≠ w2.heap.size; omega))) (by omega)
        obtain ⟨-, -, -, g3, -⟩ := hr8.facts
        have y3 := World.rowIs.frozen hr8 3
        have hz9 : (w8.setCell ⟨w2.heap.size, 3, none⟩ (.slice la Z.length lc)).heap.size = w8.heap.size := sz_put _ _ _
        clear hb8 hr8 hl8 HLI7 HR7 HB7 HE7 HF7
        go_wp2_with fail
        generalize w8.setCell ⟨w2.heap.size, 3, none⟩ (.slice la Z.length lc) = w9 at *
        have hK := l2marks_any (.slice a2 M.length c2) M w9 ((unhide HEL).below (unhide HB9) (Nat.le_refl _)) (by omega) (unhide HALL) (unhide HSM).ws (fun k h1 h2 => (unhide HSM).tl k (by omega) h2)
        rw [unhide HLN] at hK
        obtain ⟨n, hn⟩ : ∃ n, n = lvs M := ⟨_, rfl⟩
        rw [← unhide HFq, ← unhide HZq, ← hn] at HANS
        rw [← hn] at hK hlv
        have HK := hide hK
        clear hK g3 y3 hn HFq HZq
        refine (unhide HK).mono ?_
        rintro e w10 ⟨G, gc, rfl, hG, hmx, hG2, hb10⟩
        have HMX := hide hmx
        have HLI10 := hide ((unhide HLI9).keep hb10 (Nat.le_refl _))
        have HR10 := hide ((unhide HR9).on (hb10.block _ (by omega)))
        have HB10 := hide ((unhide HB9).trans (hb10.mono (by omega)))
        have HF10 := hide (own_keep (unhide HF9) hb10 (Nat.le_refl _))
        have HL10 := hide (own_keep (unhide HL9) hb10 (Nat.le_refl _))
        have hz10 := hb10.size
        clear hmx hb10 HK HLI9 HR9 HB9 HF9 HL9 HLN HALL HSM HED HNM
        go_wp2_with fail
        go_loopw [8] (fun iv wr => ∃ (i : Nat) (wv : Value) (qs : List (Cl Int)), i ≤ n ∧ iv = .int .i64 i ∧ Row5 wr w2.heap.size (.slice sa ps.length sc) A.nl (.slice fa F.length fc) (.slice la Z.length lc) wv ∧ LI w10.heap.size wr wv qs ∧ qs.map Cl.xs = (folL ln n).take i ∧ FrO (fun k => k = w2.heap.size ∨ w10.heap.size ≤ k) w10 wr) (fun iv _ => n - (intOf iv).toNat)
        case atStart => exact ⟨0, _, [], Nat.zero_le _, rfl, unhide HR10, LL.nil, by simp, FrO.refl _ _⟩
        case round =>
          obtain ⟨i, wv, qs, hi, rfl, hrow, hli, hqs, hfr⟩ := hrel
          obtain ⟨V, rfl⟩ : ∃ V, V = wr := ⟨_, rfl⟩
          have hfz := hfr.size
          obtain ⟨wa, wc, rfl⟩ := own_is hli.own
          have hql : qs.length ≤ 1006 := by
            have h1 := congrArg List.length hqs
            rw [List.length_map, List.length_take] at h1
            omega
          have HQS := hide hqs
          have HLW := hide hli
          have HRW := hide hrow
          have HFR := hide hfr
          by_cases hlt : i < n
          · have hlt' : (i : Int) < (n : Int) := by omega
            have hmx := (unhide HMX).on (w' := V) (fun k h1 h2 => hfr.block k (by rintro (h | h) <;> omega))
            have t0 := hmx.top.cell hlt
            have HRI := hide (hmx.row i hlt)
            have HTI := hide hmx.top
            clear hqs hli hrow hfr hmx
            go_wp2_with fail
            go_loopw [9, 10] (fun fvv jv wq => ∃ (j : Nat) (os : List Int), j ≤ n ∧ jv = .int .i64 j ∧ wq.ownsRow V.heap.size 3 1 fvv os.length (os.map mI) ∧ os = ((List.range j).filter (mkd ln i)).map (fun j : Nat => (j : Int)) ∧ Below V.heap.size V wq) (fun _ jv _ => n - (intOf jv).toNat)
            case atStart => exact ⟨0, [], Nat.zero_le _, rfl, World.ownsRow_nil _ _ _ _, rfl, Below.refl _ _⟩
            case round =>
              clear t0
              obtain ⟨j, os, hj, rfl, hown, hos, hb⟩ := hrel
              obtain ⟨fva, fvc, rfl⟩ := own_is hown
              have hbz := hb.size
              by_cases hlj : j < n
              · have hlj' : (j : Int) < (n : Int) := by omega
                have t0 := ((unhide HTI).of_block (hb.block _ (by omega))).cell hlt
                have t1 := ((unhide HRI).of_block (hb.block _ (by omega))).cell hlj
                have hol : os.length ≤ 1006 := by
                  rw [hos, List.length_map]
                  have := List.length_filter_le (mkd ln i) (List.range j)
                  rw [List.length_range] at this
                  omega
                have HNX := hide (folR_next ln i j)
                have HOS := hide hos
                have HOWN := hide hown
                have HBB := hide hb
                generalize mkd ln i j = bb at *
                clear hos hown hb
                cases bb
                · go_wp2
                  go_roundw
                  case rel => exact ⟨j + 1, os, by omega, by go_num, unhide HOWN, by rw [unhide HNX, ← unhide HOS]; simp, unhide HBB⟩
                  case measure => simp [intOf]; omega
                · go_wp2_with (at_builtin; refine app_int1 rfl _ _ rfl (u := (j : Int)) (unhide HOWN) rfl (by omega) (pushd_alloc wr _) rfl (by omega) ?_; intro v7 w7 q1 q2; obtain ⟨Y, hY⟩ : ∃ Y, Y = os ++ [(j : Int)] := ⟨_, rfl⟩; rw [← hY] at q1; obtain ⟨ya, yc, rfl⟩ := own_is q1; have HY := hide hY; have HQ1 := hide q1; have HQ2 := hide q2; clear q1 q2 hY)
                  go_roundw
                  case rel => exact ⟨j + 1, Y, by omega, by go_num, unhide HQ1, by rw [unhide HNX, ← unhide HOS, unhide HY]; simp, (unhide HBB).trans (unhide HQ2)⟩
                  case measure => simp [intOf]; omega
              · obtain rfl : j = n := by omega
                have HOS : Hid (os = folR ln j i) := hos
                obtain ⟨pb, hpok, hplo⟩ := own_cl hown
                have t0 := ((unhide HTI).of_block (hb.block _ (by omega))).cell hlt
                have hDV := (unhide HRW).lt
                have HP := hide hpok
                have HPL := hide hplo
                have HLW2 := hide ((unhide HLW).keep hb (Nat.le_refl _))
                have HRW2 := hide ((unhide HRW).on (hb.block _ hDV))
                have HBB := hide hb
                obtain ⟨-, -, -, -, f4⟩ := (unhide HRW2).facts
                clear hos hown hb hpok hplo
                go_wp2_with (at_builtin; refine app_list rfl _ _ rfl (p := ⟨.slice fva os.length fvc, os, pb⟩) (unhide HLW2) rfl (by omega) (unhide HP) (fun h0 => by have := unhide HPL h0; show w10.heap.size ≤ pb; omega) (fun q hq h0 h1 => by have h2 := unhide HPL h1; have h3 := ((unhide HLW).ok q hq).lt h0; show q.b ≠ pb; omega) (pushd_alloc wr _) rfl (by omega) ?_; intro g cap w7 q1 q2 q3; have hnD : ¬ ((Value.slice wa qs.length wc).ownBlock = some w2.heap.size ∨ wr.heap.size ≤ w2.heap.size) := (by rintro (h | h); (have := ((unhide HLW).own.lt _ h).1; omega); omega); have HR7 := hide ((unhide HRW2).on (q2.block _ hnD)); have HQ1 := hide q1; have HQ2 := hide q2; obtain ⟨-, -, -, -, g4⟩ := (unhide HR7).facts; have y4 := World.rowIs.frozen (unhide HR7) 4; clear q1 q2 q3 hnD)
                go_roundw
                case rel =>
                  refine ⟨i + 1, _, qs ++ [⟨.slice fva os.length fvc, os, pb⟩], by omega, by go_num, (unhide HR7).put4 _, ?_, ?_, ?_⟩
                  · exact LI.keepF (unhide HQ1) (fun k hk => Below.heap_setCell _ _ _ _ (by have := (LI.lt (unhide HQ1) hk).1; show k ≠ w2.heap.size; omega))
                  · rw [List.map_append, unhide HQS, folL_next _ _ _ hlt, ← unhide HOS]; rfl
                  · refine (unhide HFR).trans ((fro_of (unhide HBB) (fun k hk => Or.inr (by omega))).trans (((unhide HQ2).mono (fun k hk => ?_)).trans ((obk_put _ _).fro (Or.inl rfl))))
                    rcases hk with hk | hk
                    · exact Or.inr ((unhide HLW).own.lt _ hk).1
                    · exact Or.inr (by omega)
                case measure => simp [intOf]; omega
          · obtain rfl : i = n := by omega
            have hfull : qs.map Cl.xs = folL ln i := by rw [hqs, List.take_of_length_le (by simp [folL])]
            have HFULL := hide hfull
            have hRA := ((unhide HR2).on ((unhide HB10).block _ (by omega))).on (hfr.block _ (by rintro (h | h) <;> omega))
            have HRA := hide hRA
            have HLS := hide (LI.keepF (w' := V) (unhide HLI10) (fun k hk => hfr.block k (by have := LI.lt (unhide HLI10) hk; rintro (h | h) <;> omega)))
            have HFS := hide (own_blk (w' := V) (unhide HF10) (fun k hk => hfr.block k (by have := (unhide HF10).lt k hk; rintro (h | h) <;> omega)))
            have HZS := hide (own_blk (w' := V) (unhide HL10) (fun k hk => hfr.block k (by have := (unhide HL10).lt k hk; rintro (h | h) <;> omega)))
            clear hqs hfull hli hrow hfr hRA
            go_wp2_with (first | (refine wpList_load_row rfl 29 (.tmp 4) rfl w2.heap.size (by first | (simp [Act.eval]; done) | (simp [Act.eval, Act.put]; done)) 29 _ _ _ (Row5.blk (unhide HRW)) Tryd.underlying29 rfl (by kernel_rfl) ?_) | (refine wpList_store_row rfl 29 (.tmp 2) (.tmp 85) rfl (w.heap.size + 1) #[.slice sa ps.length sc, .bool A.nl, .slice fa F.length fc, .slice la Z.length lc, .slice wa qs.length wc] (by first | (simp [Act.eval]; done) | (simp [Act.eval, Act.put]; done)) (by first | (simp [Act.eval]; done) | (simp [Act.eval, Act.put]; done)) 29 _ (Row5.blk (unhide HRA)) (by kernel_rfl) rfl (all5 _ _ _ _ _ _ _ _ _ _ _ _ _) ?_))
            refine bodyPost_ret (au_ret (Row5.row (unhide HRA) _ _ _ _ _) rfl _ rfl) rfl ?_
            have hset : ∀ k, k ≠ w.heap.size + 1 → (V.setRow (w.heap.size + 1) #[.slice sa ps.length sc, .bool A.nl, .slice fa F.length fc, .slice la Z.length lc, .slice wa qs.length wc]).heap[k]? = V.heap[k]? := fun k hk => setRow_other _ _ _ _ hk
            generalize hWF : V.setRow (w.heap.size + 1) #[.slice sa ps.length sc, .bool A.nl, .slice fa F.length fc, .slice la Z.length lc, .slice wa qs.length wc] = WF at *
            have l1 : LI _ WF _ ps := LI.keepF (unhide HLS) (fun k hk => hset k (by have := (LI.lt (unhide HLS) hk).1; omega))
            have l2 : LI _ WF _ qs := LI.keepF (unhide HLW) (fun k hk => hset k (by have := (LI.lt (unhide HLW) hk).1; omega))
            have l3 := own_blk (w' := WF) (unhide HFS) (fun k hk => hset k (by have := ((unhide HFS).lt k hk).1; omega))
            have l4 := own_blk (w' := WF) (unhide HZS) (fun k hk => hset k (by have := ((unhide HZS).lt k hk).1; omega))
            have hpl : ps.length ≤ 1006 := by
              have h1 := congrArg List.length (unhide HPS)
              rw [List.length_map, setsOf_len] at h1
              have h2 := lvs_le M
              omega
            refine ⟨_, setsOf M, A.nl, F, Z, folL ln i, rfl, unhide HANS, ⟨_, _, _, _, rfl, ?_, (own_slw l3 (Nat.zero_le _) (by unfold maxLen; omega)).at, (own_slw l4 (Nat.zero_le _) (by unfold maxLen; omega)).at, ?_⟩, ?_⟩
            · have := (l1.footX (by unfold maxLen; omega)).at (fun k hk => (l1.lt hk).2)
              rw [unhide HPS] at this
              exact this
            · have := (l2.footX (by unfold maxLen; omega)).at (fun k hk => (l2.lt hk).2)
              rw [unhide HFULL] at this
              exact this
            · rw [← hWF]
              exact ((unhide HB02).trans ((unhide HB10).mono (by omega))).trans (((unhide HFR).below (m := w.heap.size) (fun k hk => by rintro (h | h) <;> omega)).trans ((row_obk _ _ _).below (by omega)))
  · have HANS : Hid (AnsA l r xs [] false [] [] []) := Or.inr ⟨hbad, rfl, rfl, rfl, rfl, rfl⟩
    clear hret hbad
    go_wp2_with (refine wpList_store_row rfl 29 (.tmp 2) (.tmp 14) rfl (w.heap.size + 1) #[.slice none 0 0, .bool false, .slice none 0 0, .slice none 0 0, .slice none 0 0] (by simp [Act.eval]) (by simp [Act.eval]) 29 _ (Row5.blk (unhide HR1)) (by kernel_rfl) rfl (all5 _ _ _ _ _ _ _ _ _ _ _ _ _) ?_)
    refine bodyPost_ret (au_ret (Row5.row (unhide HR1) _ _ _ _ _) rfl _ rfl) rfl ?_
    have hn : ∀ (w' : World), SsAt mI 0 w'.heap.size w' (.slice none 0 0) [] := fun w' => (SsF.nil mI 0 (fun _ => False) w' none 0 (Nat.zero_le _)).at (fun _ h => h.elim)
    have hn2 : ∀ (w' : World), SlAt mI 0 0 w'.heap.size w' (.slice none 0 0) [] := fun w' => ⟨none, 0, rfl, by unfold maxLen; simp, fun h => absurd h (by simp)⟩
    exact ⟨_, [], false, [], [], [], rfl, unhide HANS, ⟨_, _, _, _, rfl, hn _, hn2 _, hn2 _, hn _⟩, (unhide HB01).trans ((row_obk _ _ _).below (by omega))⟩

end Go.Proofs.YtijejbdpagbmpaaDoor
