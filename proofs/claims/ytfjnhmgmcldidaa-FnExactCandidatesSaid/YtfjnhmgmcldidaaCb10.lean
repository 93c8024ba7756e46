import Derived.Test.YtfjnhmgmcldidaaCb9
namespace Go.Proofs.Ytfjnhmgmcldidaa
open Go.RowKit

theorem blk_len_le {hw : Int → Nat → Nat} (ts : List Int) (g : Nat → Nat) : (blkOf (mAll hw g ts) 16).length ≤ (blkOf g 16).length := by
  unfold blkOf
  rw [List.length_map, List.length_map, ← List.countP_eq_length_filter, ← List.countP_eq_length_filter]
  refine List.countP_mono_left (fun j _ h => ?_)
  simp at h ⊢
  intro e
  exact h (mAll_zero ts e)
theorem ln_clr {w : World} {B pn pb : Nat} {G : Nat → Nat} (h : w.rowIs B 55 16 (lnW G)) : ((w.setCell ⟨B, pn, none⟩ (.int .u64 (anb (G pn) pb : Nat))).drew).rowIs B 55 16 (lnW (lnX G (pn, pb))) :=
  ((h.set pn _).congr (fun j _ => by unfold lnW lnX; by_cases e : j = pn <;> simp [e])).drew

set_option maxHeartbeats 8000000 in
set_option maxRecDepth 100000 in
theorem implCand_any (v u : Value) (base : Int) (xss pss qss : List (List Int)) (ks : List Int) (w : World) (hv : SegRd w v base xss ks pss) (hu : SsAt mI 0 w.heap.size w u qss) (hb : In64' base) (hk : ∀ i : Nat, In64' (ks[i]?.getD 0)) (hp : ∀ k i : Nat, In64' ((pss[k]?.getD [])[i]?.getD 0)) (hqi : ∀ k i : Nat, In64' ((qss[k]?.getD [])[i]?.getD 0)) :
    Calls Try.prog 9 #[v, .agg #[u]] w fun e w' => ∃ ov, e = .returned ov ∧ w'.ownsRow w.heap.size 3 1 ov (cndA base xss ks pss qss).length ((cndA base xss ks pss qss).map mI) ∧ Below w.heap.size w w' := by
  obtain ⟨lv, kv, pv, rfl, h1, h2, h3⟩ := id hv
  obtain ⟨la, lc, rfl, -, -⟩ := id h1
  obtain ⟨ka, kc, rfl, -, -⟩ := id h2
  obtain ⟨pa, pc, rfl, -, -⟩ := id h3
  obtain ⟨ua, uc, rfl, hul, hus⟩ := ss_at hu
  obtain ⟨n, hnl⟩ : ∃ n, n = xss.length := ⟨_, rfl⟩
  obtain ⟨W2, hW2⟩ : ∃ W2, W2 = (w.alloc (.cells #[.int .i64 base, .slice la xss.length lc, .slice ka ks.length kc, .slice pa pss.length pc] 32)).alloc (.cells #[.slice ua qss.length uc] 34) := ⟨_, rfl⟩
  have hB2 : Below w.heap.size w W2 := by rw [hW2]; exact below2 w _ _
  have hz2 : W2.heap.size = w.heap.size + 2 := by rw [hW2, sz_alloc, sz_alloc]
  have hR2 : Row4 W2 w.heap.size 32 (.int .i64 base) (.slice la xss.length lc) (.slice ka ks.length kc) (.slice pa pss.length pc) := by rw [hW2]; exact (Row4.new w _ _ _ _ _).alloc _
  have hq : W2.cell? ⟨w.heap.size + 1, 0, none⟩ = some (.slice ua qss.length uc) := by
    have := (pushd_al (w.alloc (.cells #[.int .i64 base, .slice la xss.length lc, .slice ka ks.length kc, .slice pa pss.length pc] 32)) (.cells #[.slice ua qss.length uc] 34)).news 0 _ rfl
    rw [sz_alloc] at this
    rw [hW2]
    exact this
  have HWI := hide (within_any _ _ base xss pss qss ks W2 (hv.below hB2 (Nat.le_refl _)) (hu.below hB2 (Nat.le_refl _)))
  obtain ⟨k0, k1, k2, k3, -⟩ := hR2.facts
  have HUS : Hid (∀ W, Below w.heap.size w W → ∀ j : Nat, j < qss.length → ∃ b off sa sc, ua = some ⟨b, off, none⟩ ∧ W.cell? ⟨b, off + j, none⟩ = some (.slice sa (qss[j]?.getD []).length sc) ∧ ∀ W, Below w.heap.size w W → SlAt mI 0 0 W.heap.size W (.slice sa (qss[j]?.getD []).length sc) (qss[j]?.getD [])) := fun W hW j hj => by
    obtain ⟨b, off, sa, sc, rfl, hb, hcell, hsl, -⟩ := hus j hj
    exact ⟨b, off, sa, sc, rfl, by rw [hW.cell (p := ⟨b, off + j, none⟩) hb]; exact hcell, fun W hW => hsl.below hW (Nat.le_refl _)⟩
  have HV := hide hv
  have HU := hide hu
  have HW2 := hide hW2
  have HB2 := hide hB2
  have HR2 := hide hR2
  have HQ := hide hq
  have HBI := hide hb
  have HKI := hide hk
  have HPI := hide hp
  have HQI := hide hqi
  have hz2' : w.heap.size + 2 ≤ W2.heap.size := by omega
  obtain ⟨R, hR⟩ : ∃ R, R = cndA base xss ks pss qss := ⟨_, rfl⟩
  rw [← hR]
  have HRR := hide hR
  clear h1 h2 h3 hu hus hW2 hB2 hR2 hz2 hv hR hb hk hp hqi
  go_enter Try.func9, Try.ntmps9
  go_wp2_with fail
  rw [← unhide HW2]
  clear HW2
  refine (unhide HWI).mono ?_
  rintro e w3 ⟨hret, hb3⟩
  have hz3 := hb3.size
  have hB3 : Below w.heap.size w w3 := (unhide HB2).trans (hb3.mono (by omega))
  rcases hret.cases.symm with ⟨rfl, hno⟩ | ⟨rfl, hyes⟩
  · have HX : Hid (R = []) := by rw [unhide HRR]; exact cndA_no hno
    clear hno hb3
    go_wp2
    go_ret
    rw [unhide HX]
    exact ⟨_, rfl, World.ownsRow_nil _ _ _ _, hB3⟩
  · have HRC := hide hyes
    have hn := hyes.1
    have hql := hyes.2.2.2.1
    have HRE : Hid (R = cndL base n (smB base ks pss qss qss.length)) := by rw [unhide HRR, hnl]; exact cndA_yes hyes
    have hR3 := World.rowIs.of_block (unhide HR2) (hb3.block w.heap.size (by omega))
    have hq3 : w3.cell? ⟨w.heap.size + 1, 0, none⟩ = some (.slice ua qss.length uc) := by rw [hb3.cell (p := ⟨w.heap.size + 1, 0, none⟩) (by show w.heap.size + 1 < _; omega)]; exact unhide HQ
    obtain ⟨k0, k1, k2, k3, -⟩ := Row4.facts hR3
    have HLL := hide (listedLines_any _ _ base xss pss qss ks w3 ((unhide HV).below hB3 (Nat.le_refl _)) ((unhide HU).below hB3 (Nat.le_refl _)) hyes (unhide HBI) (unhide HKI) (unhide HPI) (unhide HQI))
    have HR3 := hide hR3
    have HQ3 := hide hq3
    have HB3 := hide hB3
    clear hyes hb3 hR3 hB3 HWI hq
    go_wp2_with fail
    refine (unhide HLL).mono ?_
    rintro e w4 hLl
    obtain ⟨mb, nn, dom, mL, hw, rfl, hM, hmb, hb4, hwf, hwL⟩ := hLl
    have hz4 := hb4.size
    obtain ⟨B, hB⟩ : ∃ B, B = w4.heap.size := ⟨_, rfl⟩
    obtain ⟨W5, hW5⟩ : ∃ W5, W5 = w4.alloc (.cells #[.int .u64 0, .int .u64 0, .int .u64 0, .int .u64 0, .int .u64 0, .int .u64 0, .int .u64 0, .int .u64 0, .int .u64 0, .int .u64 0, .int .u64 0, .int .u64 0, .int .u64 0, .int .u64 0, .int .u64 0, .int .u64 0] 55) := ⟨_, rfl⟩
    have hS5 : W5.rowIs B 55 16 (lnW (fun _ => 0)) := by rw [hW5, hB]; exact ln_new w4
    have hb45 : Below B w4 W5 := by rw [hW5, hB]; exact below1 w4 _
    have hz5 : W5.heap.size = B + 1 := by rw [hW5, sz_alloc, hB]
    have hR5 : Row4 W5 w.heap.size 32 (.int .i64 base) (.slice la xss.length lc) (.slice ka ks.length kc) (.slice pa pss.length pc) := World.rowIs.of_block (unhide HR3) ((hb45.block w.heap.size (by omega)).trans (hb4.block w.heap.size (by omega)))
    have hq5 : W5.cell? ⟨w.heap.size + 1, 0, none⟩ = some (.slice ua qss.length uc) := by rw [hb45.cell (p := ⟨w.heap.size + 1, 0, none⟩) (by show w.heap.size + 1 < _; omega), hb4.cell (p := ⟨w.heap.size + 1, 0, none⟩) (by show w.heap.size + 1 < _; omega)]; exact unhide HQ3
    have hBw : w.heap.size + 2 ≤ B := by omega
    have hB4 : Below w.heap.size w w4 := (unhide HB3).trans (hb4.mono (by omega))
    have hB5 : Below w.heap.size w W5 := hB4.trans (hb45.mono (by omega))
    have HKP : Hid (∀ (W : World) (gg : Nat), Below B W5 W → B ≤ gg → ∀ c : Nat, c < qss.length → MpAt W mb nn dom mL ∧ ∀ t ∈ qss[c]?.getD [], BlR W (mL t) (hw t) gg) := fun W gg hW hgg c hc => by
      have h4 : ∀ k, k < B → W.heap[k]? = w4.heap[k]? := fun k hk => (hW.block k hk).trans (hb45.block k hk)
      refine ⟨hM.keep (h4 mb (by rw [hB]; exact hM.lt)), fun t ht => ?_⟩
      have ho := (hwL c t hc ht).2
      exact own_blr (own_blk ho (fun q hq => h4 q (by rw [hB]; exact (ho.lt q hq).2))) (fun q hq => by have := (ho.lt q hq).2; omega)
    have HLN : Hid (∀ c : Nat, c < qss.length → ∀ t ∈ qss[c]?.getD [], LnD base n (hw t) (plD pss (jsOf ks t (min ks.length pss.length)))) := fun c hc t ht => by rw [hnl]; exact (hwL c t hc ht).1
    have HWF := hide hwf
    have HS5 := hide hS5
    have HR5 := hide hR5
    have HQ5 := hide hq5
    have HB5 := hide hB5
    have HW5 := hide hW5
    have hz5' : B + 1 ≤ W5.heap.size := by omega
    have HB := hide hB
    obtain ⟨k0, k1, k2, k3, -⟩ := Row4.facts hR5
    clear hM hb4 hwf hwL hS5 hb45 hR5 hq5 hB4 hB5 hz5 hq3 HLL HR3 HQ3 hB
    rw [unhide HW5] at k0 k1 k2 k3
    clear hW5
    go_wp2_with fail
    rw [← unhide HW5, ← unhide HB]
    clear HW5 HB k0 k1 k2 k3
    go_loopw [24] (fun iv wr => ∃ (i : Nat) (g : Nat → Nat), i ≤ xss.length ∧ iv = .int .i64 (i : Nat) ∧ wr.rowIs B 55 16 (lnW g) ∧ LnU i g ∧ Obk B W5 wr) (fun iv _ => xss.length - (intOf iv).toNat)
    case atStart => exact ⟨0, _, by omega, rfl, unhide HS5, LnU.zero, ⟨rfl, rfl, rfl, rfl, fun _ _ => rfl⟩⟩
    case round =>
      clear HS5
      obtain ⟨i, g, hi, rfl, hS, hU, hob⟩ := hrel
      obtain ⟨w6, rfl⟩ : ∃ w6, w6 = wr := ⟨_, rfl⟩
      by_cases hil : i < xss.length
      · have hil' : (i : Int) < (xss.length : Int) := by omega
        have HPU := hide (lnPut_any B i g w6 hU.1 (by omega) hS)
        have HU2 := hide hU.next
        have HOB := hide hob
        clear hS hU hob
        go_wp2_with fail
        refine (unhide HPU).mono ?_
        rintro e w7 ⟨rfl, hS7, hob7⟩
        have HS7 := hide hS7
        have HOB7 := hide ((unhide HOB).trans hob7)
        clear hS7 hob7 HPU HOB
        go_wp2
        go_roundw
        case rel => exact ⟨i + 1, _, by omega, by go_num, unhide HS7, unhide HU2, unhide HOB7⟩
        case measure => simp [intOf]; omega
      · have hil' : ¬ (i : Int) < (xss.length : Int) := by omega
        have HRS : Hid (RsI base n ks pss qss 0 g) := by rw [show n = i by omega]; exact hU.rsI base ks pss qss
        have HS := hide hS
        have hz6 : B + 1 ≤ w6.heap.size := by rw [hob.size]; exact hz5'
        have HF6 : Hid (FrO (fun k => k = B ∨ B + 1 ≤ k) W5 w6) := ⟨hob.os, hob.tape, hob.output, by rw [hob.size]; exact Nat.le_refl _, fun k hk => hob.block k (fun e => hk (.inl e))⟩
        have hq6 : w6.cell? ⟨w.heap.size + 1, 0, none⟩ = some (.slice ua qss.length uc) := by rw [World.cell?_of_block (a := ⟨w.heap.size + 1, 0, none⟩) (hob.block (w.heap.size + 1) (by omega))]; exact unhide HQ5
        clear hS hU hob
        go_wp2_with fail
        clear hq6
        go_loopw [33] (fun cv wr => ∃ (c : Nat) (g : Nat → Nat), c ≤ qss.length ∧ cv = .int .i64 (c : Nat) ∧ wr.rowIs B 55 16 (lnW g) ∧ RsI base n ks pss qss c g ∧ FrO (fun k => k = B ∨ B + 1 ≤ k) W5 wr) (fun cv _ => qss.length - (intOf cv).toNat)
        case atStart => exact ⟨0, _, by omega, rfl, unhide HS, unhide HRS, unhide HF6⟩
        case round =>
          clear HS HRS HF6
          obtain ⟨c, g, hc, rfl, hS, hRs, hfr⟩ := hrel
          obtain ⟨w7, rfl⟩ : ∃ w7, w7 = wr := ⟨_, rfl⟩
          have hz7 := hfr.size
          have hb57 : Below B W5 w7 := hfr.below (fun k hk hg => by rcases hg with q | q <;> omega)
          have hB7 : Below w.heap.size w w7 := (unhide HB5).trans (hb57.mono (by omega))
          by_cases hcl : c < qss.length
          · have hcl' : (c : Int) < (qss.length : Int) := by omega
            obtain ⟨qb, qo, sa, sc, rfl, z0, hqs⟩ := unhide HUS w7 hB7 c hcl
            obtain ⟨ts, hts⟩ : ∃ ts, ts = qss[c]?.getD [] := ⟨_, rfl⟩
            rw [← hts] at z0 hqs
            have HRN : Hid (RsI base n ks pss qss (c + 1) ((blkOf (mAll hw g ts) 16).foldl lnX g)) := by rw [hts]; exact hRs.next (unhide HLN c hcl) (by omega)
            have HBL := hide (blocks_any B g w7 hS)
            have htl : ts.length ≤ 1000 := by rw [hts]; exact (unhide HRC).2.2.2.2 c hcl
            have HTI : Hid (∀ t ∈ ts, In64' t) := fun t ht => by
              obtain ⟨j, hj, e9⟩ := List.getElem_of_mem ht
              have := unhide HQI c j
              rw [← hts, List.getElem?_eq_getElem hj] at this
              simpa [e9] using this
            have HKT : Hid (∀ (W : World) (gg : Nat), Below B W5 W → B ≤ gg → MpAt W mb nn dom mL ∧ ∀ t ∈ ts, BlR W (mL t) (hw t) gg) := fun W gg h1 h2 => by rw [hts]; exact unhide HKP W gg h1 h2 c hcl
            have HQS := hide hqs
            have HS := hide hS
            have HGF := hide hRs.1
            have HFR := hide hfr
            have HB57 := hide hb57
            clear hS hRs hfr hqs hb57 hB7 hts
            go_wp2_with fail
            refine (unhide HBL).mono ?_
            rintro e w8 ⟨bv, rfl, hown, hb8⟩
            have hz8 := hb8.size
            obtain ⟨gg, cap, ba, bc, rfl, hgg, hrow⟩ := own_mts hown
            have hS8 : w8.rowIs B 55 16 (lnW g) := World.rowIs.of_block (unhide HS) (hb8.block B (by omega))
            have HLB := hide (listed_any gg (cap * 2) cap mb nn g hw dom mL ts ba bc (.slice sa ts.length sc) w8 (Nat.le_refl _) hrow (unhide HGF) (unhide HWF) (unhide HTI) htl (fun W hW => by
              have hBW : Below B W5 W := (unhide HB57).trans ((hb8.mono (by omega)).trans (hW.below (fun k hk hg => by rcases hg with q | q <;> omega)))
              obtain ⟨m1, m2⟩ := unhide HKT W gg hBW (by omega)
              exact ⟨unhide HQS W ((unhide HB5).trans (hBW.mono (by omega))), m1, m2⟩))
            obtain ⟨bl, hbl⟩ : ∃ bl, bl = (blkOf g 16).length := ⟨_, rfl⟩
            rw [← hbl] at HLB ⊢
            have HRL : Hid (0 < (blkOf (mAll hw g ts) 16).length → (blkOf (mAll hw g ts) 16).length ≤ cap) := fun h0 => by
              have h1 := blk_len_le (hw := hw) ts g
              have := (hrow (by omega)).2.2.1
              omega
            have HS8 := hide hS8
            have HB8 := hide hb8
            clear hown hb8 hrow hS8 hbl HBL HS
            go_wp2_with fail
            refine (unhide HLB).mono ?_
            rintro e w9 ⟨hfr9, hLb⟩
            obtain ⟨ra, rc, rfl, hR9⟩ := hLb
            obtain ⟨RR, hRR⟩ : ∃ RR, RR = blkOf (mAll hw g ts) 16 := ⟨_, rfl⟩
            rw [← hRR] at hR9 HRN ⊢
            have hrl : RR.length ≤ 16 := by rw [hRR]; exact blkOf_len _ _
            have HRM : Hid (∀ p ∈ RR, p.1 < 16 ∧ p.2 < 18446744073709551616) := fun p hp => by
              rw [hRR] at hp
              have := blkOf_mem.1 hp
              exact ⟨this.1, by rw [this.2.2]; exact mAll_fit ts (unhide HGF) _⟩
            have hz9 := hfr9.size
            have hgB : gg ≠ B := by omega
            have HRC9 : Hid (0 < RR.length → ra = some ⟨gg, 0, none⟩ ∧ gg < w9.heap.size ∧ ∀ (k : Nat) (p : Nat × Nat), RR[k]? = some p → w9.cell? ⟨gg, k * 2, none⟩ = some (.int .i64 (p.1 : Nat)) ∧ w9.cell? ⟨gg, k * 2 + 1, none⟩ = some (.int .u64 (p.2 : Nat))) := fun h0 => by
              obtain ⟨e1, hM9⟩ := hR9 h0
              refine ⟨e1, by obtain ⟨F, hF, -⟩ := hM9.row; exact hF.lt, fun k p hp => hM9.at hp ?_⟩
              have := unhide HRL (by rw [← hRR]; exact h0)
              rw [← hRR] at this
              omega
            have hS9 : w9.rowIs B 55 16 (lnW g) := World.rowIs.of_block (unhide HS8) (hfr9.block B (by rintro (q | q) <;> omega))
            have HF9 : Hid (FrO (fun k => k = B ∨ B + 1 ≤ k) W5 w9) := (unhide HFR).trans ((fro_of (unhide HB8) (fun k hk => .inr (by omega))).trans (hfr9.mono (fun k hk => by rcases hk with q | q <;> exact .inr (by omega))))
            have HS9 := hide hS9
            clear hfr9 hR9 hS9 hRR HRL HLB HS8 HB8 HFR HB57 HKT HQS HTI
            go_wp2_with fail
            go_loopw [42] (fun kv wr => ∃ k : Nat, k ≤ RR.length ∧ kv = .int .i64 (k : Nat) ∧ wr.rowIs B 55 16 (lnW ((RR.take k).foldl lnX g)) ∧ FrO (fun k => k = B ∨ w9.heap.size ≤ k) w9 wr) (fun kv _ => RR.length - (intOf kv).toNat)
            case atStart => exact ⟨0, by omega, rfl, unhide HS9, FrO.refl _ _⟩
            case round =>
              clear HS9 z0
              obtain ⟨k, hk, rfl, hS, hfr⟩ := hrel
              obtain ⟨wa, rfl⟩ : ∃ wa, wa = wr := ⟨_, rfl⟩
              have hza := hfr.size
              by_cases hkl : k < RR.length
              · have hkl' : (k : Int) < (RR.length : Int) := by omega
                obtain ⟨rfl, hgw, hcc⟩ := unhide HRC9 (by omega)
                obtain ⟨p, hp⟩ : ∃ p, RR[k]? = some p := ⟨_, List.getElem?_eq_getElem hkl⟩
                obtain ⟨hp1, hp2⟩ := unhide HRM p (List.mem_of_getElem? hp)
                obtain ⟨c0, c1⟩ := hcc k p hp
                obtain ⟨pn, pb⟩ := p
                have hblk : wa.heap[gg]? = w9.heap[gg]? := hfr.block gg (by rintro (q | q) <;> omega)
                have c0 : wa.cell? ⟨gg, k * 2, none⟩ = some (.int .i64 (pn : Nat)) := by rw [World.cell?_of_block (a := ⟨gg, k * 2, none⟩) hblk]; exact c0
                have c1 : wa.cell? ⟨gg, k * 2 + 1, none⟩ = some (.int .u64 (pb : Nat)) := by rw [World.cell?_of_block (a := ⟨gg, k * 2 + 1, none⟩) hblk]; exact c1
                obtain ⟨G, hG⟩ : ∃ G, G = (RR.take k).foldl lnX g := ⟨_, rfl⟩
                rw [← hG] at hS
                have HGN : Hid ((RR.take (k + 1)).foldl lnX g = lnX G (pn, pb)) := by
                  show (RR.take (k + 1)).foldl lnX g = _
                  rw [List.take_add_one, hp, List.foldl_append, ← hG]
                  rfl
                have hGF : LnF G := by rw [hG]; exact fold_fit _ (unhide HGF)
                obtain ⟨W1, hW1⟩ : ∃ W1, W1 = wa.alloc (.cells #[.int .i64 (pn : Nat), .int .u64 (pb : Nat)] 61) := ⟨_, rfl⟩
                have hO1 : Lb2 W1 wa.heap.size pn pb := by rw [hW1]; exact Lb2.new wa pn pb
                obtain ⟨ob, hob⟩ : ∃ ob, ob = wa.heap.size := ⟨_, rfl⟩
                rw [← hob] at hO1
                have hS1 : W1.rowIs B 55 16 (lnW G) := World.rowIs.of_block hS (by rw [hW1]; exact (below1 wa _).block B (by omega))
                have HF1 : Hid (FrO (fun k => k = B ∨ w9.heap.size ≤ k) w9 W1) := hfr.trans (by rw [hW1]; exact fro_of (below1 wa _) (fun k hk => .inr (by omega)))
                obtain ⟨k0, k1⟩ := hO1.cells
                have r0 := hS1.cell (i := pn) hp1
                have f0 := hS1.frozen pn
                unfold lnW at r0
                have hp1' : (pn : Int) < 16 := by omega
                have HAN := hide (ln_anb (G pn) pb (hGF pn) hp2)
                have hne : ob ≠ B := by omega
                have HW1 := hide hW1
                have HOB := hide hob
                have HS1 := hide hS1
                clear hp hblk hcc hG hGF hW1 hO1 hob hS1 hS hfr hp2
                go_wp2_with fail
                rw [← unhide HW1, ← unhide HOB]
                clear HW1 HOB c0 c1
                go_region
                rw [unhide HAN]
                generalize hV : World.drew _ = V
                have HSV : Hid (V.rowIs B 55 16 (lnW ((RR.take (k + 1)).foldl lnX g))) := by rw [unhide HGN, ← hV]; exact ln_clr (unhide HS1)
                have HFV : Hid (FrO (fun k => k = B ∨ w9.heap.size ≤ k) w9 V) := by
                  have h9 : Obk B W1 V := by rw [← hV]; exact (obk_put _ _).drew
                  exact (unhide HF1).trans ⟨h9.os, h9.tape, h9.output, by rw [h9.size]; exact Nat.le_refl _, fun k hk => h9.block k (fun e => hk (.inl e))⟩
                clear hV k0 k1 r0 f0 HS1 HF1 HAN
                go_wp2
                go_roundw
                case rel => exact ⟨k + 1, by omega, by go_num, unhide HSV, unhide HFV⟩
                case measure => simp [intOf]; omega
              · have hkl' : ¬ (k : Int) < (RR.length : Int) := by omega
                have HSN : Hid (wa.rowIs B 55 16 (lnW (RR.foldl lnX g))) := by rw [List.take_of_length_le (by omega)] at hS; exact hS
                have HFN : Hid (FrO (fun k => k = B ∨ B + 1 ≤ k) W5 wa) := (unhide HF9).trans (hfr.mono (fun k hk => by rcases hk with q | q; exact .inl q; exact .inr (by omega)))
                clear hS hfr
                go_wp2
                go_roundw
                case rel => exact ⟨c + 1, _, by omega, by go_num, unhide HSN, unhide HRN, unhide HFN⟩
                case measure => simp [intOf]; omega
          · have hcl' : ¬ (c : Int) < (qss.length : Int) := by omega
            have HRS : Hid (RsI base n ks pss qss qss.length g) := by rw [show qss.length = c by omega]; exact hRs
            have hR7 := World.rowIs.of_block (unhide HR5) (hb57.block w.heap.size (by omega))
            obtain ⟨k0, k1, k2, k3, -⟩ := Row4.facts hR7
            have HR7 := hide hR7
            have HS := hide hS
            have HB7 := hide hB7
            have hw7 := hB7.size
            have hgf := (unhide HRS).1
            have HGF := hide hgf
            clear hS hRs hfr hb57 hR7 hB7 hgf
            go_wp2_with fail
            clear k0 k1 k2 k3
            go_loopw [12, 59] (fun av iv wx => ∃ (i : Nat) (zs : List Int), i ≤ xss.length ∧ iv = .int .i64 (i : Nat) ∧ zs = cndL base i (smB base ks pss qss qss.length) ∧ wx.ownsRow w7.heap.size 3 1 av zs.length (zs.map mI) ∧ Below w7.heap.size w7 wx) (fun _ iv _ => xss.length - (intOf iv).toNat)
            case atStart => exact ⟨0, [], by omega, rfl, rfl, World.ownsRow_nil _ _ _ _, Below.refl _ _⟩
            case round =>
              obtain ⟨i, zs, hi, rfl, hzs, hown, hb⟩ := hrel
              obtain ⟨w8, rfl⟩ : ∃ w8, w8 = wr := ⟨_, rfl⟩
              have hz8 := hb.size
              have hS8 := World.rowIs.of_block (unhide HS) (hb.block B (by omega))
              have hR8 := World.rowIs.of_block (unhide HR7) (hb.block w.heap.size (by omega))
              obtain ⟨k0, k1, k2, k3, -⟩ := Row4.facts hR8
              obtain ⟨av, ac, e1⟩ := own_is hown
              subst e1
              have hzl : zs.length ≤ 1000 := by rw [hzs]; exact Nat.le_trans (cndL_len _ _ _) (by omega)
              have HOWN := hide hown
              have HB := hide hb
              by_cases hil : i < xss.length
              · have hil' : (i : Int) < (xss.length : Int) := by omega
                have HHA := hide (lnHas_any B i g w8 (unhide HGF) (by omega) hS8)
                have hfin := (unhide HRS).fin (i := i) (by omega)
                obtain ⟨y, hy⟩ : ∃ y, y = LnB g i := ⟨_, rfl⟩
                rw [← hy] at HHA hfin
                cases y with
                | true =>
                  have HZ : Hid (zs = cndL base (i + 1) (smB base ks pss qss qss.length)) := by rw [cndL_no (fun q => by have := hfin.2 ((smB_iff _ _ _ _ _ _).1 q); cases this)]; exact hzs
                  clear hzs hown hb hS8 hR8 hy hfin
                  go_wp2_with fail
                  refine (unhide HHA).mono ?_
                  rintro e w9 ⟨rfl, rfl⟩
                  clear HHA
                  go_wp2
                  go_roundw
                  case rel => exact ⟨i + 1, zs, by omega, by go_num, unhide HZ, unhide HOWN, unhide HB⟩
                  case measure => simp [intOf]; omega
                | false =>
                  have HZ : Hid (zs ++ [wrap64 (base + i)] = cndL base (i + 1) (smB base ks pss qss qss.length)) := by show zs ++ _ = _; rw [cndL_yes ((smB_iff _ _ _ _ _ _).2 (hfin.1 rfl)), ← hzs]
                  clear hzs hown hb hS8 hR8 hy hfin
                  go_wp2_with fail
                  refine (unhide HHA).mono ?_
                  rintro e w9 ⟨rfl, rfl⟩
                  clear HHA
                  go_wp2_with (at_builtin; refine app_i1 rfl _ _ rfl w7.heap.size (.slice av zs.length ac) rfl (wrap64 (base + i)) rfl zs (unhide HOWN) ?_ ?_ ?_)
                  · omega
                  · omega
                  intro v9 w10 r1 r2
                  obtain ⟨zs2, hzs2⟩ : ∃ zs2, zs2 = zs ++ [wrap64 (base + i)] := ⟨_, rfl⟩
                  have r1 : w10.ownsRow w7.heap.size 3 1 v9 zs2.length (zs2.map mI) := by rw [hzs2, List.length_append, List.map_append]; exact r1
                  rw [← hzs2] at HZ
                  obtain ⟨a7, c7, e7⟩ := own_is r1
                  subst e7
                  have HO7 := hide r1
                  have HB9 := hide ((unhide HB).trans r2)
                  clear r1 r2 hzs2 HOWN HB k0 k1 k2 k3
                  go_wp2
                  go_roundw
                  case rel => exact ⟨i + 1, zs2, by omega, by go_num, unhide HZ, unhide HO7, unhide HB9⟩
                  case measure => simp [intOf]; omega
              · have hil' : ¬ (i : Int) < (xss.length : Int) := by omega
                have hzR : zs = R := by rw [hzs, unhide HRE, show i = n by omega]
                have HZR := hide hzR
                clear hzs hown hb hS8 hR8 hzR
                go_wp2
                go_ret
                rw [← unhide HZR]
                exact ⟨_, rfl, own_low (unhide HOWN) hw7, (unhide HB7).trans ((unhide HB).mono hw7)⟩

end Go.Proofs.Ytfjnhmgmcldidaa
