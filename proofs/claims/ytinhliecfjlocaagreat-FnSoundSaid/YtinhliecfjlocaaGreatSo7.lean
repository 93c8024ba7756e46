import Derived.Test.YtinhliecfjlocaaGreatSo6
import Derived.Test.YtinhliecfjlocaaGreatPk26
import Derived.Test.YtinhliecfjlocaaGreatPk28
import Derived.Test.YtinhliecfjlocaaGreatPk27
import Derived.Test.YtinhliecfjlocaaGreatPk23
import Derived.Test.YtinhliecfjlocaaGreatPk15
import Derived.Test.YtinhliecfjlocaaGreatPk18
import Derived.Deep.CutBlock
import Derived.Deep.DeepCutAuto
namespace Go.Proofs.YtinhliecfjlocaaGreat
open Go.RowKit
theorem ElsAt.form {lo n : Nat} {w : World} {v : Value} {xs : List El} (h : ElsAt lo n w v xs) : ∃ a c, v = .slice a xs.length c := by
  obtain ⟨a, c, e, -⟩ := h
  exact ⟨a, c, e⟩
theorem cod_take {cs : List Int} (h : Bytes cs) : Cod (cs.take 600) := fun x hx => by
  have hx' := List.mem_of_mem_take hx
  obtain ⟨i, hi, e⟩ := List.getElem_of_mem hx'
  have := h i
  rw [List.getElem?_eq_getElem hi, Option.getD_some, e] at this
  exact this
theorem own_capA {base n e c : Nat} {w : World} {a : Option Addr} {xs : List Value} (h : w.ownsRow base e 1 (.slice a n c) n xs) : n ≤ c ∧ c ≤ maxLen := by
  rcases h.2 with ⟨e1, hz⟩ | ⟨g, cap, cur, e1, hbg, hg, hnc, hcm, hcs, htake⟩
  · cases e1
    exact ⟨Nat.le_refl _, Nat.zero_le _⟩
  · cases e1
    exact ⟨hnc, hcm⟩
theorem LnsOk.base {bs : List Int} {wc wd wx : World} {v : Value} (h : LnsOk bs wd v wx) (hb : Below wc.heap.size wc wd) : LnsOk bs wc v wx := by
  obtain ⟨xss, m, h1, h2, h3, h4, h5, h6, h7, h8⟩ := h
  exact ⟨xss, m, h1, h2, h3, h4, h5, h6, h7, hb.trans (h8.mono hb.size)⟩
theorem Bx3.put {w : World} {b : Nat} {t : TypeId} {c0 c1 c2 u0 u1 u2 : Value} (h : Bx3 w b t c0 c1 c2) : Bx3 (((w.setCell ⟨b, 0, none⟩ u0).setCell ⟨b, 1, none⟩ u1).setCell ⟨b, 2, none⟩ u2) b t u0 u1 u2 :=
  (World.rowIs.set (World.rowIs.set (World.rowIs.set h 0 u0) 1 u1) 2 u2).congr (fun i hi => by
    match i, hi with
    | 0, _ => rfl
    | 1, _ => rfl
    | 2, _ => rfl)
theorem seg_prt {w : World} {v : Value} {base : Int} {xss pss : List (List Int)} {ks : List Int} (h : SegRd w v base xss ks pss) : ∃ a1 c1 a2 c2 a3 c3, v = .agg #[.int .i64 base, .slice a1 xss.length c1, .slice a2 ks.length c2, .slice a3 pss.length c3] := by
  obtain ⟨lv, kv, pv, rfl, ⟨a1, c1, rfl, -⟩, ⟨a2, c2, rfl, -⟩, ⟨a3, c3, rfl, -⟩⟩ := h
  exact ⟨a1, c1, a2, c2, a3, c3, rfl⟩
theorem own_lst {base n e : Nat} {w : World} {v : Value} {pre : List Int} {x : Int} (h : w.ownsRow base e 1 v n ((pre ++ [x]).map mI)) : ∃ g cap, v = .slice (some ⟨g, 0, none⟩) (pre.length + 1) cap ∧ pre.length + 1 ≤ maxLen ∧ w.cell? ⟨g, pre.length, none⟩ = some (.int .i64 x) := by
  have hlen := h.1
  simp only [List.length_map, List.length_append, List.length_singleton, Nat.mul_one] at hlen
  rcases h.2 with ⟨rfl, hz⟩ | ⟨g, cap, cur, rfl, hbg, hg, hnc, hcm, hcs, htake⟩
  · omega
  · refine ⟨g, cap, by rw [hlen], by omega, ?_⟩
    rw [h.cellAt pre.length (by omega), List.getElem?_map, List.getElem?_append_right (Nat.le_refl _), Nat.sub_self]
    rfl
set_option maxHeartbeats 16000000 in
set_option maxRecDepth 100000 in
theorem lawSound_any (cv : Value) (cs : List Int) (w : World) (hv : SlAt mB 0 0 w.heap.size w cv cs) (hcap : CapOk cv) (hb : Bytes cs) :
    Calls Tryz.prog 3 #[cv] w fun e w' => e = .returned (.bool true) ∧ Below w.heap.size w w' := by
  have HV := hide hv
  have HCP := hide hcap
  have HX := hide (cod_take hb)
  obtain ⟨ca, cc, rfl, -⟩ := hv
  clear hcap hb
  by_cases hlen : (1048576 : Int) < (cs.length : Int)
  · go_enter Tryz.func3, Tryz.ntmps3
    go_wp2
    go_ret
    exact ⟨rfl, Below.refl _ _⟩
  obtain ⟨bs, hdr⟩ := drawMatch_ex cs
  obtain ⟨l, r, X, hR⟩ : ∃ (l r : Bool) (X : List El), dAny (cs.take 600) = ((l, r), X) := ⟨_, _, _, rfl⟩
  rw [hR] at hdr
  have HDR := hide hdr
  clear hR hdr
  go_enter Tryz.func3, Tryz.ntmps3
  go_wp2_with fail
  refine (unhide HDR _ w (unhide HV) (unhide HCP) (unhide HX)).mono ?_
  rintro e w1 ⟨v1, lv, rfl, hel1, hown1, hcb, hlb, hb1⟩
  have HE1 := hide (hel1.mono (lo' := 0) (Nat.zero_le _) (Nat.le_refl _))
  obtain ⟨a1, c1, rfl⟩ := hel1.form
  have HS1 := hide (own_rdB hown1 (by unfold maxLen; omega))
  obtain ⟨la, lc, rfl⟩ := own_is hown1
  have HCB := hide hcb
  have hz1 := hb1.size
  have HB1 := hide hb1
  have HP := hide (Bx3.new w1 25 (.bool l) (.bool r) (.slice a1 X.length c1))
  have HBW := hide (below1 w1 (.cells #[.bool l, .bool r, .slice a1 X.length c1] 25))
  have hzW : (w1.alloc (.cells #[.bool l, .bool r, .slice a1 X.length c1] 25)).heap.size = w1.heap.size + 1 := sz_alloc _ _
  clear hel1 hb1 hown1 hcb
  go_wp2_with fail
  generalize w1.alloc (.cells #[.bool l, .bool r, .slice a1 X.length c1] 25) = W1 at *
  have HEW := hide ((unhide HE1).below (unhide HBW) (Nat.le_refl _))
  have HSW := hide ((unhide HS1).cut (unhide HBW) (Nat.le_refl _))
  have hzW1 : w1.heap.size < W1.heap.size := by omega
  clear hzW
  refine (specMatch_any l r _ _ X bs W1 (unhide HEW) (unhide HSW) (unhide HCB) (by omega)).mono ?_
  rintro e w2 ⟨hret, hb2⟩
  have hz2 := hb2.size
  have HB2 := hide ((unhide HB1).trans (((unhide HBW).mono hz1).trans (hb2.mono (by omega))))
  have HP2 := hide ((unhide HP).below hb2 hzW1)
  clear hb2
  rcases hret.cases with ⟨rfl, hok⟩ | ⟨rfl, hbad⟩
  · have HOK := hide hok
    have HV2 := hide ((unhide HV).cut (unhide HB2) (Nat.le_refl _))
    clear hret hok
    go_wp2_with fail
    refine (unhide HDR _ w2 (unhide HV2) (unhide HCP) (unhide HX)).mono ?_
    rintro e w3 ⟨v3, lv3, rfl, hel3, hown3, -, -, hb3⟩
    have BP := (unhide HP2).below hb3 (by omega)
    obtain ⟨p0, p1, p2⟩ := BP.facts
    have z0 := World.rowIs.frozen BP 0
    have z1 := World.rowIs.frozen BP 1
    have z2 := World.rowIs.frozen BP 2
    have hz3 := hb3.size
    obtain ⟨a3, c3, rfl⟩ := hel3.form
    obtain ⟨la3, lc3, rfl⟩ := own_is hown3
    have HCA := hide (own_capA hown3)
    have HP4 := hide (BP.put (u0 := .bool l) (u1 := .bool r) (u2 := .slice a3 X.length c3))
    have HE4 := hide ((hel3.mono (lo' := w1.heap.size + 1) (by omega) (Nat.le_refl _)).put3 (lo := 0) (u0 := .bool l) (u1 := .bool r) (u2 := .slice a3 X.length c3) (Nat.zero_le _))
    have HO4 := hide (own_putl (B := w1.heap.size) (o := 2) (u := .slice a3 X.length c3) (own_putl (B := w1.heap.size) (o := 1) (u := .bool r) (own_putl (B := w1.heap.size) (o := 0) (u := .bool l) hown3 (by omega)) (by omega)) (by omega))
    have HB4 := hide (bput (b := w1.heap.size) (o := 2) (bput (b := w1.heap.size) (o := 1) (bput (b := w1.heap.size) (o := 0) ((unhide HB2).trans (hb3.mono (by omega))) hz1 (.bool l)) hz1 (.bool r)) hz1 (.slice a3 X.length c3))
    obtain ⟨f0, f1, f2⟩ := (unhide HP4).facts
    clear BP hel3 hb3 hown3
    have hz4 : (((w3.setCell ⟨w1.heap.size, 0, none⟩ (.bool l)).setCell ⟨w1.heap.size, 1, none⟩ (.bool r)).setCell ⟨w1.heap.size, 2, none⟩ (.slice a3 X.length c3)).heap.size = w3.heap.size := by simp only [sz_put]
    go_wp2_with fail
    generalize ((w3.setCell ⟨w1.heap.size, 0, none⟩ (.bool l)).setCell ⟨w1.heap.size, 1, none⟩ (.bool r)).setCell ⟨w1.heap.size, 2, none⟩ (.slice a3 X.length c3) = W4 at *
    have HS4 := hide (own_rdB (unhide HO4) (by unfold maxLen; omega))
    refine (implQ_any l r _ X W4 (unhide HE4)).mono ?_
    rintro e w5 ⟨qv, ps, rfl, hqa, htot, hll, hb5⟩
    have hz5 := hb5.size
    have HQI := hide (qans_in hqa)
    have hql := (unhide HQI).1
    have HQA := hide hqa
    have HAT := hide hll.lr.at
    obtain ⟨qa, qc, rfl⟩ := own_is hll.own
    have HB5 := hide ((unhide HB4).trans (hb5.mono (by have := (unhide HB4).size; omega)))
    have HS5 := hide ((unhide HS4).cut hb5 (Nat.le_refl _))
    have HBQ := hide (Boxed.new w5 31 (.slice qa ps.length qc))
    have HBW5 := hide (below1 w5 (.cells #[.slice qa ps.length qc] 31))
    have hzW5 : (w5.alloc (.cells #[.slice qa ps.length qc] 31)).heap.size = w5.heap.size + 1 := sz_alloc _ _
    have q0 := (unhide HBQ).cell
    clear hqa hll hb5 HO4 f0 f1 f2 HP4 HE4 HS4 HB4 p0 p1 p2 z0 z1 z2
    generalize ps.map Cl.xs = qs at *
    go_upto_region 8 with fail
    generalize w5.alloc (.cells #[.slice qa ps.length qc] 31) = W5 at *
    have HAT5 := hide ((unhide HAT).below (unhide HBW5) (Nat.le_refl _))
    have HS6 := hide ((unhide HS5).cut (unhide HBW5) (Nat.le_refl _))
    have HB6 := hide ((unhide HB5).trans ((unhide HBW5).mono (unhide HB5).size))
    go_cut [34] (fun bv wx => bv = .bool false ∧ Below W5.heap.size W5 wx)
    case first =>
      have HTr : Hid (∀ W, Below W5.heap.size W5 W → Calls Tryz.prog 8 #[.slice la3 bs.length lc3] W fun e w' => OrdRet e W w' (tris bs (bs.length - 2)) ∧ Below W.heap.size W w') := fun W hW =>
        implTri_any _ bs W ((unhide HS6).cut hW (Nat.le_refl _)) (cod_bytes (unhide HCB)) (by omega)
      have HEv : Hid (∀ W tv ts, Below W5.heap.size W5 W → SlAt mI 0 0 W.heap.size W tv ts → Ord (tris bs (bs.length - 2)) ts → ts.length ≤ (tris bs (bs.length - 2)).length → Calls Tryz.prog 7 #[.agg #[.slice qa ps.length qc], tv] W fun e w' => e = .returned (.bool true) ∧ Below W.heap.size W w') := fun W tv ts hW htv hord htl =>
        (implEval_any _ tv qs ts W ((unhide HAT5).below hW (Nat.le_refl _)) (by omega) (by omega) htv (by rw [tris_len] at htl; omega)).mono (fun e w' ⟨h1, h2⟩ => ⟨by
          rcases h1.cases with ⟨h, -⟩ | ⟨-, h⟩
          · exact h
          · exact absurd (sound_any (unhide HOK) (unhide HQA) hord (unhide HCB)) h, h2⟩)
      have HB0 := hide (Below.refl W5.heap.size W5)
      have HCt := hide (unhide HTr W5.drew (unhide HB0).drew)
      have HNx : Hid (∀ w9, Below W5.drew.heap.size W5.drew w9 → Below W5.heap.size W5 w9) := fun w9 h => ⟨h.os, h.tape, h.output, h.size, h.block⟩
      go_region_with (first
        | ((with_reducible refine (unhide HCt).mono ?_)
           rintro e w9 ⟨⟨tv, ts, rfl, hord, hol, hsw⟩, hb9⟩
           have HB9 := hide (unhide HNx w9 hb9)
           have HOR := hide hord
           have HOL := hide hol
           have HTV := hide (hsw.at.mono (Nat.zero_le _) (Nat.le_refl _))
           obtain ⟨ta, tc, rfl, -⟩ := hsw.at
           have q9 := (Boxed.below' (unhide HBQ) (unhide HB9) (by omega)).cell
           clear hb9 hord hol hsw)
        | ((with_reducible refine (unhide HEv _ _ ts (unhide HB9) (unhide HTV) (unhide HOR) (unhide HOL)).mono ?_)
           rintro e w10 ⟨rfl, hb10⟩
           have HB10 := hide ((unhide HB9).trans (hb10.mono (unhide HB9).size))
           clear hb10)
        | ((with_reducible refine (unhide HEv _ _ ts (unhide HB9).drew (unhide HTV) (unhide HOR) (unhide HOL)).mono ?_)
           rintro e w10 ⟨rfl, hb10⟩
           have HB10 := hide ((unhide HB9).drew.trans (hb10.mono (unhide HB9).drew.size))
           clear hb10))
      all_goals
        go_wp2_with fail
        go_meet
        exact ⟨rfl, unhide HB10⟩
    case rest =>
      obtain ⟨rfl, hbc⟩ := hcut
      have hzc := hbc.size
      have HBc := hide ((unhide HB6).trans (hbc.mono (unhide HB6).size))
      have HSc := hide ((unhide HS6).cut hbc (Nat.le_refl _))
      have HATc := hide ((unhide HAT5).below hbc (Nat.le_refl _))
      have HBQc := hide (Boxed.below' (unhide HBQ) hbc (by omega))
      clear hbc q0
      go_wp2_with fail
      go_loopw [6] (fun iv wr => ∃ k : Nat, k ≤ bs.length ∧ iv = .int .i64 k ∧ wc = wr ∧ ∀ j : Nat, j < k → bs[j]?.getD 0 ≠ 10) (fun iv _ => bs.length - (intOf iv).toNat)
      case atStart => exact ⟨0, Nat.zero_le _, rfl, rfl, fun j hj => absurd hj (by omega)⟩
      case round =>
        obtain ⟨k, hk, rfl, hwr, hnn⟩ := hrel
        subst hwr
        have HNN := hide hnn
        clear hnn
        by_cases hlt : k < bs.length
        · have hlt' : (k : Int) < (bs.length : Int) := by omega
          obtain ⟨_, _, e4, -, hc4⟩ := unhide HSc
          cases e4
          obtain ⟨b, off, rfl, -, -, hcell⟩ := hc4 (by omega)
          have d0 : wc.cell? ⟨b, off + k, none⟩ = some (.int .u8 (bs[k]?.getD 0)) := hcell k hlt
          have hxb := cod_bytes (unhide HCB) k
          clear hcell hc4
          by_cases h10 : bs[k]?.getD 0 = 10
          · rw [h10] at d0
            go_wp2
            go_ret
            exact ⟨rfl, unhide HBc⟩
          · have HN' : Hid (∀ j : Nat, j < k + 1 → bs[j]?.getD 0 ≠ 10) := hide (fun j hj => by
              by_cases e : j = k
              · rw [e]; exact h10
              · exact unhide HNN j (by omega))
            generalize bs[k]?.getD 0 = x at *
            have h10' : (x == 10) = false := beq_eq_false_iff_ne.2 h10
            go_wp2_with fail
            exact ⟨⟨k + 1, by omega, by go_num, trivial, unhide HN'⟩, by simp [intOf]; omega⟩
        · obtain rfl : k = bs.length := by omega
          have hnl : ¬ (bs.length : Int) < (bs.length : Int) := by omega
          go_upto_if 50 with fail
          go_cut [7] (fun lsv wx => LnsOk bs wc lsv wx)
          case first =>
            by_cases hp : bs.length = 0
            · have hp' : ¬ (0 : Int) < (bs.length : Int) := by omega
              have hp2 : (bs.length : Int) ≤ 0 := by omega
              clear hp
              go_wp2_with fail
              go_meet
              exact lns_one (unhide HSc) (unhide HCA) hlb (unhide HCB) (unhide HNN)
            · have hp' : (0 : Int) < (bs.length : Int) := by omega
              have hp2 : ¬ (bs.length : Int) ≤ 0 := by omega
              obtain ⟨q, hq⟩ : ∃ q, q = bs.length - 1 := ⟨_, rfl⟩
              have e1 : ((bs.length : Int) - 1) = ((q : Nat) : Int) := by omega
              have hca := unhide HCA
              have hcm := hca.2
              unfold maxLen at hcm
              have hql : q ≤ lc3 := by omega
              have HL2 := hide ((lns_two (T := 22) (q := q) (by omega) ((unhide HSc).cut (below1 wc (.cells #[.slice la3 bs.length lc3] 22)) (Nat.le_refl _)) hca hlb (unhide HCB) (unhide HNN)).base (below1 wc _))
              rw [sz_alloc] at HL2
              clear hp hq
              go_wp2_with fail
              go_meet
              exact unhide HL2
          case rest =>
            obtain ⟨xss, m, hss, hxl, hm1, hxm, hxb, hpn, htx, hbx⟩ := hcut
            have hzx := hbx.size
            have HSS := hide hss
            obtain ⟨xa, xc, rfl, -⟩ := id hss
            have HBx := hide ((unhide HBc).trans (hbx.mono (unhide HBc).size))
            have HATx := hide ((unhide HATc).below hbx (Nat.le_refl _))
            have HBQx := hide (Boxed.below' (unhide HBQc) hbx (by omega))
            have HXB := hide hxb
            have HPN := hide hpn
            have HXM := hide hxm
            have hnl2 : w5.heap.size < wc.heap.size := by omega
            have HXL := hide hxl
            have hx1 : 1 ≤ xss.length := by omega
            have hx2 : xss.length ≤ 2 := by omega
            clear hss hxb hpn hbx hxm hxl
            go_wp2_with fail
            refine (implBuild_fit 7 _ xss _ (unhide HSS) (unhide HXB) (by omega) (by omega) (by omega) (by omega) ⟨by omega, by omega, by omega, unhide HPN, by omega⟩).mono ?_
            rintro e w6 ⟨⟨sv, ks, pss, rfl, hsr, -, hsf⟩, hb6⟩
            have HRD := hide (hsf.rd (Nat.le_refl _))
            have HSR := hide hsr
            obtain ⟨x1a, x1c, x2a, x2c, x3a, x3c, rfl⟩ := seg_prt (unhide HRD)
            have hz6 := hb6.size
            have HBx6 := hide ((unhide HBx).trans (hb6.mono (unhide HBx).size))
            have HAT6 := hide ((unhide HATx).below hb6 (Nat.le_refl _))
            have HBQ6 := hide (Boxed.below' (unhide HBQx) hb6 hnl2)
            have HV6 := hide (below1 w6 (.cells #[.int .i64 7, .slice x1a xss.length x1c, .slice x2a ks.length x2c, .slice x3a pss.length x3c] 38))
            have hzV6 : (w6.alloc (.cells #[.int .i64 7, .slice x1a xss.length x1c, .slice x2a ks.length x2c, .slice x3a pss.length x3c] 38)).heap.size = w6.heap.size + 1 := sz_alloc _ _
            have q6 := (Boxed.below' (unhide HBQ6) (unhide HV6) (by omega)).cell
            obtain ⟨f0, f1, f2, f3, -⟩ := (Row4.new w6 38 (.int .i64 7) (.slice x1a xss.length x1c) (.slice x2a ks.length x2c) (.slice x3a pss.length x3c)).facts
            clear hsr hsf hb6
            go_wp2_with fail
            generalize w6.alloc (.cells #[.int .i64 7, .slice x1a xss.length x1c, .slice x2a ks.length x2c, .slice x3a pss.length x3c] 38) = V6 at *
            obtain ⟨i1, i2, i3, i4⟩ := segR_in (unhide HSR) (unhide HXB) (by omega) (by omega) (by omega)
            refine (implCand_any _ _ 7 xss pss qs ks V6 ((unhide HRD).below (unhide HV6) (Nat.le_refl _)) ((unhide HAT6).below (unhide HV6) (Nat.le_refl _)) (by unfold In64'; omega) i1 i2 (unhide HQI).2.2).mono ?_
            rintro e w7 ⟨ov, rfl, hown7, hb7⟩
            have hev : EvalP qs (tr (xss[m]?.getD [])) := by
              rw [unhide HXM]
              obtain ⟨ts, hts, -⟩ := ord_ex (tr bs)
              obtain ⟨c, hc, hz⟩ := sound_any (unhide HOK) (unhide HQA) hts (unhide HCB)
              exact ⟨c, hc, fun z h => (hts.mem z).1 (hz z h)⟩
            obtain ⟨pre, hpre⟩ := cand_last (unhide HSR) ⟨by omega, i3, i4, (unhide HQI).1, (unhide HQI).2.1⟩ (unhide HXL) (by unfold wrap64; omega) hev
            rw [hpre] at hown7
            obtain ⟨g, cap, rfl, hcp, hcl⟩ := own_lst hown7
            have HB7 := hide ((unhide HBx6).trans (((unhide HV6).trans (hb7.mono (by omega))).mono (unhide HBx6).size))
            have e1 : (((pre.length + 1 : Nat) : Int) - 1) = ((pre.length : Nat) : Int) := by omega
            have e0 : (0 : Int) < ((pre.length + 1 : Nat) : Int) := by omega
            have e6 : 6 + (xss.length : Int) = 7 + (m : Int) := by have := unhide HXL; omega
            unfold maxLen at hcp
            clear hown7 hpre i1 i2 i3 i4 hev hb7
            go_wp2
            go_ret
            exact ⟨rfl, unhide HB7⟩
  · clear hret hbad
    go_wp2
    go_ret
    exact ⟨rfl, unhide HB2⟩
end Go.Proofs.YtinhliecfjlocaaGreat
