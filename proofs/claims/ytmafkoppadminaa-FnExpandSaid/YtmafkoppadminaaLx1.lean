import Derived.Test.YtmafkoppadminaaPk17
import Derived.Test.YtmafkoppadminaaXq2
import Derived.Test.YtmafkoppadminaaPk15
import Derived.Test.YtmafkoppadminaaPk7
import Derived.Deep.CutBlock
import Derived.Deep.DeepCutAuto
namespace Go.Proofs.Ytmafkoppadminaa
open Go.RowKit
theorem ElsAt.form {lo n : Nat} {w : World} {v : Value} {xs : List El} (h : ElsAt lo n w v xs) : ∃ a c, v = .slice a xs.length c := by
  obtain ⟨a, c, e, -⟩ := h
  exact ⟨a, c, e⟩
theorem cod_take {cs : List Int} (h : Bytes cs) : Cod (cs.take 600) := fun x hx => by
  have hx' := List.mem_of_mem_take hx
  obtain ⟨i, hi, e⟩ := List.getElem_of_mem hx'
  have := h i
  rw [List.getElem?_eq_getElem hi, Option.getD_some, e] at this
  exact this
theorem num_valid {xs : List El} (h : ValidT xs) : Num xs := by
  intro i
  by_cases hi : i < xs.length
  · obtain ⟨-, ok, -⟩ := h
    have hx := ok i hi
    generalize xs[i]?.getD dE = x at *
    rcases hx with ⟨q1, q2, q3, q4⟩ | ⟨q1, q2, q3, q4⟩ | ⟨q1, q2, q3, q4, q5⟩
    · refine ⟨by unfold In64; omega, by unfold In64; omega, by unfold In64; omega, fun j => ?_⟩
      by_cases hj : j < x.set.length
      · have := q2.2.1 j hj
        unfold In64; omega
      · rw [List.getElem?_eq_none (by omega)]; simp [In64]
    · refine ⟨by unfold In64; omega, by unfold In64; omega, by unfold In64; omega, fun j => ?_⟩
      rw [List.getElem?_eq_none (by omega)]; simp [In64]
    · refine ⟨by unfold In64; omega, by unfold In64; omega, by unfold In64; omega, fun j => ?_⟩
      rw [List.getElem?_eq_none (by omega)]; simp [In64]
  · rw [List.getElem?_eq_none (by omega)]
    simp [dE, In64]
theorem simple_at {L : List El} (h : Simple L) {k : Nat} (hk : k < L.length) : (L[k]?.getD dE).kind = 4 → (L[k]?.getD dE).mx = -1 ∧ 0 ≤ (L[k]?.getD dE).mn ∧ (L[k]?.getD dE).mn ≤ 1 := by
  rw [List.getElem?_eq_getElem hk, Option.getD_some]
  exact h _ (List.getElem_mem hk)
set_option maxHeartbeats 16000000 in
set_option maxRecDepth 100000 in
theorem lawExpand_any (cv : Value) (cs : List Int) (w : World) (hv : SlAt mB 0 0 w.heap.size w cv cs) (hcap : CapOk cv) (hb : Bytes cs) :
    Calls Try.prog 3 #[cv] w fun e w' => e = .returned (.bool true) ∧ Below w.heap.size w w' := by
  have HV := hide hv
  have HCP := hide hcap
  have HX := hide (cod_take hb)
  obtain ⟨ca, cc, rfl, -⟩ := hv
  clear hcap hb
  by_cases hlen : (1048576 : Int) < (cs.length : Int)
  · go_enter Try.func3, Try.ntmps3
    go_wp2
    go_ret
    exact ⟨rfl, Below.refl _ _⟩
  obtain ⟨l, r, X, hR⟩ : ∃ (l r : Bool) (X : List El), dAny (cs.take 600) = ((l, r), X) := ⟨_, _, _, rfl⟩
  have HR := hide hR
  clear hR
  go_enter Try.func3, Try.ntmps3
  go_wp2_with fail
  refine (drawMatch_any _ cs w (unhide HV) (unhide HCP) (unhide HX)).mono ?_
  rw [unhide HR]
  rintro e w1 ⟨v1, lv, bs, rfl, hel1, hown1, hcb, hlb, hb1⟩
  have HE1 := hide (hel1.mono (lo' := 0) (Nat.zero_le _) (Nat.le_refl _))
  obtain ⟨a1, c1, rfl⟩ := hel1.form
  have HS1 := hide (own_rdB hown1 (by unfold maxLen; omega))
  obtain ⟨la, lc, rfl⟩ := own_is hown1
  have HCB := hide hcb
  have hz1 := hb1.size
  have HB1 := hide hb1
  have HP := hide (Bx3.new w1 25 (.bool l) (.bool r) (.slice a1 X.length c1))
  have HBW := hide (below1 w1 (.cells #[.bool l, .bool r, .slice a1 X.length c1] 25))
  have hzW : (w1.alloc (.cells #[.bool l, .bool r, .slice a1 X.length c1] 25)).heap.size = w1.heap.size + 1 := sz_alloc _ _
  clear hel1 hb1 hown1 hcb
  go_wp2_with fail
  generalize w1.alloc (.cells #[.bool l, .bool r, .slice a1 X.length c1] 25) = W1 at *
  have HEW := hide ((unhide HE1).below (unhide HBW) (Nat.le_refl _))
  have HSW := hide ((unhide HS1).cut (unhide HBW) (Nat.le_refl _))
  have hzW1 : w1.heap.size < W1.heap.size := by omega
  clear hzW
  refine (specValid_any l r _ X W1 (unhide HEW)).mono ?_
  rintro e w2 ⟨hret, hb2⟩
  have hz2 := hb2.size
  have HB2 := hide ((unhide HB1).trans (((unhide HBW).mono hz1).trans (hb2.mono (by omega))))
  have HP2 := hide ((unhide HP).below hb2 hzW1)
  have HE2 := hide ((unhide HEW).below hb2 (Nat.le_refl _))
  have HS2 := hide ((unhide HSW).cut hb2 (Nat.le_refl _))
  clear hb2
  rcases hret.cases with ⟨rfl, hok⟩ | ⟨rfl, hbad⟩
  · have HOK := hide hok
    have HV2 := hide ((unhide HV).cut (unhide HB2) (Nat.le_refl _))
    clear hret hok
    go_wp2_with fail
    refine (drawMatch_any _ cs w2 (unhide HV2) (unhide HCP) (unhide HX)).mono ?_
    rw [unhide HR]
    rintro e w3 ⟨v3, lv3, bs3, rfl, hel3, hown3, -, -, hb3⟩
    have HD3 := hide (hel3.mono (lo' := 0) (Nat.zero_le _) (Nat.le_refl _))
    obtain ⟨a3, c3, rfl⟩ := hel3.form
    obtain ⟨la3, lc3, rfl⟩ := own_is hown3
    have hz3 := hb3.size
    have HB3 := hide ((unhide HB2).trans (hb3.mono (by omega)))
    have HP3 := hide ((unhide HP2).below hb3 (by omega))
    have HE3 := hide ((unhide HE2).below hb3 (Nat.le_refl _))
    have HS3 := hide ((unhide HS2).cut hb3 (Nat.le_refl _))
    have HBX := hide (below1 w3 (.cells #[.bool l, .bool r, .slice a3 X.length c3] 25))
    have hzX : (w3.alloc (.cells #[.bool l, .bool r, .slice a3 X.length c3] 25)).heap.size = w3.heap.size + 1 := sz_alloc _ _
    clear hel3 hb3 hown3
    go_wp2_with fail
    generalize w3.alloc (.cells #[.bool l, .bool r, .slice a3 X.length c3] 25) = W3 at *
    have HDX := hide ((unhide HD3).below (unhide HBX) (Nat.le_refl _))
    have HBX2 := hide ((unhide HB3).trans ((unhide HBX).mono (by omega)))
    have HPX := hide ((unhide HP3).below (unhide HBX) (by omega))
    have HEX := hide ((unhide HE3).below (unhide HBX) (Nat.le_refl _))
    have HSX := hide ((unhide HS3).cut (unhide HBX) (Nat.le_refl _))
    refine (implX_r _ X W3 (unhide HDX)).mono ?_
    rintro e w4 ⟨v4, L, rfl, hans, hF4, hb4⟩
    obtain ⟨hsx, hl⟩ : SegX X L ∧ L.length ≤ 1000 := by
      rcases hans with ⟨-, q1, q2⟩ | ⟨hn, -⟩
      · exact ⟨q1, q2⟩
      · exact absurd (unhide HOK) hn
    obtain ⟨hvL, hLL⟩ := valid_x (unhide HOK) hsx (by omega)
    obtain ⟨R, hr1, hr2, hsim⟩ := exL_valid (n := bs.length) (hs := hsL bs) (unhide HOK) hsx
    have HE4 := hide (hF4.at (N := w4.heap.size) (fun k hk => hk.2) (num_valid hvL))
    have HVL := hide hvL
    have HLL := hide hLL
    have HR1 := hide hr1
    have HR2 := hide hr2
    have HSIM := hide hsim
    obtain ⟨a4, c4, rfl⟩ := (unhide HE4).form
    have hL0 : 0 < L.length := hvL.1.1
    have hz4 := hb4.size
    have HB4 := hide ((unhide HBX2).trans (hb4.mono (by omega)))
    have HP4 := hide ((unhide HPX).below hb4 (by omega))
    have HX4 := hide ((unhide HEX).below hb4 (Nat.le_refl _))
    have HS4 := hide ((unhide HSX).cut hb4 (Nat.le_refl _))
    obtain ⟨p0, p1, p2⟩ := (unhide HP4).facts
    have HP8 := hide (Bx3.new w4 25 (.bool l) (.bool r) (.slice a4 L.length c4))
    have HB8 := hide (below1 w4 (.cells #[.bool l, .bool r, .slice a4 L.length c4] 25))
    have hz8 : (w4.alloc (.cells #[.bool l, .bool r, .slice a4 L.length c4] 25)).heap.size = w4.heap.size + 1 := sz_alloc _ _
    clear hans hF4 hb4 hsx hvL hLL hr1 hr2 hsim
    go_wp2_with fail
    generalize w4.alloc (.cells #[.bool l, .bool r, .slice a4 L.length c4] 25) = W8 at *
    have HE8 := hide ((unhide HE4).below (unhide HB8) (Nat.le_refl _))
    refine (specValid_any l r _ L W8 (unhide HE8)).mono ?_
    rintro e w5 ⟨hret5, hb5⟩
    rcases hret5.cases with ⟨rfl, -⟩ | ⟨rfl, hn⟩
    · have hz5 := hb5.size
      have HB5 := hide ((unhide HB4).trans (((unhide HB8).mono (by omega)).trans (hb5.mono (by omega))))
      have HE5 := hide ((unhide HE8).below hb5 (Nat.le_refl _))
      have HP5 := hide (((unhide HP4).below (unhide HB8) (by omega)).below hb5 (by omega))
      have HQ5 := hide ((unhide HP8).below hb5 (by omega))
      have HX5 := hide (((unhide HX4).below (unhide HB8) (Nat.le_refl _)).below hb5 (Nat.le_refl _))
      have HS5 := hide (((unhide HS4).cut (unhide HB8) (Nat.le_refl _)).cut hb5 (Nat.le_refl _))
      clear hret5 hb5 p0 p1 p2
      go_wp2_with fail
      go_loopw [9] (fun iv wr => ∃ k : Nat, k ≤ L.length ∧ iv = .int .i64 k ∧ w5 = wr) (fun iv _ => L.length - (intOf iv).toNat)
      case atStart => exact ⟨0, Nat.zero_le _, rfl, rfl⟩
      case round =>
        obtain ⟨k, hk, rfl, hwr⟩ := hrel
        subst hwr
        by_cases hlt : k < L.length
        · have hlt' : (k : Int) < (L.length : Int) := by omega
          have hs4 := simple_at (unhide HSIM) hlt
          obtain ⟨_, _, e4, -, hc4⟩ := unhide HE5
          cases e4
          obtain ⟨b, off, rfl, -, -, hcell⟩ := hc4 (by omega)
          obtain ⟨-, -, -, s, d0, d1, d2, d3, hs⟩ := hcell k hlt
          clear hcell hc4 hs
          generalize L[k]?.getD dE = x at *
          by_cases h4 : x.kind = 4
          · obtain ⟨m1, m2, m3⟩ := hs4 h4
            rw [h4] at d0
            rw [m1] at d3
            have m4 : ¬ 1 < x.mn := by omega
            clear hs4
            go_wp2_with fail
            exact ⟨⟨k + 1, by omega, by go_num, trivial⟩, by simp [intOf]; omega⟩
          · have h4' : (x.kind == 4) = false := beq_eq_false_iff_ne.2 h4
            clear hs4
            go_wp2_with fail
            exact ⟨⟨k + 1, by omega, by go_num, trivial⟩, by simp [intOf]; omega⟩
        · obtain rfl : k = L.length := by omega
          have hnl : ¬ (L.length : Int) < (L.length : Int) := by omega
          obtain ⟨bm, hbm⟩ : ∃ b : Bool, (b = true ↔ MatchP bs.length l r R) := by
            classical
            exact ⟨decide (MatchP bs.length l r R), by simp⟩
          have HMq : Hid (∀ W, Below w5.heap.size w5 W → Calls Try.prog 7 #[.agg #[.bool l, .bool r, .slice a4 L.length c4], .slice la bs.length lc] W fun e w' => e = .returned (.bool bm) ∧ Below W.heap.size W w') := fun W hW =>
            (specMatch_any l r _ _ L bs W ((unhide HE5).below hW (Nat.le_refl _)) ((unhide HS5).cut hW (Nat.le_refl _)) (unhide HCB) (by omega)).mono (fun e w' ⟨⟨q, he, hq⟩, hbl⟩ => ⟨by rw [he, show q = bm from Bool.eq_iff_iff.2 (hq.trans ((matchA_iff (unhide HVL) (by omega) (unhide HR2)).trans hbm.symm))], hbl⟩)
          have HMp : Hid (∀ W, Below w5.heap.size w5 W → Calls Try.prog 7 #[.agg #[.bool l, .bool r, .slice a1 X.length c1], .slice la bs.length lc] W fun e w' => e = .returned (.bool bm) ∧ Below W.heap.size W w') := fun W hW =>
            (specMatch_any l r _ _ X bs W ((unhide HX5).below hW (Nat.le_refl _)) ((unhide HS5).cut hW (Nat.le_refl _)) (unhide HCB) (by omega)).mono (fun e w' ⟨⟨q, he, hq⟩, hbl⟩ => ⟨by rw [he, show q = bm from Bool.eq_iff_iff.2 (hq.trans ((matchA_iff (unhide HOK) (by omega) (unhide HR1)).trans hbm.symm))], hbl⟩)
          clear hbm
          obtain ⟨p0, p1, p2⟩ := (unhide HP5).facts
          obtain ⟨q0, q1, q2⟩ := (unhide HQ5).facts
          have HB0 := hide (Below.refl w5.heap.size w5)
          go_upto_region 16 with fail
          go_cut [72] (fun bv wx => bv = .bool false ∧ Below w5.heap.size w5 wx)
          case first =>
            have HCq := hide (unhide HMq w5.drew (unhide HB0).drew)
            have HNx : Hid (∀ w9, Below w5.drew.heap.size w5.drew w9 → Below w5.heap.size w5 w9) := fun w9 h => ⟨h.os, h.tape, h.output, h.size, h.block⟩
            go_region_with (first
              | ((with_reducible refine (unhide HCq).mono ?_)
                 rintro e w9 ⟨rfl, hb9⟩
                 have HB9 := hide (unhide HNx w9 hb9)
                 obtain ⟨s0, s1, s2⟩ := ((unhide HP5).below (unhide HB9) (by omega)).facts
                 obtain ⟨t0, t1, t2⟩ := ((unhide HQ5).below (unhide HB9) (by omega)).facts
                 clear hb9)
              | ((with_reducible refine (unhide HMp _ (unhide HB9)).mono ?_)
                 rintro e w10 ⟨rfl, hb10⟩
                 have HB10 := hide ((unhide HB9).trans (hb10.mono (unhide HB9).size))
                 clear hb10)
              | ((with_reducible refine (unhide HMp _ (unhide HB9).drew).mono ?_)
                 rintro e w10 ⟨rfl, hb10⟩
                 have HB10 := hide ((unhide HB9).drew.trans (hb10.mono (unhide HB9).drew.size))
                 clear hb10))
            all_goals
              go_wp2_with fail
              go_meet
              exact ⟨rfl, unhide HB10⟩
          case rest =>
            obtain ⟨rfl, hbc⟩ := hcut
            have hzc := hbc.size
            have HBc := hide ((unhide HB5).trans (hbc.mono (by omega)))
            have HEc := hide ((unhide HE5).below hbc (Nat.le_refl _))
            clear hbc p0 p1 p2 q0 q1 q2
            go_wp2_with fail
            refine (implX_r _ L _ (unhide HEc)).mono ?_
            rintro e w11 ⟨v11, L11, rfl, hans11, hF11, hb11⟩
            have e11 : L11 = L := by
              rcases hans11 with ⟨-, q1, -⟩ | ⟨hn, -⟩
              · exact SegX.one q1 (unhide HLL)
              · exact absurd (unhide HVL) hn
            subst e11
            have HE11 := hide (hF11.at (N := w11.heap.size) (fun k hk => hk.2) (num_valid (unhide HVL)))
            obtain ⟨a11, c11, rfl⟩ := (unhide HE11).form
            have HG11 := hide ((unhide HEc).below hb11 (Nat.le_refl _))
            have HB11 := hide ((unhide HBc).trans (hb11.mono (unhide HBc).size))
            clear hans11 hF11 hb11
            go_wp2_with fail
            refine (sameTree_same _ _ L11 _ (unhide HE11) (unhide HG11)).mono ?_
            rintro e w12 ⟨rfl, q, rfl⟩
            go_wp2
            go_ret
            exact ⟨rfl, below_drewN (unhide HB11) q⟩
    · exact absurd (unhide HVL) hn
  · clear hret hbad
    go_wp2
    go_ret
    exact ⟨rfl, unhide HB2⟩
end Go.Proofs.Ytmafkoppadminaa
