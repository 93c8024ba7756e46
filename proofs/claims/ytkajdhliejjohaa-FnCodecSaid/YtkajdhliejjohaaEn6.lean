import Derived.Test.YtkajdhliejjohaaP9
import Derived.Deep.DeepCutAuto
namespace Go.Proofs.Ytkajdhliejjohaa
open Go.RowKit

/-- The bytes ts, gathered in a row of one's own. -/
def Out (lo : Nat) (w : World) (ov : Value) (ts : List Int) : Prop := w.ownsRow lo 5 1 ov ts.length (ts.map mB)
theorem Out.keep {lo m : Nat} {w w' : World} {ov : Value} {ts : List Int} (h : Out lo w ov ts) (hb : Below m w w') (hm : w.heap.size ≤ m) : Out lo w' ov ts := own_keep h hb hm
theorem Out.is {lo : Nat} {w : World} {ov : Value} {ts : List Int} (h : Out lo w ov ts) : ∃ oa oc, ov = .slice oa ts.length oc := own_is h
def prv (d : Int) (ks : List Int) (j : Nat) : Int := if j = 0 then d else ks[j - 1]?.getD 0
theorem prv_zero (d : Int) (ks : List Int) : prv d ks 0 = d := rfl
theorem prv_succ (d : Int) (ks : List Int) (j : Nat) : prv d ks (j + 1) = ks[j]?.getD 0 := by simp [prv]

set_option maxHeartbeats 16000000 in
set_option maxRecDepth 100000 in
theorem l4body_any (v : Value) (base : Int) (xss pss : List (List Int)) (ks : List Int) (w : World) (hv : SegRd w v base xss ks pss) (hi : EncIn base xss ks pss) :
    Calls Try.prog 16 #[v] w fun e w' => (∃ v', e = .returned v' ∧ Out w.heap.size w' v' (bodL base xss ks pss)) ∧ Below w.heap.size w w' := by
  obtain ⟨a1, c1, a2, c2, a3, c3, rfl, u1, u2, u3⟩ := hv.parts
  have U1 := hide u1
  have U2 := hide u2
  have U3 := hide u3
  have HI := hide hi
  obtain ⟨i1, i2, i3, i4, i5, i6, i7, i8, i9⟩ := hi
  have I3 := hide i3
  have I4 := hide i4
  clear hv u1 u2 u3 i2 i3 i4
  unfold Mid at i1
  have hb0 := below2 w (.cells #[.int .i64 base, .slice a1 xss.length c1, .slice a2 ks.length c2, .slice a3 pss.length c3] 28) (.cells #[.int .u8 84, .int .u8 71] 5)
  have RA := (Row4.new w 28 (.int .i64 base) (.slice a1 xss.length c1) (.slice a2 ks.length c2) (.slice a3 pss.length c3)).alloc (.cells #[.int .u8 84, .int .u8 71] 5)
  have hO0 : Out (w.heap.size + 1) ((w.alloc (.cells #[.int .i64 base, .slice a1 xss.length c1, .slice a2 ks.length c2, .slice a3 pss.length c3] 28)).alloc (.cells #[.int .u8 84, .int .u8 71] 5)) (.slice (some ⟨w.heap.size + 1, 0, none⟩) 2 2) [84, 71] := by
    have := World.ownsRow_lit (base := w.heap.size + 1) (e := 5) (size := 1) (w.alloc (.cells #[.int .i64 base, .slice a1 xss.length c1, .slice a2 ks.length c2, .slice a3 pss.length c3] 28)) #[.int .u8 84, .int .u8 71] 2 (by rw [sz_alloc]; exact Nat.le_refl _) (by unfold maxLen; omega) rfl
    rw [sz_alloc] at this
    exact this
  have hzV : ((w.alloc (.cells #[.int .i64 base, .slice a1 xss.length c1, .slice a2 ks.length c2, .slice a3 pss.length c3] 28)).alloc (.cells #[.int .u8 84, .int .u8 71] 5)).heap.size = w.heap.size + 2 := by simp
  have hbd := bodL_len (unhide HI)
  have HBd := hide hbd
  have hl1 : ([84, 71] ++ (vi base ++ vi xss.length) ++ lnL xss).length ≤ 134217728 := by
    unfold bodL at hbd
    simp only [List.length_append] at hbd ⊢
    omega
  have hl2 : ([84, 71] ++ (vi base ++ vi xss.length) ++ lnL xss ++ vi ks.length).length + (kyL base 0 ks pss).length ≤ 134217728 := by
    unfold bodL at hbd
    simp only [List.length_append] at hbd ⊢
    omega
  have hl0 : ([84, 71] ++ vi base).length + (vi xss.length).length ≤ 134217728 := by
    unfold bodL at hbd
    simp only [List.length_append] at hbd ⊢
    omega
  have hl00 : 2 + (vi base).length ≤ 134217728 := by
    unfold bodL at hbd
    simp only [List.length_append, List.length_cons, List.length_nil] at hbd ⊢
    omega
  have HT : Hid ([84, 71] ++ (vi base ++ vi xss.length) ++ lnL xss ++ vi ks.length ++ kyL base 0 ks pss = bodL base xss ks pss) := rfl
  have HO0 := hide hO0
  clear hbd hO0
  obtain ⟨f0, f1, f2, f3, -⟩ := RA.facts
  go_enter Try.func16, Try.ntmps16
  go_wp2_with fail
  generalize (w.alloc (.cells #[.int .i64 base, .slice a1 xss.length c1, .slice a2 ks.length c2, .slice a3 pss.length c3] 28)).alloc (.cells #[.int .u8 84, .int .u8 71] 5) = V at *
  refine (l4varint_any base V (by omega) (by omega)).mono ?_
  rintro e w1 ⟨⟨v1, rfl, ho1⟩, hb1⟩
  have hz1 := hb1.size
  have HO1 := hide ((unhide HO0).keep hb1 (Nat.le_refl _))
  have HS1 := hide (own_rdB ho1 (by unfold maxLen; omega))
  have hC1 : Below (w.heap.size + 1) V w1 := hb1.mono (by omega)
  obtain ⟨oa1, oc1, rfl⟩ := own_is ho1
  clear ho1 hb1 HO0
  have hS : Hid (∀ W' : World, Below (w.heap.size + 1) V W' → W'.cell? ⟨w.heap.size, 0, none⟩ = some (.int .i64 base) ∧ W'.cell? ⟨w.heap.size, 1, none⟩ = some (.slice a1 xss.length c1) ∧ W'.cell? ⟨w.heap.size, 2, none⟩ = some (.slice a2 ks.length c2) ∧ W'.cell? ⟨w.heap.size, 3, none⟩ = some (.slice a3 pss.length c3)) := fun W' hW => by
    have h1 := (RA.below hW (by omega)).facts
    exact ⟨h1.1, h1.2.1, h1.2.2.1, h1.2.2.2.1⟩
  clear f0 f1 f2 f3
  go_wp2_with (at_builtin; refine app_moreB rfl _ _ rfl (w.heap.size + 1) _ rfl [84, 71] (by exact unhide HO1) (by omega) _ rfl (vi base) (by exact unhide HS1) (by simp; omega) ?_; intro v2 w2 hb2 ho2 hoc2; have hC2 : Below (w.heap.size + 1) V w2 := hC1.trans hb2; obtain ⟨f0, f1, f2, f3⟩ := unhide hS _ hC2; have HO2 : Hid (Out (w.heap.size + 1) w2 v2 ([84, 71] ++ vi base)) := ho2; clear ho2 hb2)
  have hz2 := hC2.size
  refine (l4varint_any (xss.length) w2 (by omega) (by omega)).mono ?_
  rintro e w3 ⟨⟨v3, rfl, ho3⟩, hb3⟩
  have hz3 := hb3.size
  have hvl3 := vi_len9 (n := xss.length) (by omega)
  have HO3 := hide ((unhide HO2).keep hb3 (Nat.le_refl _))
  have HS3 := hide (own_rdB ho3 (by unfold maxLen; omega))
  have hC3 : Below (w.heap.size + 1) V w3 := hC2.trans (hb3.mono (by omega))
  obtain ⟨oa3, oc3, rfl⟩ := own_is ho3
  clear ho3 f0 f1 f2 f3
  obtain ⟨f0, f1, f2, f3⟩ := unhide hS _ hC3
  go_wp2_with (at_builtin; refine app_moreB rfl _ _ rfl (w.heap.size + 1) _ rfl ([84, 71] ++ vi base) (by exact unhide HO3) (by omega) _ rfl (vi (xss.length)) (by exact unhide HS3) (by omega) ?_; intro v4 w4 hb4 ho4 hoc4; have hz4 := hb4.size; have hC4 : Below (w.heap.size + 1) V w4 := hC3.trans hb4; have HO4 : Hid (Out (w.heap.size + 1) w4 v4 (([84, 71] ++ vi base) ++ vi (xss.length))) := ho4; clear ho4 f0 f1 f2 f3; obtain ⟨f0, f1, f2, f3⟩ := unhide hS _ hC4)
  have e4 : [84, 71] ++ vi base ++ vi xss.length = [84, 71] ++ (vi base ++ vi xss.length) ++ lnL (xss.take 0) := by simp [lnL]
  rw [e4] at HO4
  have HV3 := hide (vi_len9 (n := base) (by omega))
  have HV4 := hide (vi_len9 (n := (xss.length : Int)) (by omega))
  clear HO1 HO2 HO3 HS1 HS3 hC1 hC2 hC3 hb3 hb4 hvl3 e4
  go_loopw [3, 4] (fun ov iv wr => ∃ k : Nat, k ≤ xss.length ∧ iv = .int .i64 k ∧ Out (w.heap.size + 1) wr ov ([84, 71] ++ (vi base ++ vi xss.length) ++ lnL (xss.take k)) ∧ Below (w.heap.size + 1) V wr) (fun _ iv _ => xss.length - (intOf iv).toNat)
  case atStart => exact ⟨0, Nat.zero_le _, rfl, unhide HO4, hC4⟩
  case round =>
    clear HO4 hC4 hz1 hz2 hz3 hz4 f0 f1 f2 f3
    obtain ⟨k, hk, rfl, hout, hC10⟩ := hrel
    have hz10 := hC10.size
    have HO10 := hide hout
    have hB10 : Below w.heap.size w wr := hb0.trans (hC10.mono (by omega))
    obtain ⟨w10, hw10⟩ : ∃ w10, w10 = wr := ⟨_, rfl⟩
    rw [← hw10] at hC10 hz10 HO10 hB10 ⊢
    clear hout hw10
    obtain ⟨f0, f1, f2, f3⟩ := unhide hS _ hC10
    by_cases hlt : k < xss.length
    · have hlt' : (k : Int) < (xss.length : Int) := by omega
      obtain ⟨_, _, e1, -, hc⟩ := (unhide U1).under hB10 (Nat.le_refl _)
      cases e1
      obtain ⟨b, off, rfl, hbn, hcell⟩ := hc (by omega)
      obtain ⟨s, hx, hs, -⟩ := hcell k hlt
      have Hs := hide hs
      have ht := tot_get xss k
      have Hn := hide (lnL_next hlt)
      have hln : ([84, 71] ++ (vi base ++ vi xss.length) ++ lnL (xss.take k)).length ≤ 134217728 := by
        have h1 := lnL_len (xss.take k) (by have := tot_take xss k; omega)
        have h2 := tot_take xss k
        have h3 := unhide HV3
        have h4 := unhide HV4
        rw [List.length_take] at h1
        simp only [List.length_append, List.length_cons, List.length_nil]
        omega
      obtain ⟨sa, sc, rfl, -, -⟩ := hs
      have hX : Hid (∀ W' : World, Below w.heap.size w10 W' → W'.cell? ⟨b, off + k, none⟩ = some (.slice sa (xss[k]?.getD []).length sc)) := fun W' hW => by rw [hW.cell (p := ⟨b, off + k, none⟩) (by show b < _; omega)]; exact hx
      clear hcell hc
      generalize xss[k]?.getD [] = x at *
      obtain ⟨t1, ht1⟩ : ∃ t1, t1 = [84, 71] ++ (vi base ++ vi xss.length) ++ lnL (xss.take k) := ⟨_, rfl⟩
      rw [← ht1] at hln HO10
      have Ht1 := hide ht1
      clear ht1
      go_wp2_with fail
      refine (l4varint_any x.length w10 (by omega) (by omega)).mono ?_
      rintro e w11 ⟨⟨v11, rfl, ho11⟩, hb11⟩
      have hz11 := hb11.size
      have hvl11 := vi_len9 (n := x.length) (by omega)
      have HO11 := hide ((unhide HO10).keep hb11 (Nat.le_refl _))
      have HS11 := hide (own_rdB ho11 (by unfold maxLen; omega))
      have hC11 : Below (w.heap.size + 1) V w11 := hC10.trans (hb11.mono (by omega))
      obtain ⟨oa11, oc11, rfl⟩ := own_is ho11
      clear ho11 f0 f1 f2 f3 hx
      go_wp2_with ((first
        | (at_builtin; refine app_moreB rfl _ _ rfl (w.heap.size + 1) _ rfl t1 (by exact unhide HO11) (by omega) _ rfl (vi x.length) (by exact unhide HS11) (by omega) ?_; intro v12 w12 hb12 ho12 hoc12; have hz12 := hb12.size; have hC12 : Below (w.heap.size + 1) V w12 := hC11.trans hb12; have hD12 : Below w.heap.size w10 w12 := (hb11.mono (by omega)).trans (hb12.mono (by omega)); have HO12 : Hid (Out (w.heap.size + 1) w12 v12 (t1 ++ vi x.length)) := ho12; have HL12 : Hid ((t1 ++ vi x.length).length + x.length ≤ 1073741824) := (by show (t1 ++ vi x.length).length + x.length ≤ 1073741824; rw [List.length_append]; omega); have HX12 := hide (((unhide Hs).under hD12 (Nat.le_refl _)).mono (Nat.le_refl _) (show w.heap.size ≤ w12.heap.size by omega)); obtain ⟨f0, f1, f2, f3⟩ := unhide hS _ hC12; have hx := unhide hX _ hD12; clear ho12)
        | (at_builtin; refine app_moreB rfl _ _ rfl (w.heap.size + 1) _ rfl (t1 ++ vi x.length) (by exact unhide HO12) (by omega) _ rfl x (by exact unhide HX12) (unhide HL12) ?_; intro v13 w13 hb13 ho13 hoc13; have hC13 : Below (w.heap.size + 1) V w13 := hC12.trans hb13; have HO13 : Hid (Out (w.heap.size + 1) w13 v13 (t1 ++ vi x.length ++ x)) := ho13; clear ho13 f0 f1 f2 f3 hx)))
      refine ⟨⟨k + 1, by omega, by go_num, ?_, hC13⟩, by simp [intOf]; omega⟩
      have e9 : [84, 71] ++ (vi base ++ vi xss.length) ++ lnL (xss.take (k + 1)) = t1 ++ vi x.length ++ x := by rw [unhide Hn, unhide Ht1]; simp only [List.append_assoc]
      rw [e9]
      exact unhide HO13
    · obtain rfl : k = xss.length := by omega
      rw [List.take_length] at HO10
      obtain ⟨t1, ht1⟩ : ∃ t1, t1 = [84, 71] ++ (vi base ++ vi xss.length) ++ lnL xss := ⟨_, rfl⟩
      rw [← ht1] at HO10 hl1 hl2 HT
      clear ht1
      have hl3 : t1.length + (vi ks.length).length + (kyL base 0 ks pss).length ≤ 134217728 := by rw [List.length_append] at hl2; exact hl2
      go_wp2_with fail
      refine (l4varint_any (ks.length) w10 (by omega) (by omega)).mono ?_
      rintro e w11 ⟨⟨v11, rfl, ho11⟩, hb11⟩
      have hz11 := hb11.size
      have hvl11 := vi_len9 (n := ks.length) (by omega)
      have HO11 := hide ((unhide HO10).keep hb11 (Nat.le_refl _))
      have HS11 := hide (own_rdB ho11 (by unfold maxLen; omega))
      have hC11 : Below (w.heap.size + 1) V w11 := hC10.trans (hb11.mono (by omega))
      obtain ⟨oa11, oc11, rfl⟩ := own_is ho11
      clear ho11 f0 f1 f2 f3
      obtain ⟨f0, f1, f2, f3⟩ := unhide hS _ hC11
      go_wp2_with (at_builtin; refine app_moreB rfl _ _ rfl (w.heap.size + 1) _ rfl (t1) (by exact unhide HO11) (by omega) _ rfl (vi (ks.length)) (by exact unhide HS11) (by omega) ?_; intro v12 w12 hb12 ho12 hoc12; have hz12 := hb12.size; have hC12 : Below (w.heap.size + 1) V w12 := hC11.trans hb12; have HO12 : Hid (Out (w.heap.size + 1) w12 v12 ((t1) ++ vi (ks.length))) := ho12; clear ho12 f0 f1 f2 f3; obtain ⟨f0, f1, f2, f3⟩ := unhide hS _ hC12)
      obtain ⟨t2, ht2⟩ : ∃ t2, t2 = t1 ++ vi ks.length := ⟨_, rfl⟩
      rw [← ht2] at HO12 hl2 HT
      clear ht2 HO10 HO11 HS11 hb11 hb12 hC11
      go_loopw [3, 5] (fun ov iv wr => ∃ (j : Nat) (ds : List Int), j ≤ ks.length ∧ iv = .int .i64 j ∧ kyL base 0 ks pss = ds ++ kyL base (prv 0 ks j) (ks.drop j) (pss.drop j) ∧ Out (w.heap.size + 1) wr ov (t2 ++ ds) ∧ Below (w.heap.size + 1) V wr) (fun _ iv _ => ks.length - (intOf iv).toNat)
      case atStart => exact ⟨0, [], Nat.zero_le _, rfl, rfl, by simpa using unhide HO12, hC12⟩
      case round =>
        clear HO12 hC12 hz12 hz11 hvl11 hC10 hz10 hB10 f0 f1 f2 f3
        obtain ⟨j, ds, hj, rfl, hds, hout, hC20⟩ := hrel
        have hz20 := hC20.size
        have HO20 := hide hout
        have hB20 : Below w.heap.size w wr := hb0.trans (hC20.mono (by omega))
        have hdl : t2.length + ds.length ≤ 134217728 := by
          rw [hds, List.length_append] at hl2
          omega
        have Hds := hide hds
        obtain ⟨w20, hw20⟩ : ∃ w20, w20 = wr := ⟨_, rfl⟩
        rw [← hw20] at hC20 hz20 HO20 hB20 ⊢
        clear hout hw20 hds
        obtain ⟨f0, f1, f2, f3⟩ := unhide hS _ hC20
        by_cases hlt : j < ks.length
        · have hlt' : (j : Int) < (ks.length : Int) := by omega
          have hlp : j < pss.length := by omega
          have hlp' : (j : Int) < (pss.length : Int) := by omega
          obtain ⟨_, _, e2, -, hc2⟩ := (unhide U2).under hB20 (Nat.le_refl _)
          cases e2
          obtain ⟨b2, off2, rfl, -, hb2n, hcell2⟩ := hc2 (by omega)
          have hx2 := hcell2 j hlt
          unfold mI at hx2
          obtain ⟨_, _, e3, -, hc3⟩ := (unhide U3).under hB20 (Nat.le_refl _)
          cases e3
          obtain ⟨b3, off3, rfl, hb3n, hcell3⟩ := hc3 (by omega)
          obtain ⟨s, hx3, hs3, -⟩ := hcell3 j hlp
          have Hs := hide hs3
          have hk : Mid (ks[j]?.getD 0) := unhide I3 _ (by rw [List.getElem?_eq_getElem hlt]; exact List.getElem_mem hlt)
          have HP : Hid (∀ x ∈ pss[j]?.getD [], Mid x) := unhide I4 _ (by rw [List.getElem?_eq_getElem hlp]; exact List.getElem_mem hlp)
          have ht := tot_get pss j
          have Hdd := hide (kyL_drop (base := base) (b := prv 0 ks j) hlt hlp)
          obtain ⟨sa, sc, rfl, -, -⟩ := hs3
          have hX : Hid (∀ W' : World, Below w.heap.size w20 W' → W'.cell? ⟨b3, off3 + j, none⟩ = some (.slice sa (pss[j]?.getD []).length sc)) := fun W' hW => by rw [hW.cell (p := ⟨b3, off3 + j, none⟩) (by show b3 < _; omega)]; exact hx3
          have hpv : Mid (prv 0 ks j) := by
            cases j with
            | zero => exact ⟨by simp [prv], by simp [prv]⟩
            | succ q => rw [prv_succ]; exact unhide I3 _ (by rw [List.getElem?_eq_getElem (by omega)]; exact List.getElem_mem _)
          have hgap : Hid (0 < j → w20.cell? ⟨b2, off2 + (j - 1), none⟩ = some (.int .i64 (prv 0 ks j))) := fun h => by
            obtain ⟨q, rfl⟩ : ∃ q, j = q + 1 := ⟨j - 1, by omega⟩
            rw [prv_succ]
            exact hcell2 q (by omega)
          have hz0 : Hid (j = 0 → prv 0 ks j = 0) := fun h => by rw [h]; rfl
          have Hnx : Hid (ks[j]?.getD 0 = prv 0 ks (j + 1)) := (prv_succ 0 ks j).symm
          clear hcell2 hc2 hcell3 hc3
          generalize ks[j]?.getD 0 = key at *
          generalize pss[j]?.getD [] = p at *
          generalize prv 0 ks j = c at *
          unfold Mid at hk hpv
          have hlen3 : t2.length + ds.length + (vi (key - c)).length + (vi p.length).length + (dst base p).length ≤ 268435456 := by
            have h1 := vi_len9 (n := key - c) (by omega)
            have h2 := vi_len9 (n := (p.length : Int)) (by omega)
            have h3 := dst_len p base i1.1 (unhide HP)
            omega
          obtain ⟨t3, ht3⟩ : ∃ t3, t3 = t2 ++ ds := ⟨_, rfl⟩
          have hl3' : t3.length = t2.length + ds.length := by rw [ht3, List.length_append]
          rw [← ht3] at HO20
          have Ht3 := hide ht3
          clear ht3
          go_upto_if 63 with fail
          go_cut [6] (fun gv wx => gv = .int .i64 (key - c) ∧ w20 = wx)
          case first =>
            by_cases hj0 : 0 < j
            · have hj0' : (0 : Int) < (j : Int) := by omega
              have hg := unhide hgap hj0
              go_wp2_with fail
              go_meet
              exact ⟨rfl, rfl⟩
            · have hj0' : ¬ (0 : Int) < (j : Int) := by omega
              have hc0 := unhide hz0 (by omega)
              go_wp2_with fail
              go_meet
              exact ⟨by rw [hc0, Int.sub_zero], rfl⟩
          case rest =>
            obtain ⟨rfl, hwc⟩ := hcut
            subst hwc
            go_wp2_with fail
            refine (l4varint_any (key - c) w20 (by omega) (by omega)).mono ?_
            rintro e w21 ⟨⟨v21, rfl, ho21⟩, hb21⟩
            have hz21 := hb21.size
            have hvl21 := vi_len9 (n := key - c) (by omega)
            have HO21 := hide ((unhide HO20).keep hb21 (Nat.le_refl _))
            have HS21 := hide (own_rdB ho21 (by unfold maxLen; omega))
            have hC21 : Below (w.heap.size + 1) V w21 := hC20.trans (hb21.mono (by omega))
            obtain ⟨oa21, oc21, rfl⟩ := own_is ho21
            clear ho21 f0 f1 f2 f3 hx3 hx2
            obtain ⟨f0, f1, f2, f3⟩ := unhide hS _ hC21
            go_wp2_with (at_builtin; refine app_moreB rfl _ _ rfl (w.heap.size + 1) _ rfl (t3) (by exact unhide HO21) (by omega) _ rfl (vi (key - c)) (by exact unhide HS21) (by omega) ?_; intro v22 w22 hb22 ho22 hoc22; have hz22 := hb22.size; have hC22 : Below (w.heap.size + 1) V w22 := hC21.trans hb22; have HO22 : Hid (Out (w.heap.size + 1) w22 v22 ((t3) ++ vi (key - c))) := ho22; clear ho22 f0 f1 f2 f3; obtain ⟨f0, f1, f2, f3⟩ := unhide hS _ hC22; have hD22 : Below w.heap.size w20 w22 := (hb21.mono (by omega)).trans (hb22.mono (by omega)); have hx3 := unhide hX _ hD22)
            obtain ⟨t4, ht4⟩ : ∃ t4, t4 = t3 ++ vi (key - c) := ⟨_, rfl⟩
            have hl4' : t4.length = t3.length + (vi (key - c)).length := by rw [ht4, List.length_append]
            rw [← ht4] at HO22
            have Ht4 := hide ht4
            clear ht4 HO20 HO21 HS21 hb21 hb22 hC20 hC21
            refine (l4varint_any (p.length) w22 (by omega) (by omega)).mono ?_
            rintro e w23 ⟨⟨v23, rfl, ho23⟩, hb23⟩
            have hz23 := hb23.size
            have hvl23 := vi_len9 (n := p.length) (by omega)
            have HO23 := hide ((unhide HO22).keep hb23 (Nat.le_refl _))
            have HS23 := hide (own_rdB ho23 (by unfold maxLen; omega))
            have hC23 : Below (w.heap.size + 1) V w23 := hC22.trans (hb23.mono (by omega))
            obtain ⟨oa23, oc23, rfl⟩ := own_is ho23
            clear ho23 f0 f1 f2 f3 hx3
            obtain ⟨f0, f1, f2, f3⟩ := unhide hS _ hC23
            go_wp2_with (at_builtin; refine app_moreB rfl _ _ rfl (w.heap.size + 1) _ rfl (t4) (by exact unhide HO23) (by omega) _ rfl (vi (p.length)) (by exact unhide HS23) (by omega) ?_; intro v24 w24 hb24 ho24 hoc24; have hz24 := hb24.size; have hC24 : Below (w.heap.size + 1) V w24 := hC23.trans hb24; have HO24 : Hid (Out (w.heap.size + 1) w24 v24 ((t4) ++ vi (p.length))) := ho24; clear ho24 f0 f1 f2 f3; obtain ⟨f0, f1, f2, f3⟩ := unhide hS _ hC24; have hD24 : Below w.heap.size w20 w24 := hD22.trans ((hb23.mono (by omega)).trans (hb24.mono (by omega))); have hx3 := unhide hX _ hD24)
            obtain ⟨t5, ht5⟩ : ∃ t5, t5 = t4 ++ vi p.length := ⟨_, rfl⟩
            have hl5' : t5.length = t4.length + (vi p.length).length := by rw [ht5, List.length_append]
            rw [← ht5] at HO24
            have Ht5 := hide ht5
            clear ht5 HO22 HO23 HS23 hb23 hb24 hC22 hC23 hD22
            go_loopw [3, 7] (fun ov iv wr => ∃ (i : Nat) (es : List Int), i ≤ p.length ∧ iv = .int .i64 i ∧ dst base p = es ++ dst (prv base p i) (p.drop i) ∧ Out (w.heap.size + 1) wr ov (t5 ++ es) ∧ Below (w.heap.size + 1) V wr ∧ Below w.heap.size w20 wr) (fun _ iv _ => p.length - (intOf iv).toNat)
            case atStart => exact ⟨0, [], Nat.zero_le _, rfl, rfl, by simpa using unhide HO24, hC24, hD24⟩
            case round =>
              clear HO24 hC24 hD24 f0 f1 f2 f3 hx3
              obtain ⟨i, es, hip, rfl, hes, hout, hC30, hD30⟩ := hrel
              have hz30 := hC30.size
              have HO30 := hide hout
              have hel : es.length ≤ (dst base p).length := by rw [hes, List.length_append]; omega
              have Hes := hide hes
              obtain ⟨w30, hw30⟩ : ∃ w30, w30 = wr := ⟨_, rfl⟩
              rw [← hw30] at hC30 hz30 HO30 hD30 ⊢
              clear hout hw30 hes
              obtain ⟨f0, f1, f2, f3⟩ := unhide hS _ hC30
              have hx3 := unhide hX _ hD30
              obtain ⟨_, _, ep, -, hcp⟩ := (unhide Hs).under hD30 (Nat.le_refl _)
              cases ep
              by_cases hil : i < p.length
              · have hil' : (i : Int) < (p.length : Int) := by omega
                obtain ⟨b4, off4, rfl, -, -, hcell4⟩ := hcp (by omega)
                have hx4 := hcell4 i hil
                unfold mI at hx4
                have hm : Mid (p[i]?.getD 0) := unhide HP _ (by rw [List.getElem?_eq_getElem hil]; exact List.getElem_mem hil)
                have Hdp := hide (dst_drop (b := prv base p i) hil)
                have hpv2 : Mid (prv base p i) := by
                  cases i with
                  | zero => exact i1
                  | succ q => rw [prv_succ]; exact unhide HP _ (by rw [List.getElem?_eq_getElem (by omega)]; exact List.getElem_mem _)
                have hgap2 : Hid (0 < i → w30.cell? ⟨b4, off4 + (i - 1), none⟩ = some (.int .i64 (prv base p i))) := fun h => by
                  obtain ⟨q, rfl⟩ : ∃ q, i = q + 1 := ⟨i - 1, by omega⟩
                  rw [prv_succ]
                  exact hcell4 q (by omega)
                have hz2 : Hid (i = 0 → prv base p i = base) := fun h => by rw [h]; rfl
                have Hnp : Hid (p[i]?.getD 0 = prv base p (i + 1)) := (prv_succ base p i).symm
                clear hcell4 hcp
                generalize p[i]?.getD 0 = x at *
                generalize prv base p i = c2 at *
                unfold Mid at hm hpv2
                obtain ⟨t6, ht6⟩ : ∃ t6, t6 = t5 ++ es := ⟨_, rfl⟩
                have hl6' : t6.length = t5.length + es.length := by rw [ht6, List.length_append]
                rw [← ht6] at HO30
                have Ht6 := hide ht6
                clear ht6
                go_upto_if 98 with fail
                go_cut [8] (fun fv wx => fv = .int .i64 c2 ∧ w30 = wx)
                case first =>
                  by_cases hi0 : 0 < i
                  · have hi0' : (0 : Int) < (i : Int) := by omega
                    have hg := unhide hgap2 hi0
                    go_wp2_with fail
                    go_meet
                    exact ⟨rfl, rfl⟩
                  · have hi0' : ¬ (0 : Int) < (i : Int) := by omega
                    have hc0 := unhide hz2 (by omega)
                    go_wp2_with fail
                    go_meet
                    exact ⟨by rw [hc0], rfl⟩
                case rest =>
                  obtain ⟨rfl, hwc⟩ := hcut
                  subst hwc
                  go_wp2_with fail
                  refine (l4varint_any (x - c2) w30 (by omega) (by omega)).mono ?_
                  rintro e w31 ⟨⟨v31, rfl, ho31⟩, hb31⟩
                  have hz31 := hb31.size
                  have hvl31 := vi_len9 (n := x - c2) (by omega)
                  have HO31 := hide ((unhide HO30).keep hb31 (Nat.le_refl _))
                  have HS31 := hide (own_rdB ho31 (by unfold maxLen; omega))
                  have hC31 : Below (w.heap.size + 1) V w31 := hC30.trans (hb31.mono (by omega))
                  obtain ⟨oa31, oc31, rfl⟩ := own_is ho31
                  clear ho31 f0 f1 f2 f3 hx3 hx4
                  obtain ⟨f0, f1, f2, f3⟩ := unhide hS _ hC31
                  go_wp2_with (at_builtin; refine app_moreB rfl _ _ rfl (w.heap.size + 1) _ rfl (t6) (by exact unhide HO31) (by omega) _ rfl (vi (x - c2)) (by exact unhide HS31) (by omega) ?_; intro v32 w32 hb32 ho32 hoc32; have hz32 := hb32.size; have hC32 : Below (w.heap.size + 1) V w32 := hC31.trans hb32; have HO32 : Hid (Out (w.heap.size + 1) w32 v32 ((t6) ++ vi (x - c2))) := ho32; clear ho32 f0 f1 f2 f3; obtain ⟨f0, f1, f2, f3⟩ := unhide hS _ hC32; have hD32 : Below w.heap.size w20 w32 := hD30.trans ((hb31.mono (by omega)).trans (hb32.mono (by omega))))
                  refine ⟨⟨i + 1, es ++ vi (x - c2), by omega, by go_num, by rw [unhide Hes, unhide Hdp, ← unhide Hnp, List.append_assoc], ?_, hC32, hD32⟩, by simp [intOf]; omega⟩
                  rw [← List.append_assoc, ← unhide Ht6]
                  exact unhide HO32
              · obtain rfl : i = p.length := by omega
                have hee : Hid (dst base p = es) := by
                  have h1 := unhide Hes
                  rw [List.drop_length] at h1
                  show dst base p = es
                  rw [h1]
                  simp [dst]
                clear hcp
                go_wp2
                refine ⟨⟨j + 1, ds ++ (vi (key - c) ++ vi p.length) ++ dst base p, by omega, by go_num, by rw [unhide Hds, unhide Hdd, ← unhide Hnx]; simp only [List.append_assoc], ?_, hC30⟩, by simp [intOf]; omega⟩
                have e9 : t2 ++ (ds ++ (vi (key - c) ++ vi p.length) ++ dst base p) = t5 ++ es := by rw [unhide Ht5, unhide Ht4, unhide Ht3, unhide hee]; simp only [List.append_assoc]
                rw [e9]
                exact unhide HO30
        · obtain rfl : j = ks.length := by omega
          have hE : Hid (t2 ++ ds = bodL base xss ks pss) := by
            have h1 := unhide Hds
            rw [kyL_end, List.append_nil] at h1
            show t2 ++ ds = _
            rw [← unhide HT, h1]
          go_wp2
          go_ret
          refine ⟨⟨_, rfl, ?_⟩, hB20⟩
          rw [← unhide hE]
          exact own_low (unhide HO20) (by omega)

set_option maxHeartbeats 4000000 in
set_option maxRecDepth 100000 in
theorem l4encode_any (v : Value) (base : Int) (xss pss : List (List Int)) (ks : List Int) (w : World) (hv : SegRd w v base xss ks pss) (hi : EncIn base xss ks pss) :
    Calls Try.prog 17 #[v] w fun e w' => (∃ v', e = .returned v' ∧ Out w.heap.size w' v' (encL base xss ks pss)) ∧ Below w.heap.size w w' := by
  have HV := hide hv
  obtain ⟨a1, c1, a2, c2, a3, c3, rfl, -⟩ := hv.parts
  have HI := hide hi
  have hbd := bodL_len hi
  have hb0 := below1 w (.cells #[.int .i64 base, .slice a1 xss.length c1, .slice a2 ks.length c2, .slice a3 pss.length c3] 28)
  have hzV : (w.alloc (.cells #[.int .i64 base, .slice a1 xss.length c1, .slice a2 ks.length c2, .slice a3 pss.length c3] 28)).heap.size = w.heap.size + 1 := sz_alloc _ _
  clear hv hi
  go_enter Try.func17, Try.ntmps17
  go_wp2_with fail
  generalize w.alloc (.cells #[.int .i64 base, .slice a1 xss.length c1, .slice a2 ks.length c2, .slice a3 pss.length c3] 28) = V at *
  refine (l4body_any _ base xss pss ks V ((unhide HV).below hb0 (Nat.le_refl _)) (unhide HI)).mono ?_
  rintro e w1 ⟨⟨v1, rfl, ho1⟩, hb1⟩
  have hz1 := hb1.size
  have HO1 := hide ho1
  have HS1 := hide (own_rdB ho1 (by unfold maxLen; omega))
  have hB1 : Below w.heap.size w w1 := hb0.trans (hb1.mono (by omega))
  have HBy := hide (bodL_bytes (base := base) (ks := ks) (pss := pss) (unhide HI).bytes)
  obtain ⟨t1, ht1⟩ : ∃ t1, t1 = bodL base xss ks pss := ⟨_, rfl⟩
  have Ht1 := hide ht1
  rw [← ht1] at HO1 HS1 HBy hbd
  obtain ⟨oa1, oc1, rfl⟩ := (unhide HO1).is
  clear ho1 hb1 ht1
  go_wp2_with fail
  refine (l4checksum_any _ t1 w1 (unhide HS1) (unhide HBy)).mono ?_
  rintro e w2 ⟨⟨v2, rfl, ho2⟩, hb2⟩
  have hz2 := hb2.size
  have HO2 := hide ((unhide HO1).keep hb2 (Nat.le_refl _))
  have HS2 := hide (own_rdB ho2 (by unfold maxLen; omega))
  obtain ⟨oa2, oc2, rfl⟩ := own_is ho2
  have h4 : (ckB (ck t1)).length = 4 := rfl
  clear ho2
  go_wp2_with (at_builtin; refine app_moreB rfl _ _ rfl V.heap.size _ rfl t1 (by exact unhide HO2) (by omega) _ rfl (ckB (ck t1)) (by exact unhide HS2) (by omega) ?_; intro v3 w3 hb3 ho3 hoc3)
  go_ret
  refine ⟨⟨_, rfl, ?_⟩, hB1.trans ((hb2.mono (by omega)).trans (hb3.mono (by omega)))⟩
  have e3 : encL base xss ks pss = t1 ++ ckB (ck t1) := by rw [unhide Ht1]; rfl
  rw [e3]
  exact own_low ho3 (by omega)

end Go.Proofs.Ytkajdhliejjohaa
