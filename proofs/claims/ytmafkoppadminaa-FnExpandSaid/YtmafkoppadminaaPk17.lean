import Derived.Test.YtmafkoppadminaaPk16
import Derived.Test.YtmafkoppadminaaPk11
import Derived.Test.YtmafkoppadminaaPk10
import Derived.Test.YtmafkoppadminaaPk7
import Derived.Deep.CutBlock
import Derived.Deep.DeepCutAuto
import Derived.Test.YtmafkoppadminaaPk9
namespace Go.Proofs.Ytmafkoppadminaa
open Go.RowKit
theorem sm_rep (l : List El) (mn mx : Int) (hl : SmS l) (hne : 0 < l.length) (o2 : 0 ≤ mn) (o3 : mn ≤ 250) (o4 : mx = -1 ∨ (mn ≤ mx ∧ mx ≤ 250)) : SmS (l ++ [⟨4, [], mn, mx⟩]) := by
  intro N D lo v xs w h hx hD hlo hv hlen
  by_cases h1 : mx = -1
  · exact sm_rep_a l mn mx hl hne o2 o3 N D lo v xs w h hx hD hlo hv hlen h1
  · have h2 := o4.resolve_left h1
    by_cases h3 : mn + xs.headD 0 % 3 < mx
    · exact sm_rep_b l mn mx hl hne o2 o3 N D lo v xs w h hx hD hlo hv hlen ⟨h1, h2.2, h3⟩
    · exact sm_rep_c l mn mx hl hne o2 o3 N D lo v xs w h hx hD hlo hv hlen ⟨h1, h2.1, h2.2, h3⟩
def SmG (u : Value) (t : List El × Int) : Prop := SzV u t.2 ∧ SegM t.1 t.2 ∧ SmS t.1
theorem closSm : Clos SmG := by
  refine ⟨fun h => h.1, ?_, ?_, ?_, ?_, ?_⟩
  · exact ⟨SzV.e, SegM.leaf (Or.inl rfl), sm_e⟩
  · intro xs g hc hw
    exact ⟨SzV.s _ _ _ _, SegM.leaf (Or.inr rfl), sm_s xs hc (canon_len hc)⟩
  · rintro u v l r ⟨hu, hs, a⟩ ⟨hv, hs2, b⟩
    exact ⟨SzV.cat hu hv, SegM.bin hs hs2 (Or.inl rfl), sm_cat l.1 r.1 _ hs2 a b⟩
  · rintro u v l r ⟨hu, hs, a⟩ ⟨hv, hs2, b⟩
    exact ⟨SzV.alt hu hv, SegM.bin hs hs2 (Or.inr rfl), sm_alt l.1 r.1 _ hs2 a b⟩
  · rintro u o mn mx ⟨hu, hs, a⟩ o2 o3 o4
    exact ⟨SzV.rep hu o2 o3 o4, SegM.rep hs rfl o2 o4, sm_rep o.1 mn mx a (by have := hs.ne; omega) o2 o3 o4⟩
theorem sm_valid {xs : List El} (h : ValidT xs) : SmS xs := by
  obtain ⟨u, c, -, -, h⟩ := valid_g closSm h
  exact h
theorem Cod.setB {xs : List Int} {j : Nat} {y : Int} (h : Cod xs) (h0 : 0 ≤ y) (h1 : y ≤ 255) : Cod (xs.set j y) := fun x hx => by
  rcases List.mem_or_eq_of_mem_set hx with q | q
  · exact h x q
  · omega
def MidL (N D M : Nat) (W0 : World) (ov : Value) (wx : World) : Prop := ∃ bs zs, wx.ownsRow W0.heap.size 5 1 ov bs.length (bs.map mB) ∧ Cod bs ∧ bs.length ≤ M ∧ CdAt N D wx zs ∧ Cod zs ∧ Mv W0.heap.size D W0 wx
set_option maxHeartbeats 16000000 in
set_option maxRecDepth 100000 in
theorem l2drawLine_any (N D lo : Nat) (l r : Bool) (v : Value) (t : List El) (xs : List Int) (w : World) (h : CdAt N D w xs) (hx : Cod xs) (hD : D < lo) (hlo : lo ≤ w.heap.size) (hv : ElsAt lo w.heap.size w v t) (ht : t.length ≤ 1048576) :
    Calls Try.prog 11 #[.agg #[.bool l, .bool r, v], .pointer (some ⟨D, 0, none⟩)] w (Smp N D 80 w) := by
  obtain ⟨a, cp, rfl, -, -⟩ := id hv
  have H := hide h
  have HX := hide hx
  have hh := hx.head
  obtain ⟨y, hy⟩ : ∃ y, xs.headD 0 = y := ⟨_, rfl⟩
  rw [hy] at hh
  have HY := hide hy
  have HP := hide (Bx3.new w 25 (.bool l) (.bool r) (.slice a t.length cp))
  have HB0 := hide (below1 w (.cells #[.bool l, .bool r, .slice a t.length cp] 25))
  have hzW : (w.alloc (.cells #[.bool l, .bool r, .slice a t.length cp] 25)).heap.size = w.heap.size + 1 := sz_alloc _ _
  have HC0 := hide ((unhide H).keep (unhide HB0) (by omega))
  have HV0 := hide (Below.mv (unhide HB0) D)
  have HT0 := hide (hv.below (unhide HB0) (Nat.le_refl _))
  clear h hx hy hv
  go_enter Try.func11, Try.ntmps11
  go_wp2_with fail
  generalize w.alloc (.cells #[.bool l, .bool r, .slice a t.length cp] 25) = W0 at *
  refine (next_any N D xs W0 (unhide HC0) (unhide HX)).mono ?_
  rintro e w1 ⟨he, hc1, ho1⟩
  rw [unhide HY] at he
  subst he
  have hz1 : w1.heap.size = W0.heap.size := ho1.size
  have HM1 := hide (ho1.mv W0.heap.size)
  have HC1 := hide hc1
  clear hc1 ho1
  by_cases hk0 : y % 8 = 0
  · go_wp2_with fail
    refine (l2junk_any N D xs.tail w1 (unhide HC1) (unhide HX).tail (by omega)).mono ?_
    rintro e w2 ⟨v2, b2, z2, rfl, ho2, hcb2, hlb2, hcd2, hz2, hm2⟩
    obtain ⟨oa, oc, rfl⟩ := own_is ho2
    have hs2 := hm2.size
    have HO2 := hide ho2
    have HB2 := hide hcb2
    have HC2 := hide hcd2
    have HZ2 := hide hz2
    have HM2 := hide ((unhide HM1).trans (hm2.mono (by omega)))
    clear ho2 hcb2 hcd2 hz2 hm2
    go_wp2_with fail
    refine (l2junk_any N D z2 w2 (unhide HC2) (unhide HZ2) (by omega)).mono ?_
    rintro e w3 ⟨v3, b3, z3, rfl, ho3, hcb3, hlb3, hcd3, hz3, hm3⟩
    obtain ⟨oa3, oc3, rfl⟩ := own_is ho3
    have hs3 := hm3.size
    have HO3 := hide ho3
    have HB3 := hide ((unhide HB2).app hcb3)
    have HC3 := hide hcd3
    have HZ3 := hide hz3
    have HM3 := hide ((unhide HM2).trans (hm3.mono (by omega)))
    have HP3 := hide (own_mv (unhide HO2) hm3 (Nat.le_refl _) (by omega))
    clear ho3 hcb3 hcd3 hz3 hm3
    go_wp2_with (at_builtin; refine app_moreB rfl _ _ rfl w.heap.size _ rfl b2 (by exact own_lo (unhide HP3) (by omega)) (by omega) _ rfl b3 (by exact own_rdB (unhide HO3) (by unfold maxLen; omega)) (by omega) ?_; intro v5 w5 hb5 ho5 hoc5)
    have hbl : (b2 ++ b3).length ≤ 80 := by rw [List.length_append]; omega
    have HF : Hid (Smp N D 80 w (.returned v5) w5) := ⟨_, b2 ++ b3, z3, rfl, ho5, unhide HB3, hbl, (unhide HC3).keep hb5 (by omega), unhide HZ3, (unhide HV0).trans (((unhide HM3).mono (by omega)).trans (Below.mv hb5 D))⟩
    obtain ⟨oa5, oc5, rfl⟩ := own_is ho5
    clear hb5 ho5
    go_wp2
    go_ret
    exact unhide HF
  · have BP1 := (unhide HP).blk ((unhide HM1).block w.heap.size (by omega) (by omega))
    obtain ⟨p0, p1, p2⟩ := BP1.facts
    clear BP1
    clear p0 p1 p2
    obtain ⟨wA, hwA⟩ : ∃ wA, w1 = wA := ⟨_, rfl⟩
    have hX1 : MidL N D 0 W0 (.slice none 0 0) w1 := ⟨[], xs.tail, World.ownsRow_nil _ _ _ _, cod_nil, Nat.le_refl _, unhide HC1, (unhide HX).tail, unhide HM1⟩
    clear HC1 hwA
    have BP := (unhide HP).blk ((unhide HM1).block w.heap.size (by omega) (by omega))
    obtain ⟨p0, p1, p2⟩ := BP.facts
    clear BP
    go_upto_region 6 with fail
    go_cut [25] (fun bv wx => (∃ bo, bv = .bool bo) ∧ w1 = wx)
    case first =>
      cases l
      · go_wp2_with fail
        go_meet
        exact ⟨⟨_, rfl⟩, rfl⟩
      · go_wp2_with fail
        go_meet
        exact ⟨⟨_, rfl⟩, rfl⟩
    case rest =>
      obtain ⟨⟨bo, rfl⟩, hwc⟩ := hcut
      subst hwc
      go_upto_if 25 with fail
      go_cut [6] (fun ov wx => MidL N D 5 W0 ov wx)
      case first =>
        obtain ⟨bs, zs, hown, hcb, hlb, hcd, hz, hmv⟩ := hX1
        have hszr := hmv.size
        have HO := hide hown
        have HCB := hide hcb
        have HCD := hide hcd
        have HZ := hide hz
        have HMV := hide hmv
        clear hown hcb hcd hz hmv
        cases bo
        · go_wp2_with fail
          go_meet
          exact ⟨bs, zs, unhide HO, unhide HCB, by omega, unhide HCD, unhide HZ, unhide HMV⟩
        · go_wp2_with fail
          refine (l2junk_any N D zs w1 (unhide HCD) (unhide HZ) (by omega)).mono ?_
          rintro e w3 ⟨v3, b3, z3, rfl, ho3, hcb3, hlb3, hcd3, hz3, hm3⟩
          obtain ⟨oa3, oc3, rfl⟩ := own_is ho3
          have hs3 := hm3.size
          have HO3 := hide ho3
          have HB3 := hide ((unhide HCB).app hcb3)
          have HC3 := hide hcd3
          have HZ3 := hide hz3
          have HM3 := hide ((unhide HMV).trans (hm3.mono (by omega)))
          have HP3 := hide (own_mv (unhide HO) hm3 (Nat.le_refl _) (by omega))
          clear ho3 hcb3 hcd3 hz3 hm3
          go_wp2_with (at_builtin; refine app_moreB rfl _ _ rfl W0.heap.size _ rfl bs (by exact unhide HP3) (by omega) _ rfl b3 (by exact own_rdB (unhide HO3) (by unfold maxLen; omega)) (by omega) ?_; intro v5 w5 hb5 ho5 hoc5)
          have HF : Hid (MidL N D 5 W0 v5 w5) := ⟨bs ++ b3, z3, ho5, unhide HB3, by rw [List.length_append]; omega, (unhide HC3).keep hb5 (by omega), unhide HZ3, (unhide HM3).trans (Below.mv hb5 D)⟩
          obtain ⟨oa5, oc5, rfl⟩ := own_is ho5
          clear hb5 ho5
          go_wp2_with fail
          go_meet
          exact unhide HF
      case rest =>
        clear hX1 p0 p1 p2 HM1 hz1 bo
        obtain ⟨bs, zs, hown, hcb, hlb, hcd, hz, hmv⟩ := hcut
        have hszr := hmv.size
        have HO := hide hown
        have HCB := hide hcb
        have HCD := hide hcd
        have HZ := hide hz
        have HMV := hide hmv
        obtain ⟨oa, oc, rfl⟩ := own_is hown
        have BP := (unhide HP).blk (hmv.block w.heap.size (by omega) (by omega))
        obtain ⟨p0, p1, p2⟩ := BP.facts
        clear BP hown hcb hcd hz hmv
        go_upto_region 8 with fail
        go_cut [38] (fun bv wx => (∃ bo, bv = .bool bo ∧ (bo = true → ValidT t)) ∧ Below wc.heap.size wc wx)
        case first =>
          by_cases ht0 : ¬ 0 < t.length
          · have ht0' : ¬ (0 : Int) < (t.length : Int) := by omega
            go_wp2_with fail
            go_meet
            exact ⟨⟨false, rfl, fun q => by cases q⟩, Below.refl _ _⟩
          · have ht0' : (0 : Int) < (t.length : Int) := by omega
            have HTc := hide ((((unhide HT0).mv (unhide HMV) (Nat.le_refl _) hD)).mono (Nat.zero_le lo) (Nat.le_refl _))
            go_wp2_with fail
            refine (l1treeOK_any _ t _ (unhide HTc)).mono ?_
            rintro e w4 ⟨⟨b4, rfl, hb4⟩, hbl4⟩
            go_wp2_with fail
            go_meet
            exact ⟨⟨b4, rfl, fun q => hb4.1 q⟩, hbl4⟩
        case rest =>
          obtain ⟨⟨bo, rfl, hbo⟩, hb4⟩ := hcut
          clear p0 p1 p2
          have hs4 := hb4.size
          have HMV4 := hide ((unhide HMV).trans (Below.mv (hb4.mono hszr) D))
          have HO4 := hide (own_mv (unhide HO) (Below.mv hb4 D) (Nat.le_refl _) (by omega))
          have HCD4 := hide ((unhide HCD).keep hb4 (by omega))
          have BP := (unhide HP).blk ((unhide HMV4).block w.heap.size (by omega) (by omega))
          obtain ⟨p0, p1, p2⟩ := BP.facts
          have HT4 := hide ((unhide HT0).mv (unhide HMV4) (Nat.le_refl _) hD)
          clear BP hb4 HO HCD HMV
          go_upto_if 38 with fail
          go_cut [6] (fun ov wx => MidL N D 65 W0 ov wx)
          case first =>
            cases bo
            · go_wp2_with fail
              go_meet
              exact ⟨bs, zs, unhide HO4, unhide HCB, by omega, unhide HCD4, unhide HZ, unhide HMV4⟩
            · have hsm := sm_valid (hbo rfl)
              have HS := hide hsm
              clear hsm hbo
              go_wp2_with fail
              refine (unhide HS N D lo _ zs _ (unhide HCD4) (unhide HZ) hD (by omega) (unhide HT4) ht).mono ?_
              rintro e w3 ⟨v3, b3, z3, rfl, ho3, hcb3, hlb3, hcd3, hz3, hm3⟩
              obtain ⟨oa3, oc3, rfl⟩ := own_is ho3
              have hs3 := hm3.size
              have HO3 := hide ho3
              have HB3 := hide ((unhide HCB).app hcb3)
              have HC3 := hide hcd3
              have HZ3 := hide hz3
              have HM3 := hide ((unhide HMV4).trans (hm3.mono (by omega)))
              have HP3 := hide (own_mv (unhide HO4) hm3 (Nat.le_refl _) (by omega))
              clear ho3 hcb3 hcd3 hz3 hm3
              go_wp2_with (at_builtin; refine app_moreB rfl _ _ rfl W0.heap.size _ rfl bs (by exact unhide HP3) (by omega) _ rfl b3 (by exact own_rdB (unhide HO3) (by unfold maxLen; omega)) (by omega) ?_; intro v5 w5 hb5 ho5 hoc5)
              have HF : Hid (MidL N D 65 W0 v5 w5) := ⟨bs ++ b3, z3, ho5, unhide HB3, by rw [List.length_append]; omega, (unhide HC3).keep hb5 (by omega), unhide HZ3, (unhide HM3).trans (Below.mv hb5 D)⟩
              obtain ⟨oa5, oc5, rfl⟩ := own_is ho5
              clear hb5 ho5
              go_wp2_with fail
              go_meet
              exact unhide HF
          case rest =>
            clear HO4 HCB HCD4 HZ HMV4 HT4 p0 p1 p2 hlb hszr hs4 hbo bo
            obtain ⟨bs, zs, hown, hcb, hlb, hcd, hz, hmv⟩ := hcut
            have hszr := hmv.size
            have HO := hide hown
            have HCB := hide hcb
            have HCD := hide hcd
            have HZ := hide hz
            have HMV := hide hmv
            obtain ⟨oa, oc, rfl⟩ := own_is hown
            have BP := (unhide HP).blk (hmv.block w.heap.size (by omega) (by omega))
            obtain ⟨p0, p1, p2⟩ := BP.facts
            clear BP hown hcb hcd hz hmv
            go_upto_region 10 with fail
            go_cut [51] (fun bv wx => (∃ bo, bv = .bool bo) ∧ wc = wx)
            case first =>
              cases r
              · go_wp2_with fail
                go_meet
                exact ⟨⟨_, rfl⟩, rfl⟩
              · go_wp2_with fail
                go_meet
                exact ⟨⟨_, rfl⟩, rfl⟩
            case rest =>
              obtain ⟨⟨bo, rfl⟩, hwc⟩ := hcut
              subst hwc
              go_upto_if 51 with fail
              go_cut [6] (fun ov wx => MidL N D 70 W0 ov wx)
              case first =>
                cases bo
                · go_wp2_with fail
                  go_meet
                  exact ⟨bs, zs, unhide HO, unhide HCB, by omega, unhide HCD, unhide HZ, unhide HMV⟩
                · go_wp2_with fail
                  refine (l2junk_any N D zs _ (unhide HCD) (unhide HZ) (by omega)).mono ?_
                  rintro e w3 ⟨v3, b3, z3, rfl, ho3, hcb3, hlb3, hcd3, hz3, hm3⟩
                  obtain ⟨oa3, oc3, rfl⟩ := own_is ho3
                  have hs3 := hm3.size
                  have HO3 := hide ho3
                  have HB3 := hide ((unhide HCB).app hcb3)
                  have HC3 := hide hcd3
                  have HZ3 := hide hz3
                  have HM3 := hide ((unhide HMV).trans (hm3.mono (by omega)))
                  have HP3 := hide (own_mv (unhide HO) hm3 (Nat.le_refl _) (by omega))
                  clear ho3 hcb3 hcd3 hz3 hm3
                  go_wp2_with (at_builtin; refine app_moreB rfl _ _ rfl W0.heap.size _ rfl bs (by exact unhide HP3) (by omega) _ rfl b3 (by exact own_rdB (unhide HO3) (by unfold maxLen; omega)) (by omega) ?_; intro v5 w5 hb5 ho5 hoc5)
                  have HF : Hid (MidL N D 70 W0 v5 w5) := ⟨bs ++ b3, z3, ho5, unhide HB3, by rw [List.length_append]; omega, (unhide HC3).keep hb5 (by omega), unhide HZ3, (unhide HM3).trans (Below.mv hb5 D)⟩
                  obtain ⟨oa5, oc5, rfl⟩ := own_is ho5
                  clear hb5 ho5
                  go_wp2_with fail
                  go_meet
                  exact unhide HF
              case rest =>
                clear HO HCB HCD HZ HMV p0 p1 p2 hlb hszr bo
                obtain ⟨bs, zs, hown, hcb, hlb, hcd, hz, hmv⟩ := hcut
                have hszr := hmv.size
                have HO := hide hown
                have HCB := hide hcb
                have HCD := hide hcd
                have HZ := hide hz
                have HMV := hide hmv
                obtain ⟨oa, oc, rfl⟩ := own_is hown
                have BP := (unhide HP).blk (hmv.block w.heap.size (by omega) (by omega))
                obtain ⟨p0, p1, p2⟩ := BP.facts
                clear BP hown hcb hcd hz hmv
                by_cases hk3 : y % 8 = 3
                · by_cases hp : 0 < bs.length
                  · have hp' : (0 : Int) < (bs.length : Int) := by omega
                    have hp2 : ¬ (bs.length : Int) ≤ 0 := by omega
                    have hk4 : ¬ y % 8 = 4 := by omega
                    have hzh := (unhide HZ).head
                    obtain ⟨y2, hy2⟩ : ∃ y2, zs.headD 0 = y2 := ⟨_, rfl⟩
                    rw [hy2] at hzh
                    have HY2 := hide hy2
                    clear hy2
                    obtain ⟨j, hj⟩ : ∃ j : Nat, y2 % (bs.length : Int) = (j : Int) := ⟨(y2 % (bs.length : Int)).toNat, by have := Int.emod_nonneg y2 (b := (bs.length : Int)) (by omega); omega⟩
                    have hjl : j < bs.length := by have := Int.emod_lt_of_pos y2 (b := (bs.length : Int)) (by omega); omega
                    have hjl' : (j : Int) < (bs.length : Int) := by omega
                    obtain ⟨g, cap, heq, hbg⟩ := own_some (unhide HO) hp
                    injection heq with e1 e2 e3
                    subst e1
                    subst e3
                    clear e2
                    go_wp2_with fail
                    refine (next_any N D zs _ (unhide HCD) (unhide HZ)).mono ?_
                    rintro e w6 ⟨he, hc6, ho6⟩
                    rw [unhide HY2] at he
                    subst he
                    have hs6 : w6.heap.size = _ := ho6.size
                    have HO6 := hide (own_mv (unhide HO) (ho6.mv _) (Nat.le_refl _) (by omega))
                    have HC6 := hide hc6
                    have HM6 := hide ((unhide HMV).trans (ho6.mv W0.heap.size))
                    clear hc6 ho6
                    have hdb := dB_byte (y := zs.tail.headD 0)
                    obtain ⟨b, hb⟩ : ∃ b, dB (zs.tail.headD 0) = b := ⟨_, rfl⟩
                    rw [hb] at hdb
                    have HY3 := hide hb
                    clear hb
                    go_wp2_with fail
                    refine (l1drawByte_any N D zs.tail w6 (unhide HC6) (unhide HZ).tail).mono ?_
                    rintro e w7 ⟨he, hc7, ho7⟩
                    rw [unhide HY3] at he
                    subst he
                    have hs7 : w7.heap.size = w6.heap.size := ho7.size
                    have HO7 := hide (own_mv (unhide HO6) (ho7.mv _) (Nat.le_refl _) (by omega))
                    have HC7 := hide hc7
                    have HM7 := hide ((unhide HM6).trans (ho7.mv W0.heap.size))
                    obtain ⟨d7, f7⟩ := own_byte (unhide HO7) hjl
                    have HB7 : Hid (Below W0.heap.size w7 (w7.setCell ⟨g, j, none⟩ (.int .u8 b))) := bput (Below.refl W0.heap.size w7) hbg _
                    have HO8 := hide (own_setB (y := b) (unhide HO7) hjl)
                    clear hc7 ho7
                    go_wp2
                    go_ret
                    exact ⟨_, bs.set j b, zs.tail.tail, rfl, by rw [List.length_set]; exact own_lo (unhide HO8) (by omega), (unhide HCB).setB hdb.1 hdb.2, by rw [List.length_set]; omega, (unhide HC7).keep (unhide HB7) (by omega), (unhide HZ).tail.tail, (unhide HV0).trans (((unhide HM7).trans (Below.mv (unhide HB7) D)).mono (by omega))⟩
                  · have hp' : ¬ (0 : Int) < (bs.length : Int) := by omega
                    have hp2 : (bs.length : Int) ≤ 0 := by omega
                    have hk4 : ¬ y % 8 = 4 := by omega
                    go_wp2
                    go_ret
                    exact ⟨_, bs, zs, rfl, own_lo (unhide HO) (by omega), unhide HCB, by omega, unhide HCD, unhide HZ, (unhide HV0).trans ((unhide HMV).mono (by omega))⟩
                · by_cases hk4 : y % 8 = 4
                  · by_cases hp : 0 < bs.length
                    · have hp' : (0 : Int) < (bs.length : Int) := by omega
                      have hp2 : ¬ (bs.length : Int) ≤ 0 := by omega
                      have hcc := own_capP (unhide HO) (by omega)
                      have hcm := hcc.2
                      unfold maxLen at hcm
                      obtain ⟨q, hq⟩ : ∃ q, bs.length = q + 1 := ⟨bs.length - 1, by omega⟩
                      have HT := hide (own_take (unhide HO) (m := q) (by omega) (by omega))
                      rw [hq] at hp' hp2 hcc ⊢
                      go_wp2
                      go_ret
                      exact ⟨_, bs.take q, zs, rfl, by rw [List.length_take, Nat.min_eq_left (by omega), List.map_take]; exact own_lo (unhide HT) (by omega), (unhide HCB).take q, by rw [List.length_take]; omega, unhide HCD, unhide HZ, (unhide HV0).trans ((unhide HMV).mono (by omega))⟩
                    · have hp' : ¬ (0 : Int) < (bs.length : Int) := by omega
                      have hp2 : (bs.length : Int) ≤ 0 := by omega
                      go_wp2
                      go_ret
                      exact ⟨_, bs, zs, rfl, own_lo (unhide HO) (by omega), unhide HCB, by omega, unhide HCD, unhide HZ, (unhide HV0).trans ((unhide HMV).mono (by omega))⟩
                  · go_wp2
                    go_ret
                    exact ⟨_, bs, zs, rfl, own_lo (unhide HO) (by omega), unhide HCB, by omega, unhide HCD, unhide HZ, (unhide HV0).trans ((unhide HMV).mono (by omega))⟩
set_option maxHeartbeats 16000000 in
set_option maxRecDepth 100000 in
theorem l1drawAny_a (N D lo : Nat) (xs : List Int) (w : World) (h : CdAt N D w xs) (hx : Cod xs) (hD : D < lo) (hlo : lo ≤ w.heap.size) (hk : xs.headD 0 % 10 = 0) :
    Calls Try.prog 10 #[.pointer (some ⟨D, 0, none⟩)] w fun e w' => (∃ v, e = .returned (.agg #[.bool (decide (xs.tail.headD 0 % 2 = 0)), .bool (decide (xs.tail.headD 0 % 3 = 0)), v]) ∧ ElsAt lo w'.heap.size w' v ((dLim xs.tail.tail).1)) ∧ (∃ zs, CdAt N D w' zs ∧ Cod zs) ∧ Mv w.heap.size D w w' := by
  have H := hide h
  have HX := hide hx
  have hh := hx.head
  have hh2 := hx.tail.head
  obtain ⟨y, hy⟩ : ∃ y, xs.headD 0 = y := ⟨_, rfl⟩
  obtain ⟨y2, hy2⟩ : ∃ y, xs.tail.headD 0 = y := ⟨_, rfl⟩
  rw [hy] at hh hk
  rw [hy2] at hh2 ⊢
  obtain ⟨A, hA⟩ : ∃ A, dLim xs.tail.tail = A := ⟨_, rfl⟩
  rw [hA]
  have HA := hide hA
  clear hA
  have HY := hide hy
  have HY2 := hide hy2
  clear hy hy2 h hx
  have HP := hide (Bx3.new w 25 (.bool false) (.bool false) (.slice none 0 0))
  have HB0 := hide (below1 w (.cells #[.bool false, .bool false, .slice none 0 0] 25))
  have hzW : (w.alloc (.cells #[.bool false, .bool false, .slice none 0 0] 25)).heap.size = w.heap.size + 1 := sz_alloc _ _
  have HC0 := hide ((unhide H).keep (unhide HB0) (by omega))
  have HV0 := hide (Below.mv (unhide HB0) D)
  go_enter Try.func10, Try.ntmps10
  go_wp2_with fail
  generalize w.alloc (.cells #[.bool false, .bool false, .slice none 0 0] 25) = W0 at *
  refine (next_any N D xs W0 (unhide HC0) (unhide HX)).mono ?_
  rintro e w1 ⟨he, hc1, ho1⟩
  rw [unhide HY] at he
  subst he
  have hz1 : w1.heap.size = W0.heap.size := ho1.size
  have HC1 := hide hc1
  have HM1 := hide (ho1.mv (w.heap.size + 1))
  clear hc1 ho1
  go_wp2_with fail
  refine (next_any N D xs.tail w1 (unhide HC1) (unhide HX).tail).mono ?_
  rintro e w2 ⟨he, hc2, ho2⟩
  rw [unhide HY2] at he
  subst he
  have hz2 : w2.heap.size = w1.heap.size := ho2.size
  have HC2 := hide hc2
  have HM2 := hide ((unhide HM1).trans (ho2.mv _))
  clear hc2 ho2
  go_wp2_with fail
  refine (l1drawLimit_any N D (w.heap.size + 1) xs.tail.tail w2 (unhide HC2) (unhide HX).tail.tail (by omega) (by omega)).mono ?_
  rw [unhide HA]
  rintro e w3 ⟨⟨v3, rfl, hv3⟩, hc3, hm3⟩
  have HT3 := hide hv3
  obtain ⟨a3, c3, rfl, -⟩ := hv3
  have hz3 := hm3.size
  have HM3 := hide ((unhide HM2).trans (hm3.mono (by omega)))
  have HC3 := hide hc3
  have HCc : Hid (Cod A.2) := by rw [← unhide HA]; exact (unhide HX).tail.tail.tail.tail
  clear hc3 hm3
  have BP := (unhide HP).blk ((unhide HM3).block w.heap.size (by omega) (by omega))
  obtain ⟨p0, p1, p2⟩ := BP.facts
  have z0 := World.rowIs.frozen BP 0
  have z1 := World.rowIs.frozen BP 1
  have z2 := World.rowIs.frozen BP 2
  clear BP
  go_wp2
  refine bodyPost_ret (v := .agg #[.bool (decide (y2 % 2 = 0)), .bool (decide (y2 % 3 = 0)), .slice a3 A.1.length c3]) (by simp [results, Try.results10, go_sem, p0, p1, p2]; exact ⟨rfl, rfl⟩) rfl ⟨⟨_, rfl, ?_⟩, ⟨_, ?_, unhide HCc⟩, ?_⟩
  · exact (unhide HT3).put3 (lo := lo) (by omega)
  · exact (unhide HC3).keep (bput (bput (bput (Below.refl w.heap.size w3) (Nat.le_refl _) _) (Nat.le_refl _) _) (Nat.le_refl _) _) (by omega)
  · exact (unhide HV0).trans (((unhide HM3).mono (by omega)).trans (Below.mv (bput (bput (bput (Below.refl w.heap.size w3) (Nat.le_refl _) _) (Nat.le_refl _) _) (Nat.le_refl _) _) D))
set_option maxHeartbeats 16000000 in
set_option maxRecDepth 100000 in
theorem l1drawAny_b (N D lo : Nat) (xs : List Int) (w : World) (h : CdAt N D w xs) (hx : Cod xs) (hD : D < lo) (hlo : lo ≤ w.heap.size) (hk : 3 ≤ xs.headD 0 % 10) :
    Calls Try.prog 10 #[.pointer (some ⟨D, 0, none⟩)] w fun e w' => (∃ v, e = .returned (.agg #[.bool (decide (xs.tail.headD 0 % 4 = 1)), .bool (decide (5 < xs.tail.headD 0 % 8)), v]) ∧ ElsAt lo w'.heap.size w' v ((dGood xs.tail).1)) ∧ (∃ zs, CdAt N D w' zs ∧ Cod zs) ∧ Mv w.heap.size D w w' := by
  have H := hide h
  have HX := hide hx
  have hh := hx.head
  have hh2 := hx.tail.head
  obtain ⟨y, hy⟩ : ∃ y, xs.headD 0 = y := ⟨_, rfl⟩
  obtain ⟨y2, hy2⟩ : ∃ y, xs.tail.headD 0 = y := ⟨_, rfl⟩
  rw [hy] at hh hk
  rw [hy2] at hh2 ⊢
  obtain ⟨A, hA⟩ : ∃ A, dGood xs.tail = A := ⟨_, rfl⟩
  obtain ⟨bl, hbl⟩ : ∃ b, decide (y2 % 4 = 1) = b := ⟨_, rfl⟩
  obtain ⟨br, hbr⟩ : ∃ b, decide (5 < y2 % 8) = b := ⟨_, rfl⟩
  have HAD := hide (dGood_dt xs.tail)
  have HAC := hide (dGood_cod hx.tail)
  rw [hA] at HAD HAC
  rw [hA, hbl, hbr]
  have HA := hide hA
  have HBL := hide hbl
  have HBR := hide hbr
  clear hA hbl hbr
  have HY := hide hy
  have HY2 := hide hy2
  clear hy hy2 h hx
  have HP := hide (Bx3.new w 25 (.bool false) (.bool false) (.slice none 0 0))
  have HB0 := hide (below1 w (.cells #[.bool false, .bool false, .slice none 0 0] 25))
  have hzW : (w.alloc (.cells #[.bool false, .bool false, .slice none 0 0] 25)).heap.size = w.heap.size + 1 := sz_alloc _ _
  have HC0 := hide ((unhide H).keep (unhide HB0) (by omega))
  have HV0 := hide (Below.mv (unhide HB0) D)
  go_enter Try.func10, Try.ntmps10
  go_wp2_with fail
  generalize w.alloc (.cells #[.bool false, .bool false, .slice none 0 0] 25) = W0 at *
  refine (next_any N D xs W0 (unhide HC0) (unhide HX)).mono ?_
  rintro e w1 ⟨he, hc1, ho1⟩
  rw [unhide HY] at he
  subst he
  have hz1 : w1.heap.size = W0.heap.size := ho1.size
  have HC1 := hide hc1
  have HM1 := hide (ho1.mv (w.heap.size + 1))
  clear hc1 ho1
  have k0 : ¬ y % 10 = 0 := by omega
  have k3 : ¬ y % 10 < 3 := by omega
  go_wp2_with fail
  refine (l1drawGood_any N D (w.heap.size + 1) xs.tail w1 (unhide HC1) (unhide HX).tail (by omega) (by omega)).mono ?_
  rw [unhide HY2, unhide HA, unhide HBL, unhide HBR]
  rintro e w2 ⟨⟨v2, rfl, hv2⟩, hc2, hm2⟩
  have HT2 := hide hv2
  obtain ⟨a2, c2, rfl, -⟩ := hv2
  have hz2 := hm2.size
  have HC2 := hide hc2
  have HM2 := hide ((unhide HM1).trans (hm2.mono (by omega)))
  clear hc2 hm2
  have BP := (unhide HP).blk ((unhide HM2).block w.heap.size (by omega) (by omega))
  obtain ⟨p0, p1, p2⟩ := BP.facts
  have z0 := World.rowIs.frozen BP 0
  have z1 := World.rowIs.frozen BP 1
  have z2 := World.rowIs.frozen BP 2
  clear BP
  have hlt9 : w.heap.size < w2.heap.size := by omega
  have hne9 : ¬ w.heap.size = w2.heap.size := by omega
  go_wp2
  refine bodyPost_ret (v := .agg #[.bool bl, .bool br, .slice a2 A.1.length c2]) (by simp [results, Try.results10, go_sem, p0, p1, p2, hlt9]) rfl ⟨⟨_, rfl, ?_⟩, ⟨_, ?_, unhide HAC⟩, ?_⟩
  · exact ((unhide HT2).put3 (lo := lo) (by omega)).below (below1 _ _) (Nat.le_refl _)
  · exact ((unhide HC2).keep (bput (bput (bput (Below.refl w.heap.size w2) (Nat.le_refl _) _) (Nat.le_refl _) _) (Nat.le_refl _) _) (by omega)).keep (below1 _ _) (by simp only [sz_put]; omega)
  · exact (unhide HV0).trans (((unhide HM2).mono (by omega)).trans ((Below.mv (bput (bput (bput (Below.refl w.heap.size w2) (Nat.le_refl _) _) (Nat.le_refl _) _) (Nat.le_refl _) _) D).trans (bmv (below1 _ _) D (by simp only [sz_put]; omega))))
set_option maxHeartbeats 16000000 in
set_option maxRecDepth 100000 in
theorem l1drawAny_c (N D lo : Nat) (xs : List Int) (w : World) (h : CdAt N D w xs) (hx : Cod xs) (hD : D < lo) (hlo : lo ≤ w.heap.size) (hk : 0 < xs.headD 0 % 10 ∧ xs.headD 0 % 10 < 3) :
    Calls Try.prog 10 #[.pointer (some ⟨D, 0, none⟩)] w fun e w' => (∃ v, e = .returned (.agg #[.bool (decide (xs.tail.headD 0 % 4 = 1)), .bool (decide (5 < xs.tail.headD 0 % 8)), v]) ∧ ElsAt lo w'.heap.size w' v ((dSpoil (dGood xs.tail).1 (dGood xs.tail).2).1)) ∧ (∃ zs, CdAt N D w' zs ∧ Cod zs) ∧ Mv w.heap.size D w w' := by
  have H := hide h
  have HX := hide hx
  have hh := hx.head
  have hh2 := hx.tail.head
  obtain ⟨y, hy⟩ : ∃ y, xs.headD 0 = y := ⟨_, rfl⟩
  obtain ⟨y2, hy2⟩ : ∃ y, xs.tail.headD 0 = y := ⟨_, rfl⟩
  rw [hy] at hh hk
  rw [hy2] at hh2 ⊢
  obtain ⟨A, hA⟩ : ∃ A, dGood xs.tail = A := ⟨_, rfl⟩
  obtain ⟨bl, hbl⟩ : ∃ b, decide (y2 % 4 = 1) = b := ⟨_, rfl⟩
  obtain ⟨br, hbr⟩ : ∃ b, decide (5 < y2 % 8) = b := ⟨_, rfl⟩
  have HAD := hide (dGood_dt xs.tail)
  have HAC := hide (dGood_cod hx.tail)
  rw [hA] at HAD HAC
  rw [hA, hbl, hbr]
  obtain ⟨B, hB⟩ : ∃ B, dSpoil A.1 A.2 = B := ⟨_, rfl⟩
  rw [hB]
  have HB := hide hB
  clear hB
  have HA := hide hA
  have HBL := hide hbl
  have HBR := hide hbr
  clear hA hbl hbr
  have HY := hide hy
  have HY2 := hide hy2
  clear hy hy2 h hx
  have HP := hide (Bx3.new w 25 (.bool false) (.bool false) (.slice none 0 0))
  have HB0 := hide (below1 w (.cells #[.bool false, .bool false, .slice none 0 0] 25))
  have hzW : (w.alloc (.cells #[.bool false, .bool false, .slice none 0 0] 25)).heap.size = w.heap.size + 1 := sz_alloc _ _
  have HC0 := hide ((unhide H).keep (unhide HB0) (by omega))
  have HV0 := hide (Below.mv (unhide HB0) D)
  go_enter Try.func10, Try.ntmps10
  go_wp2_with fail
  generalize w.alloc (.cells #[.bool false, .bool false, .slice none 0 0] 25) = W0 at *
  refine (next_any N D xs W0 (unhide HC0) (unhide HX)).mono ?_
  rintro e w1 ⟨he, hc1, ho1⟩
  rw [unhide HY] at he
  subst he
  have hz1 : w1.heap.size = W0.heap.size := ho1.size
  have HC1 := hide hc1
  have HM1 := hide (ho1.mv (w.heap.size + 1))
  clear hc1 ho1
  have k0 : ¬ y % 10 = 0 := by omega
  have k3 : y % 10 < 3 := by omega
  go_wp2_with fail
  refine (l1drawGood_any N D (w.heap.size + 1) xs.tail w1 (unhide HC1) (unhide HX).tail (by omega) (by omega)).mono ?_
  rw [unhide HY2, unhide HA, unhide HBL, unhide HBR]
  rintro e w2 ⟨⟨v2, rfl, hv2⟩, hc2, hm2⟩
  have HT2 := hide hv2
  obtain ⟨a2, c2, rfl, -⟩ := hv2
  have hz2 := hm2.size
  have HC2 := hide hc2
  have HM2 := hide ((unhide HM1).trans (hm2.mono (by omega)))
  clear hc2 hm2
  have HQ := hide (Bx3.new w2 25 (.bool bl) (.bool br) (.slice a2 A.1.length c2))
  have HB3 := hide (below1 w2 (.cells #[.bool bl, .bool br, .slice a2 A.1.length c2] 25))
  have hz3 : (w2.alloc (.cells #[.bool bl, .bool br, .slice a2 A.1.length c2] 25)).heap.size = w2.heap.size + 1 := sz_alloc _ _
  go_wp2_with fail
  generalize w2.alloc (.cells #[.bool bl, .bool br, .slice a2 A.1.length c2] 25) = W3 at *
  have HC3 := hide ((unhide HC2).keep (unhide HB3) (by omega))
  have HM3 := hide ((unhide HM2).trans (bmv (unhide HB3) D (by omega)))
  have HT3 := hide ((unhide HT2).below (unhide HB3) (Nat.le_refl _))
  have hAl : 0 < A.1.length := by obtain ⟨c9, h9, -⟩ := (unhide HAD).seg; exact h9.ne
  refine (l1spoil_any N D (w.heap.size + 1) _ A.1 A.2 W3 (unhide HC3) (unhide HAC) (by omega) (by omega) (unhide HT3) (unhide HAD).nl hAl).mono ?_
  rw [unhide HB]
  rintro e w4 ⟨⟨v4, rfl, hv4⟩, hc4, hm4⟩
  have HT4 := hide hv4
  obtain ⟨a4, c4, rfl, -⟩ := hv4
  have hz4 := hm4.size
  have HM4 := hide ((unhide HM3).trans (hm4.mono (by omega)))
  have BQ := (unhide HQ).blk (hm4.block w2.heap.size (by omega) (by omega))
  obtain ⟨r0, r1, r2⟩ := BQ.facts
  have u0 := World.rowIs.frozen BQ 0
  have u1 := World.rowIs.frozen BQ 1
  have u2 := World.rowIs.frozen BQ 2
  have HC4 := hide hc4
  have HCc : Hid (Cod B.2) := by
    rw [← unhide HB]
    show Cod (if A.2.headD 0 % 12 = 2 then A.2.tail.tail.tail else A.2.tail.tail)
    split
    · exact (unhide HAC).tail.tail.tail
    · exact (unhide HAC).tail.tail
  clear hc4 hm4 BQ
  have BP := (unhide HP).blk ((unhide HM4).block w.heap.size (by omega) (by omega))
  obtain ⟨p0, p1, p2⟩ := BP.facts
  have z0 := World.rowIs.frozen BP 0
  have z1 := World.rowIs.frozen BP 1
  have z2 := World.rowIs.frozen BP 2
  clear BP
  have hne9 : ¬ w.heap.size = w2.heap.size := by omega
  have hne8 : ¬ w2.heap.size = w.heap.size := by omega
  go_wp2
  refine bodyPost_ret (v := .agg #[.bool bl, .bool br, .slice a4 B.1.length c4]) (by simp [results, Try.results10, go_sem, p0, p1, p2]) rfl ⟨⟨_, rfl, ?_⟩, ⟨_, ?_, unhide HCc⟩, ?_⟩
  · have h5 : ElsAt (w.heap.size + 1) (w4.setCell ⟨w2.heap.size, 2, none⟩ (.slice a4 B.1.length c4)).heap.size (w4.setCell ⟨w2.heap.size, 2, none⟩ (.slice a4 B.1.length c4)) (.slice a4 B.1.length c4) B.1 := ((unhide HT4).same ((Same.refl _ _ _).setCell (Or.inl (by omega)) _)).mono (by omega) (by rw [sz_put]; exact Nat.le_refl _)
    exact h5.put3 (lo := lo) (by omega)
  · exact (unhide HC4).keep (bput (bput (bput (bput (Below.refl w.heap.size w4) (by omega) _) (Nat.le_refl _) _) (Nat.le_refl _) _) (Nat.le_refl _) _) (by omega)
  · exact (unhide HV0).trans (((unhide HM4).mono (by omega)).trans (Below.mv (bput (bput (bput (bput (Below.refl w.heap.size w4) (by omega) _) (Nat.le_refl _) _) (Nat.le_refl _) _) (Nat.le_refl _) _) D))
theorem l1drawAny_any (N D lo : Nat) (xs : List Int) (w : World) (h : CdAt N D w xs) (hx : Cod xs) (hD : D < lo) (hlo : lo ≤ w.heap.size) :
    Calls Try.prog 10 #[.pointer (some ⟨D, 0, none⟩)] w fun e w' => (∃ v, e = .returned (.agg #[.bool (dAny xs).1.1, .bool (dAny xs).1.2, v]) ∧ ElsAt lo w'.heap.size w' v (dAny xs).2) ∧ (∃ zs, CdAt N D w' zs ∧ Cod zs) ∧ Mv w.heap.size D w w' := by
  have hh := hx.head
  unfold dAny
  by_cases h0 : xs.headD 0 % 10 = 0
  · rw [if_pos h0]; exact l1drawAny_a N D lo xs w h hx hD hlo h0
  · rw [if_neg h0]
    by_cases h3 : xs.headD 0 % 10 < 3
    · rw [if_pos h3]; exact l1drawAny_c N D lo xs w h hx hD hlo ⟨by omega, h3⟩
    · rw [if_neg h3]; exact l1drawAny_b N D lo xs w h hx hD hlo (by omega)
theorem dAny_len (xs : List Int) : (dAny xs).2.length ≤ 701 := by
  have hg : (dGood xs.tail).1.length ≤ 700 := (dGood_dt xs.tail).nl.len
  unfold dAny
  split
  · exact Nat.le_trans (limT_nl (by omega) (by omega)).len (by omega)
  · show (if xs.headD 0 % 10 < 3 then (dSpoil (dGood xs.tail).1 (dGood xs.tail).2).1 else (dGood xs.tail).1).length ≤ 701
    split
    · show (spT _ _ _ _).length ≤ 701
      unfold spT
      split
      · unfold putE; rw [List.length_set]; omega
      · split
        · rw [List.length_take]; omega
        · split <;> (rw [List.length_append, List.length_singleton]; omega)
    · omega
theorem own_putl {base n e s B o : Nat} {w : World} {v u : Value} {xs : List Value} (h : w.ownsRow base e s v n xs) (hB : B < base) : (w.setCell ⟨B, o, none⟩ u).ownsRow base e s v n xs := by
  refine ⟨h.1, ?_⟩
  rcases h.2 with q | ⟨g, cap, cur, h1, h2, h3, h4⟩
  · exact .inl q
  · exact .inr ⟨g, cap, cur, h1, h2, (Below.heap_setCell _ _ _ _ (by show g ≠ B; omega)).trans h3, h4⟩
def DrM (w : World) (R : (Bool × Bool) × List El) (e : Ending) (w' : World) : Prop := ∃ v lv bs, e = .returned (.tuple #[.agg #[.bool R.1.1, .bool R.1.2, v], lv]) ∧ ElsAt w.heap.size w'.heap.size w' v R.2 ∧ w'.ownsRow w.heap.size 5 1 lv bs.length (bs.map mB) ∧ Cod bs ∧ bs.length ≤ 80 ∧ Below w.heap.size w w'
set_option maxHeartbeats 16000000 in
set_option maxRecDepth 100000 in
theorem drawMatch_any (cv : Value) (cs : List Int) (w : World) (hv : SlAt mB 0 0 w.heap.size w cv cs) (hcap : CapOk cv) (hx : Cod (cs.take 600)) :
    Calls Try.prog 4 #[cv] w (DrM w (dAny (cs.take 600))) := by
  have HX := hide hx
  have HV := hide hv
  have HCP := hide hcap
  obtain ⟨ca, cc, rfl, -⟩ := hv
  obtain ⟨xs, hxs⟩ : ∃ xs, cs.take 600 = xs := ⟨_, rfl⟩
  rw [hxs] at HX ⊢
  have HXS := hide hxs
  have hRl := dAny_len xs
  obtain ⟨R, hR⟩ : ∃ R, dAny xs = R := ⟨_, rfl⟩
  rw [hR] at hRl ⊢
  have HR := hide hR
  clear hR hx hxs hcap
  have HP := hide (Bx3.new w 25 (.bool false) (.bool false) (.slice none 0 0))
  have HB0 := hide (below1 w (.cells #[.bool false, .bool false, .slice none 0 0] 25))
  have hzW : (w.alloc (.cells #[.bool false, .bool false, .slice none 0 0] 25)).heap.size = w.heap.size + 1 := sz_alloc _ _
  have HV0 := hide ((unhide HV).cut (unhide HB0) (Nat.le_refl _))
  go_enter Try.func4, Try.ntmps4
  go_wp2_with fail
  generalize w.alloc (.cells #[.bool false, .bool false, .slice none 0 0] 25) = W0 at *
  refine (l1open_any _ cs W0 (unhide HV0) (unhide HCP)).mono ?_
  rw [unhide HXS]
  obtain ⟨D, hDe⟩ : ∃ D, W0.heap.size = D := ⟨_, rfl⟩
  rw [hDe]
  rintro e w1 ⟨rfl, hc0, hz0, hb0⟩
  have hd1 : w.heap.size < D := by omega
  have hd4 : D < w.heap.size + 2 := by omega
  have hd3 : w.heap.size + 2 ≤ w1.heap.size := by omega
  have HBW := hide ((unhide HB0).trans (hb0.mono (by omega)))
  have HP1 := hide ((unhide HP).below hb0 (by omega))
  have HC0 := hide hc0
  clear hb0 hDe hzW hz0 hc0
  go_wp2_with fail
  refine (l1drawAny_any D D (w.heap.size + 2) xs w1 (unhide HC0) (unhide HX) (by omega) (by omega)).mono ?_
  rw [unhide HR]
  rintro e w3 ⟨⟨v3, rfl, hv3⟩, ⟨zs, hc3, hzs⟩, hm3⟩
  have HT3 := hide hv3
  obtain ⟨a3, c3, rfl, -⟩ := hv3
  have hz3 := hm3.size
  have HM3 := hide hm3
  have HQ := hide (Bx3.new w3 25 (.bool R.1.1) (.bool R.1.2) (.slice a3 R.2.length c3))
  have HB3 := hide (below1 w3 (.cells #[.bool R.1.1, .bool R.1.2, .slice a3 R.2.length c3] 25))
  have hz4 : (w3.alloc (.cells #[.bool R.1.1, .bool R.1.2, .slice a3 R.2.length c3] 25)).heap.size = w3.heap.size + 1 := sz_alloc _ _
  have HC4 := hide (hc3.keep (unhide HB3) (by omega))
  have HZ := hide hzs
  have HT4 := hide ((unhide HT3).below (unhide HB3) (Nat.le_refl _))
  have HM4 := hide (hm3.trans (Below.mv ((unhide HB3).mono hz3) D))
  clear hm3 hc3 hzs
  go_wp2_with fail
  generalize w3.alloc (.cells #[.bool R.1.1, .bool R.1.2, .slice a3 R.2.length c3] 25) = W4 at *
  refine (l2drawLine_any D D (w.heap.size + 2) _ _ _ R.2 zs W4 (unhide HC4) (unhide HZ) (by omega) (by omega) (unhide HT4) (by omega)).mono ?_
  rintro e w5 ⟨v5, bs, z5, rfl, ho5, hcb5, hlb5, -, -, hm5⟩
  have HO5 := hide ho5
  obtain ⟨oa, oc, rfl⟩ := own_is ho5
  have hs5 := hm5.size
  have HT5 := hide ((unhide HT4).mv hm5 (Nat.le_refl _) (by omega))
  have BQ := (unhide HQ).blk (hm5.block w3.heap.size (by omega) (by omega))
  obtain ⟨r0, r1, r2⟩ := BQ.facts
  have HM5 := hide ((unhide HM4).trans (hm5.mono (by omega)))
  have BP := (unhide HP1).blk ((unhide HM5).block w.heap.size (by omega) (by omega))
  obtain ⟨p0, p1, p2⟩ := BP.facts
  have z0 := World.rowIs.frozen BP 0
  have z1 := World.rowIs.frozen BP 1
  have z2 := World.rowIs.frozen BP 2
  have HCB := hide hcb5
  clear BP BQ ho5 hm5 hcb5
  go_wp2
  refine bodyPost_ret (v := .tuple #[.agg #[.bool R.1.1, .bool R.1.2, .slice a3 (R.2).length c3], .slice oa bs.length oc]) (by simp [results, Try.results4, go_sem, p0, p1, p2]) rfl ⟨_, _, bs, rfl, ?_, ?_, unhide HCB, hlb5, ?_⟩
  · exact ((unhide HT5).mono (lo' := w.heap.size + 1) (by omega) (Nat.le_refl _)).put3 (lo := w.heap.size) (by omega)
  · exact own_lo (own_putl (own_putl (own_putl (unhide HO5) (by omega)) (by omega)) (by omega)) (by omega)
  · exact (unhide HBW).trans (((unhide HM5).below (by omega)).mono (by omega) |>.trans (bput (bput (bput (Below.refl w.heap.size _) (Nat.le_refl _) _) (Nat.le_refl _) _) (Nat.le_refl _) _))
/-! A tree that is written out is valid, and is written out as itself. -/
structure XT (L : List El) (c : Int) : Prop where
  seg : SegM L c
  ok : ∀ x ∈ L, ElOk x
  self : SegX L L
  pos : 1 ≤ c
  small : c ≤ 500
theorem cap_id {n : Int} (h : n ≤ 500) : cap n = n := by unfold cap; rw [if_neg (by omega)]
theorem XT.leaf {x : El} (hk : x.kind = 0 ∨ x.kind = 1) (ok : ElOk x) : XT [x] 1 := ⟨SegM.leaf hk, fun y hy => by rw [List.mem_singleton.1 hy]; exact ok, SegX.leaf hk, by omega, by omega⟩
theorem XT.e : XT [⟨0, [], 0, 0⟩] 1 := XT.leaf (.inl rfl) (.inr (.inl ⟨.inl rfl, rfl, rfl, rfl⟩))
theorem XT.bin {A B : List El} {ca cb : Int} (ha : XT A ca) (hb : XT B cb) (k : Int) (hk : k = 2 ∨ k = 3) (hs : ca + cb ≤ 500) : XT (A ++ B ++ [⟨k, [], 0, 0⟩]) (ca + cb) := by
  have h1 := ha.pos
  have h2 := hb.pos
  refine ⟨by have := SegM.bin (x := ⟨k, [], 0, 0⟩) ha.seg hb.seg hk; rwa [cap_id hs] at this, fun x hx => ?_, SegX.bin ha.self hb.self hk, by omega, hs⟩
  rcases List.mem_append.1 hx with hx | hx
  · rcases List.mem_append.1 hx with hx | hx
    · exact ha.ok x hx
    · exact hb.ok x hx
  · rw [List.mem_singleton.1 hx]
    exact .inr (.inl ⟨.inr hk, rfl, rfl, rfl⟩)
theorem XT.star {A : List El} {c : Int} (ha : XT A c) (m : Int) (hm : m = 0 ∨ m = 1) (hs : c + 1 ≤ 500) : XT (A ++ [⟨4, [], m, -1⟩]) (c + 1) := by
  have h1 := ha.pos
  have e1 : repSize c m (-1) = c + 1 := by
    unfold repSize
    rw [if_pos rfl]
    rcases hm with rfl | rfl
    · rw [if_pos (by decide)]; omega
    · rw [if_neg (by decide)]; omega
  have e2 : repX A m (-1) = A ++ [⟨4, [], m, -1⟩] := by
    unfold repX partsX
    rw [if_neg (by decide), if_pos rfl]
    rcases hm with rfl | rfl <;> rfl
  have h2 := SegM.rep (x := ⟨4, [], m, -1⟩) ha.seg rfl (by show 0 ≤ m; omega) (.inl rfl)
  have h3 := SegX.rep (x := ⟨4, [], m, -1⟩) ha.self rfl
  simp only at h2 h3
  rw [e1, cap_id hs] at h2
  rw [e2] at h3
  refine ⟨h2, fun x hx => ?_, h3, by omega, hs⟩
  rcases List.mem_append.1 hx with hx | hx
  · exact ha.ok x hx
  · rw [List.mem_singleton.1 hx]
    exact .inr (.inr ⟨rfl, rfl, by show 0 ≤ m; omega, by show m ≤ 250; omega, .inl rfl⟩)
def sumP : List (List El × Int) → Int
  | [] => 0
  | p :: r => p.2 + sumP r
theorem sumP_app (a b : List (List El × Int)) : sumP (a ++ b) = sumP a + sumP b := by
  induction a with
  | nil => simp [sumP]
  | cons p r ih => simp only [List.cons_append, sumP, ih]; omega
theorem sumP_rep (p : List El × Int) : ∀ n : Nat, sumP (List.replicate n p) = n * p.2
  | 0 => by simp [sumP]
  | n + 1 => by
    rw [List.replicate_succ, sumP, sumP_rep p n, Int.natCast_add, Int.add_mul]
    omega
theorem sumP_pos {r : List (List El × Int)} (h : ∀ q ∈ r, XT q.1 q.2) : 0 ≤ sumP r := by
  induction r with
  | nil => simp [sumP]
  | cons p r ih =>
    have h1 := (h p (by simp)).pos
    have h2 := ih (fun q hq => h q (by simp [hq]))
    simp only [sumP]
    omega
theorem xt_fold : ∀ (r : List (List El × Int)) (p : List El) (c : Int), XT p c → (∀ q ∈ r, XT q.1 q.2) → c + sumP r ≤ 500 → XT ((r.map Prod.fst).foldl (fun acc q => acc ++ q ++ [catE]) p) (c + sumP r)
  | [], p, c, h, _, _ => by simpa [sumP] using h
  | q :: r, p, c, h, hr, hs => by
    have h1 := hr q (by simp)
    have h2 := sumP_pos (r := r) (fun x hx => hr x (by simp [hx]))
    simp only [sumP] at hs ⊢
    have h3 := xt_fold r (p ++ q.1 ++ [catE]) (c + q.2) (h.bin h1 2 (.inl rfl) (by omega)) (fun x hx => hr x (by simp [hx])) (by omega)
    rw [show c + (q.2 + sumP r) = c + q.2 + sumP r by omega]
    exact h3
theorem xt_jn {ps : List (List El × Int)} (hne : ps ≠ []) (h : ∀ q ∈ ps, XT q.1 q.2) (hs : sumP ps ≤ 500) : XT (jn (ps.map Prod.fst)) (sumP ps) := by
  cases ps with
  | nil => exact absurd rfl hne
  | cons p r => exact xt_fold r p.1 p.2 (h p (by simp)) (fun q hq => h q (by simp [hq])) hs
theorem XT.rep {A : List El} {c mn mx : Int} (h : XT A c) (o2 : 0 ≤ mn) (o4 : mx = -1 ∨ (mn ≤ mx ∧ mx ≤ 250)) (hs : repSize c mn mx ≤ 500) : ∃ c', XT (repX A mn mx) c' ∧ c' ≤ repSize c mn mx := by
  have hp := h.pos
  by_cases e0 : mx = 0
  · subst e0
    refine ⟨1, by unfold repX; rw [if_pos rfl]; exact XT.e, ?_⟩
    unfold repSize
    rw [if_neg (by decide), if_pos rfl]
    exact hp
  unfold repX
  rw [if_neg e0]
  by_cases e1 : mx = -1
  · subst e1
    have hm : (if 1 < mn then (1 : Int) else mn) = 0 ∨ (if 1 < mn then (1 : Int) else mn) = 1 := by split <;> omega
    have hc1 : c + 1 ≤ repSize c mn (-1) := by
      unfold repSize
      rw [if_pos rfl]
      by_cases q : mn < 1
      · rw [if_pos q]; omega
      · rw [if_neg q]
        have := Int.mul_le_mul_of_nonneg_right (show (1 : Int) ≤ mn by omega) (show 0 ≤ c by omega)
        omega
    have hlast := h.star _ hm (by omega)
    have hsum : sumP (List.replicate (mn - 1).toNat (A, c) ++ [(A ++ [⟨4, [], if 1 < mn then 1 else mn, -1⟩], c + 1)]) = repSize c mn (-1) := by
      rw [sumP_app, sumP_rep]
      simp only [sumP]
      unfold repSize
      rw [if_pos rfl]
      by_cases q : mn < 1
      · rw [if_pos q, show (mn - 1).toNat = 0 by omega]; simp
      · rw [if_neg q, show (((mn - 1).toNat : Nat) : Int) = mn - 1 by omega, Int.sub_mul]
        omega
    have hx := xt_jn (ps := List.replicate (mn - 1).toNat (A, c) ++ [(A ++ [⟨4, [], if 1 < mn then 1 else mn, -1⟩], c + 1)]) (by simp) (fun q hq => by
      rcases List.mem_append.1 hq with hq | hq
      · rw [(List.mem_replicate.1 hq).2]; exact h
      · rw [List.mem_singleton.1 hq]; exact hlast) (by rw [hsum]; exact hs)
    refine ⟨_, ?_, Int.le_of_eq hsum⟩
    unfold partsX
    rw [if_pos rfl]
    simpa using hx
  · have h2 : mn ≤ mx ∧ mx ≤ 250 := by rcases o4 with q | q; exact absurd q e1; exact q
    have hopt : mn < mx → XT (optE A) (c + 1) := fun q => h.bin XT.e 3 (.inr rfl) (by
      have hr : (mx - mn) * (c + 1) + mn * c = repSize c mn mx := by unfold repSize; rw [if_neg e1, if_neg e0]; omega
      have h5 := Int.mul_le_mul_of_nonneg_right (show (1 : Int) ≤ mx - mn by omega) (show 0 ≤ c + 1 by omega)
      have h6 : 0 ≤ mn * c := Int.mul_nonneg o2 (by omega)
      omega)
    have hsum : sumP (List.replicate mn.toNat (A, c) ++ List.replicate (mx - mn).toNat (optE A, c + 1)) = repSize c mn mx := by
      rw [sumP_app, sumP_rep, sumP_rep]
      unfold repSize
      rw [if_neg e1, if_neg e0, show ((mn.toNat : Nat) : Int) = mn by omega, show (((mx - mn).toNat : Nat) : Int) = mx - mn by omega]
    have hx := xt_jn (ps := List.replicate mn.toNat (A, c) ++ List.replicate (mx - mn).toNat (optE A, c + 1)) (by
      intro e
      have := congrArg List.length e
      simp at this
      omega) (fun q hq => by
      rcases List.mem_append.1 hq with hq | hq
      · rw [(List.mem_replicate.1 hq).2]; exact h
      · have h7 := List.mem_replicate.1 hq
        rw [h7.2]; exact hopt (by have := h7.1; omega)) (by rw [hsum]; exact hs)
    refine ⟨_, ?_, Int.le_of_eq hsum⟩
    unfold partsX
    rw [if_neg e1]
    simpa using hx
theorem repSize_mono {c c' mn mx : Int} (h : c' ≤ c) (o2 : 0 ≤ mn) (o4 : mx = -1 ∨ (mn ≤ mx ∧ mx ≤ 250)) : repSize c' mn mx ≤ repSize c mn mx := by
  unfold repSize
  by_cases e1 : mx = -1
  · rw [if_pos e1, if_pos e1]
    have := Int.mul_le_mul_of_nonneg_left h (show 0 ≤ (if mn < 1 then (1 : Int) else mn) by split <;> omega)
    omega
  · rw [if_neg e1, if_neg e1]
    by_cases e0 : mx = 0
    · rw [if_pos e0, if_pos e0]; exact h
    · rw [if_neg e0, if_neg e0]
      have h1 := Int.mul_le_mul_of_nonneg_left h o2
      have h2 := Int.mul_le_mul_of_nonneg_left (show c' + 1 ≤ c + 1 by omega) (show 0 ≤ mx - mn by omega)
      omega
def PX (s : List El × Int) : Prop := s.2 ≤ 500 → ∃ L c, SegX s.1 L ∧ XT L c ∧ c ≤ s.2
theorem PushR.px {st st' : List (List El × Int)} {x : El} (h : PushR st x st') (ok : ElOk x) (hb : ∀ s ∈ st, SegM s.1 s.2) (hs : ∀ s ∈ st, PX s) : ∀ s ∈ st', PX s := by
  intro s hm
  rcases h with ⟨hk, rfl⟩ | ⟨hk, b, l, r, rfl, rfl⟩ | ⟨hk, b, o, rfl, rfl⟩
  · simp only [List.mem_append, List.mem_singleton] at hm; rcases hm with hm | rfl
    · exact hs s hm
    · exact fun _ => ⟨[x], 1, SegX.leaf hk, XT.leaf hk ok, Int.le_refl _⟩
  · simp only [List.mem_append, List.mem_singleton] at hm; rcases hm with hm | rfl
    · exact hs s (by simp [hm])
    · intro hle
      have b1 := (hb l (by simp)).bd
      have b2 := (hb r (by simp)).bd
      obtain ⟨e1, e2⟩ := cap_small hle
      obtain ⟨A, ca, a1, a2, a3⟩ := hs l (by simp) (by omega)
      obtain ⟨B, cb, b1, b2, b3⟩ := hs r (by simp) (by omega)
      obtain ⟨k, ys, mn, mx⟩ := x
      rcases ok with ⟨q1, q2, q3, q4⟩ | ⟨q1, q2, q3, q4⟩ | ⟨q1, q2, q3, q4, q5⟩ <;> simp only at hk q1 q2 q3 q4
      · omega
      · subst q3 q4
        obtain rfl := List.eq_nil_of_length_eq_zero q2
        exact ⟨_, _, SegX.bin a1 b1 hk, a2.bin b2 k hk (by omega), by show ca + cb ≤ cap (l.2 + r.2); omega⟩
      · omega
  · simp only [List.mem_append, List.mem_singleton] at hm; rcases hm with hm | rfl
    · exact hs s (by simp [hm])
    · intro hle
      have b1 := (hb o (by simp)).bd
      obtain ⟨e1, e2⟩ := cap_small hle
      rcases ok with ⟨q1, q2, q3, q4⟩ | ⟨q1, q2, q3, q4⟩ | ⟨q1, q2, q3, q4, q5⟩
      · omega
      · omega
      · have hge : o.2 ≤ repSize o.2 x.mn x.mx := by
          unfold repSize
          by_cases e1 : x.mx = -1
          · rw [if_pos e1]
            have := Int.mul_le_mul_of_nonneg_right (show (1 : Int) ≤ (if x.mn < 1 then (1 : Int) else x.mn) by split <;> omega) b1.1
            omega
          · rw [if_neg e1]
            by_cases e0 : x.mx = 0
            · rw [if_pos e0]; exact Int.le_refl _
            · rw [if_neg e0]
              have h5 : x.mn ≤ x.mx := by omega
              have h6 : 0 ≤ (x.mx - x.mn) * (o.2 + 1) := Int.mul_nonneg (by omega) (by omega)
              by_cases e2 : x.mn = 0
              · have h7 := Int.mul_le_mul_of_nonneg_right (show (1 : Int) ≤ x.mx - x.mn by omega) (show 0 ≤ o.2 + 1 by omega)
                rw [e2]; rw [e2] at h7; omega
              · have h7 := Int.mul_le_mul_of_nonneg_right (show (1 : Int) ≤ x.mn by omega) b1.1
                omega
        obtain ⟨A, ca, a1, a2, a3⟩ := hs o (by simp) (by omega)
        have h8 := repSize_mono (c := o.2) (c' := ca) (mn := x.mn) (mx := x.mx) a3 q3 q5
        obtain ⟨c', r1, r2⟩ := a2.rep q3 q5 (by omega)
        exact ⟨_, c', SegX.rep a1 hk, r1, by show c' ≤ cap (repSize o.2 x.mn x.mx); omega⟩
theorem valid_x {xs L : List El} (h : ValidT xs) (hx : SegX xs L) (hL : L.length ≤ 3000) : ValidT L ∧ SegX L L := by
  obtain ⟨h1, ok, sh, c, hc1, hc2⟩ := h
  have key : ∀ k : Nat, k ≤ xs.length → ∃ st, flats st = xs.take k ∧ (∀ s ∈ st, SegM s.1 s.2) ∧ ∀ s ∈ st, PX s := by
    intro k
    induction k with
    | zero => intro _; exact ⟨[], by simp [flats], by simp, by simp⟩
    | succ k ih =>
      intro hk
      obtain ⟨st, hst, hok, hgx⟩ := ih (by omega)
      have hx := ok k (by omega)
      have h1 : wsum (xs.take (k + 1)) + wsum (xs.drop (k + 1)) = 1 := by rw [← wsum_append, List.take_append_drop]; exact sh.1
      have h2 := sh.2 (k + 1) (by omega) hk
      have h3 := wsum_flats (fun s hs => (hok s hs).ws)
      rw [hst] at h3
      rw [take_next (by omega), wsum_append, h3] at h1
      simp only [wsum] at h1
      obtain ⟨st', hp⟩ := PushR.ex (st := st) hx (by omega)
      exact ⟨st', by rw [hp.flats, hst, take_next (by omega)], hp.seg hx hok, hp.px hx hok hgx⟩
  obtain ⟨st, hst, hok, hgx⟩ := key xs.length (Nat.le_refl _)
  rw [List.take_length] at hst
  have h3 := wsum_flats (fun s hs => (hok s hs).ws)
  rw [hst, sh.1] at h3
  obtain ⟨t, rfl⟩ := List.length_eq_one_iff.1 (show st.length = 1 by omega)
  have ha := hok t (by simp)
  have hu := hgx t (by simp)
  rw [flats_one] at hst
  have hr := ha.run []
  rw [hst, hc1] at hr
  simp only [List.cons.injEq, and_true] at hr
  obtain ⟨L', c', q1, q2, q3⟩ := hu (by omega)
  rw [hst] at q1
  obtain rfl := SegX.one hx q1
  have hsm := q2.small
  refine ⟨⟨⟨q2.seg.ne, hL⟩, fun i hi => q2.ok _ (by rw [List.getElem?_eq_getElem hi]; exact List.getElem_mem hi), ⟨q2.seg.ws, q2.seg.tl⟩, c', q2.seg.run [], hsm⟩, q2.self⟩
def Simple (L : List El) : Prop := ∀ x ∈ L, x.kind = 4 → x.mx = -1 ∧ 0 ≤ x.mn ∧ x.mn ≤ 1
theorem Simple.left {a b : List El} (h : Simple (a ++ b)) : Simple a := fun x hx => h x (List.mem_append.2 (Or.inl hx))
theorem Simple.right {a b : List El} (h : Simple (a ++ b)) : Simple b := fun x hx => h x (List.mem_append.2 (Or.inr hx))
theorem Simple.app {a b : List El} (h : Simple a) (k : Simple b) : Simple (a ++ b) := fun x hx => (List.mem_append.1 hx).elim (h x) (k x)
theorem Simple.op {k : Int} {xs : List Int} (hk : k ≠ 4) (mn mx : Int) : Simple [⟨k, xs, mn, mx⟩] := fun x hx e => by
  rw [List.mem_singleton] at hx
  subst hx
  exact absurd e hk
theorem Simple.rep (mn : Int) (h0 : 0 ≤ mn) (h1 : mn ≤ 1) : Simple [⟨4, [], mn, -1⟩] := fun x hx _ => by
  rw [List.mem_singleton] at hx
  subst hx
  exact ⟨rfl, h0, h1⟩
theorem simple_jn : ∀ {r : List (List El)} {p : List El}, Simple p → (∀ q ∈ r, Simple q) → Simple (r.foldl (fun acc q => acc ++ q ++ [catE]) p)
  | [], _, h, _ => h
  | q :: r, _, h, k => simple_jn (r := r) ((h.app (k q (List.mem_cons_self ..))).app (Simple.op (by decide) 0 0)) (fun x hx => k x (List.mem_cons_of_mem _ hx))
theorem Simple.jn {ps : List (List El)} (h : ∀ q ∈ ps, Simple q) : Simple (jn ps) := by
  cases ps with
  | nil => intro x hx; cases hx
  | cons p r => exact simple_jn (h p (List.mem_cons_self ..)) (fun q hq => h q (List.mem_cons_of_mem _ hq))
theorem Simple.repx {a : List El} (h : Simple a) (mn mx : Int) (o2 : 0 ≤ mn) : Simple (repX a mn mx) := by
  unfold repX
  split
  · exact Simple.op (by decide) 0 0
  · refine Simple.jn (fun q hq => ?_)
    unfold partsX at hq
    split at hq
    · rcases List.mem_append.1 hq with hq | hq
      · rw [(List.mem_replicate.1 hq).2]; exact h
      · rw [List.mem_singleton] at hq
        subst hq
        exact h.app (Simple.rep _ (by split <;> omega) (by split <;> omega))
    · rcases List.mem_append.1 hq with hq | hq
      · rw [(List.mem_replicate.1 hq).2]; exact h
      · rw [(List.mem_replicate.1 hq).2]
        exact (h.app (Simple.op (by decide) 0 0)).app (Simple.op (by decide) 0 0)
section
variable {n : Nat} {hs : List Int → Nat → Prop}
def ExL (n : Nat) (hs : List Int → Nat → Prop) (u : Value) (t : List El × Int) : Prop := SzV u t.2 ∧ ∃ R L, SegL n hs t.1 R ∧ SegX t.1 L ∧ SegL n hs L R ∧ Simple L
theorem closEx : Clos (ExL n hs) := by
  refine ⟨fun h => h.1, ?_, ?_, ?_, ?_, ?_⟩
  · exact ⟨SzV.e, _, _, SegL.e, SegX.leaf (Or.inl rfl), SegL.e, Simple.op (by decide) 0 0⟩
  · intro xs g hc hw
    exact ⟨SzV.s _ _ _ _, _, _, SegL.s xs, SegX.leaf (Or.inr rfl), SegL.s xs, Simple.op (by decide) 0 0⟩
  · rintro u v l r ⟨hu, A, L, a1, a2, a3, a4⟩ ⟨hv, B, R, b1, b2, b3, b4⟩
    exact ⟨SzV.cat hu hv, _, _, a1.cat b1, SegX.bin a2 b2 (Or.inl rfl), a3.cat b3, (a4.app b4).app (Simple.op (by decide) 0 0)⟩
  · rintro u v l r ⟨hu, A, L, a1, a2, a3, a4⟩ ⟨hv, B, R, b1, b2, b3, b4⟩
    exact ⟨SzV.alt hu hv, _, _, a1.alt b1, SegX.bin a2 b2 (Or.inr rfl), a3.alt b3, (a4.app b4).app (Simple.op (by decide) 0 0)⟩
  · rintro u o mn mx ⟨hu, A, L, a1, a2, a3, a4⟩ o2 o3 o4
    exact ⟨SzV.rep hu o2 o3 o4, _, _, a1.rep mn mx, SegX.rep a2 rfl, a3.repx mn mx o2 o4, a4.repx mn mx o2⟩
theorem exL_valid {xs L : List El} (h : ValidT xs) (hx : SegX xs L) : ∃ R, SegL n hs xs R ∧ SegL n hs L R ∧ Simple L := by
  obtain ⟨u, c, -, R, L', h1, h2, h3, h4⟩ := valid_g (closEx (n := n) (hs := hs)) h
  obtain rfl := SegX.one h2 hx
  exact ⟨R, h1, h3, h4⟩
end
set_option maxHeartbeats 1000000 in
set_option maxRecDepth 100000 in
theorem sameIntsE (u v : Value) (xs : List Int) (N : Nat) (w : World) (hu : SlAt mI 0 0 N w u xs) (hv : SlAt mI 0 0 N w v xs) :
    Calls Try.prog 16 #[u, v] w fun e w' => e = .returned (.bool true) ∧ ∃ q, w' = w.drewN q := by
  obtain ⟨a, cap, rfl, hl, hc⟩ := hu
  obtain ⟨a2, cap2, rfl, hl2, hc2⟩ := hv
  unfold maxLen at hl hl2
  go_enter Try.func16, Try.ntmps16
  go_wp2_with fail
  go_loopw [5] (fun i wr => (∃ k : Nat, k ≤ xs.length ∧ i = .int .i64 k) ∧ ∃ q, wr = w.drewN q) (fun i _ => xs.length - (intOf i).toNat)
  case atStart => exact ⟨⟨0, Nat.zero_le _, rfl⟩, 0, rfl⟩
  case round =>
    obtain ⟨⟨k, hk, rfl⟩, q, rfl⟩ := hrel
    by_cases h1 : k < xs.length
    · have h1' : (k : Int) < (xs.length : Int) := by omega
      obtain ⟨b, off, rfl, -, -, hcell⟩ := hc (by omega)
      obtain ⟨b2, off2, rfl, -, -, hcell2⟩ := hc2 (by omega)
      have hx : w.cell? ⟨b, off + k, none⟩ = some (.int .i64 (xs[k]?.getD 0)) := hcell k h1
      have hy : w.cell? ⟨b2, off2 + k, none⟩ = some (.int .i64 (xs[k]?.getD 0)) := hcell2 k h1
      clear hcell hcell2 hc hc2
      generalize xs[k]?.getD 0 = x at *
      go_wp2_with fail
      go_quiet (fail)
      go_wp2
      go_roundw
      case rel => exact ⟨⟨k + 1, by omega, by go_num⟩, _, rfl⟩
      case measure => simp [intOf]; omega
    · obtain rfl : k = xs.length := by omega
      clear hc hc2
      go_wp2
      go_ret
      exact ⟨rfl, _, rfl⟩
set_option maxHeartbeats 4000000 in
set_option maxRecDepth 100000 in
theorem sameTree_same (u v : Value) (xs : List El) (w : World) (hu : ElsAt 0 w.heap.size w u xs) (hv : ElsAt 0 w.heap.size w v xs) :
    Calls Try.prog 8 #[u, v] w fun e w' => e = .returned (.bool true) ∧ ∃ q, w' = w.drewN q := by
  obtain ⟨a, cap, rfl, hl, hc⟩ := hu
  obtain ⟨a2, cap2, rfl, hl2, hc2⟩ := hv
  unfold maxLen at hl hl2
  have HC := hide hc
  have HC2 := hide hc2
  clear hc hc2
  go_enter Try.func8, Try.ntmps8
  go_wp2_with fail
  go_loopw [5] (fun i wr => (∃ k : Nat, k ≤ xs.length ∧ i = .int .i64 k) ∧ ∃ q, wr = w.drewN q) (fun i _ => xs.length - (intOf i).toNat)
  case atStart => exact ⟨⟨0, Nat.zero_le _, rfl⟩, 0, rfl⟩
  case round =>
    obtain ⟨⟨k, hk, rfl⟩, q, hwq⟩ := hrel
    have HQ := hide hwq
    by_cases h1 : k < xs.length
    · have h1' : (k : Int) < (xs.length : Int) := by omega
      obtain ⟨b, off, rfl, -, -, hcell⟩ := unhide HC (by omega)
      obtain ⟨b2, off2, rfl, -, -, hcell2⟩ := unhide HC2 (by omega)
      obtain ⟨-, -, -, s, c0, c1, c2, c3, hs⟩ := hcell k h1
      obtain ⟨-, -, -, s', d0, d1, d2, d3, hs'⟩ := hcell2 k h1
      have ew : ∀ p, wr.cell? p = w.cell? p := fun p => by rw [hwq]; rfl
      rw [← ew] at c0 c1 c2 c3 d0 d1 d2 d3
      have Hs : Hid (SlAt mI 0 0 w.heap.size wr s (xs[k]?.getD dE).set) := by rw [hwq]; exact ints_sl hs
      have Hs' : Hid (SlAt mI 0 0 w.heap.size wr s' (xs[k]?.getD dE).set) := by rw [hwq]; exact ints_sl hs'
      obtain ⟨sa, sc, rfl, -⟩ := hs
      obtain ⟨sa', sc', rfl, -⟩ := hs'
      clear hcell hcell2 ew hwq
      generalize xs[k]?.getD dE = x at *
      go_wp2_with fail
      go_quiet (fail)
      have f1 : (wr.drewN nq).cell? ⟨b, off + k * 4 + 1, none⟩ = some (.slice sa x.set.length sc) := c1
      have g1 : (wr.drewN nq).cell? ⟨b2, off2 + k * 4 + 1, none⟩ = some (.slice sa' x.set.length sc') := d1
      have Hf : Hid (SlAt mI 0 0 w.heap.size (wr.drewN nq) (.slice sa x.set.length sc) x.set) := unhide Hs
      have Hg : Hid (SlAt mI 0 0 w.heap.size (wr.drewN nq) (.slice sa' x.set.length sc') x.set) := unhide Hs'
      have HQ2 : Hid (wr.drewN nq = w.drewN (q + nq)) := by show wr.drewN nq = _; rw [unhide HQ]; exact drew2 _ _ _
      clear c0 c1 c2 c3 d0 d1 d2 d3 Hs Hs'
      generalize wr.drewN nq = w9 at *
      go_wp2_with fail
      go_quiet ((go_at_call 16; refine Calls.quiet_of (sameIntsE _ _ x.set _ _ (by exact unhide Hf) (by exact unhide Hg))))
      go_wp2
      go_roundw
      case rel => exact ⟨⟨k + 1, by omega, by go_num⟩, _, by rw [unhide HQ2]; exact drew2 _ _ _⟩
      case measure => simp [intOf]; omega
    · obtain rfl : k = xs.length := by omega
      clear hwq
      go_wp2
      go_ret
      exact ⟨rfl, q, unhide HQ⟩
end Go.Proofs.Ytmafkoppadminaa
