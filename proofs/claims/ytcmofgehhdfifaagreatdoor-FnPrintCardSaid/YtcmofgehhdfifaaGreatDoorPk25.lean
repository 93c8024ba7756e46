import Derived.Test.YtcmofgehhdfifaaGreatDoorPk21
import Derived.Test.YtcmofgehhdfifaaGreatDoorPk22
import Derived.Test.YtcmofgehhdfifaaGreatDoorPk11
import Derived.Test.YtcmofgehhdfifaaGreatDoorPk3
import Derived.Test.YtcmofgehhdfifaaGreatDoorPz10
import Derived.Test.YtcmofgehhdfifaaGreatDoorPk23
import Derived.Test.YtcmofgehhdfifaaGreatDoorPk24
import Derived.Test.YtcmofgehhdfifaaGreatDoorPk19
import Derived.Test.YtcmofgehhdfifaaGreatDoorPk20
namespace Go.Proofs.YtcmofgehhdfifaaGreatDoor
open Go.RowKit
set_option maxHeartbeats 16000000 in
set_option maxRecDepth 100000 in
theorem l1drawAny_a (N D lo : Nat) (xs : List Int) (w : World) (h : CdAt N D w xs) (hx : Cod xs) (hD : D < lo) (hlo : lo ≤ w.heap.size) (hk : xs.headD 0 % 10 = 0) :
    Calls Tryz.prog 18 #[.pointer (some ⟨D, 0, none⟩)] w fun e w' => (∃ v, e = .returned (.agg #[.bool (decide (xs.tail.headD 0 % 2 = 0)), .bool (decide (xs.tail.headD 0 % 3 = 0)), v]) ∧ ElsAt lo w'.heap.size w' v ((dLim xs.tail.tail).1)) ∧ Mv w.heap.size D w w' := by
  have H := hide h
  have HX := hide hx
  have hh := hx.head
  have hh2 := hx.tail.head
  obtain ⟨y, hy⟩ : ∃ y, xs.headD 0 = y := ⟨_, rfl⟩
  obtain ⟨y2, hy2⟩ : ∃ y, xs.tail.headD 0 = y := ⟨_, rfl⟩
  rw [hy] at hh hk
  rw [hy2] at hh2 ⊢
  obtain ⟨A, hA⟩ : ∃ A, dLim xs.tail.tail = A := ⟨_, rfl⟩
  rw [hA]
  have HA := hide hA
  clear hA
  have HY := hide hy
  have HY2 := hide hy2
  clear hy hy2 h hx
  have HP := hide (Bx3.new w 25 (.bool false) (.bool false) (.slice none 0 0))
  have HB0 := hide (below1 w (.cells #[.bool false, .bool false, .slice none 0 0] 25))
  have hzW : (w.alloc (.cells #[.bool false, .bool false, .slice none 0 0] 25)).heap.size = w.heap.size + 1 := sz_alloc _ _
  have HC0 := hide ((unhide H).keep (unhide HB0) (by omega))
  have HV0 := hide (Below.mv (unhide HB0) D)
  go_enter Tryz.func18, Tryz.ntmps18
  go_wp2_with fail
  generalize w.alloc (.cells #[.bool false, .bool false, .slice none 0 0] 25) = W0 at *
  refine (next_any N D xs W0 (unhide HC0) (unhide HX)).mono ?_
  rintro e w1 ⟨he, hc1, ho1⟩
  rw [unhide HY] at he
  subst he
  have hz1 : w1.heap.size = W0.heap.size := ho1.size
  have HC1 := hide hc1
  have HM1 := hide (ho1.mv (w.heap.size + 1))
  clear hc1 ho1
  go_wp2_with fail
  refine (next_any N D xs.tail w1 (unhide HC1) (unhide HX).tail).mono ?_
  rintro e w2 ⟨he, hc2, ho2⟩
  rw [unhide HY2] at he
  subst he
  have hz2 : w2.heap.size = w1.heap.size := ho2.size
  have HC2 := hide hc2
  have HM2 := hide ((unhide HM1).trans (ho2.mv _))
  clear hc2 ho2
  go_wp2_with fail
  refine (l1drawLimit_any N D (w.heap.size + 1) xs.tail.tail w2 (unhide HC2) (unhide HX).tail.tail (by omega) (by omega)).mono ?_
  rw [unhide HA]
  rintro e w3 ⟨⟨v3, rfl, hv3⟩, hc3, hm3⟩
  have HT3 := hide hv3
  obtain ⟨a3, c3, rfl, -⟩ := hv3
  have hz3 := hm3.size
  have HM3 := hide ((unhide HM2).trans (hm3.mono (by omega)))
  clear hc3 hm3
  have BP := (unhide HP).blk ((unhide HM3).block w.heap.size (by omega) (by omega))
  obtain ⟨p0, p1, p2⟩ := BP.facts
  have z0 := World.rowIs.frozen BP 0
  have z1 := World.rowIs.frozen BP 1
  have z2 := World.rowIs.frozen BP 2
  clear BP
  go_wp2
  refine bodyPost_ret (v := .agg #[.bool (decide (y2 % 2 = 0)), .bool (decide (y2 % 3 = 0)), .slice a3 A.1.length c3]) (by simp [results, Tryz.results18, go_sem, p0, p1, p2]; exact ⟨rfl, rfl⟩) rfl ⟨⟨_, rfl, ?_⟩, ?_⟩
  · exact (unhide HT3).put3 (lo := lo) (by omega)
  · exact (unhide HV0).trans (((unhide HM3).mono (by omega)).trans (Below.mv (bput (bput (bput (Below.refl w.heap.size w3) (Nat.le_refl _) _) (Nat.le_refl _) _) (Nat.le_refl _) _) D))
set_option maxHeartbeats 16000000 in
set_option maxRecDepth 100000 in
theorem l1drawAny_b (N D lo : Nat) (xs : List Int) (w : World) (h : CdAt N D w xs) (hx : Cod xs) (hD : D < lo) (hlo : lo ≤ w.heap.size) (hk : 3 ≤ xs.headD 0 % 10) :
    Calls Tryz.prog 18 #[.pointer (some ⟨D, 0, none⟩)] w fun e w' => (∃ v, e = .returned (.agg #[.bool (decide (xs.tail.headD 0 % 4 = 1)), .bool (decide (5 < xs.tail.headD 0 % 8)), v]) ∧ ElsAt lo w'.heap.size w' v ((dGood xs.tail).1)) ∧ Mv w.heap.size D w w' := by
  have H := hide h
  have HX := hide hx
  have hh := hx.head
  have hh2 := hx.tail.head
  obtain ⟨y, hy⟩ : ∃ y, xs.headD 0 = y := ⟨_, rfl⟩
  obtain ⟨y2, hy2⟩ : ∃ y, xs.tail.headD 0 = y := ⟨_, rfl⟩
  rw [hy] at hh hk
  rw [hy2] at hh2 ⊢
  obtain ⟨A, hA⟩ : ∃ A, dGood xs.tail = A := ⟨_, rfl⟩
  obtain ⟨bl, hbl⟩ : ∃ b, decide (y2 % 4 = 1) = b := ⟨_, rfl⟩
  obtain ⟨br, hbr⟩ : ∃ b, decide (5 < y2 % 8) = b := ⟨_, rfl⟩
  have HAD := hide (dGood_dt xs.tail)
  have HAC := hide (dGood_cod hx.tail)
  rw [hA] at HAD HAC
  rw [hA, hbl, hbr]
  have HA := hide hA
  have HBL := hide hbl
  have HBR := hide hbr
  clear hA hbl hbr
  have HY := hide hy
  have HY2 := hide hy2
  clear hy hy2 h hx
  have HP := hide (Bx3.new w 25 (.bool false) (.bool false) (.slice none 0 0))
  have HB0 := hide (below1 w (.cells #[.bool false, .bool false, .slice none 0 0] 25))
  have hzW : (w.alloc (.cells #[.bool false, .bool false, .slice none 0 0] 25)).heap.size = w.heap.size + 1 := sz_alloc _ _
  have HC0 := hide ((unhide H).keep (unhide HB0) (by omega))
  have HV0 := hide (Below.mv (unhide HB0) D)
  go_enter Tryz.func18, Tryz.ntmps18
  go_wp2_with fail
  generalize w.alloc (.cells #[.bool false, .bool false, .slice none 0 0] 25) = W0 at *
  refine (next_any N D xs W0 (unhide HC0) (unhide HX)).mono ?_
  rintro e w1 ⟨he, hc1, ho1⟩
  rw [unhide HY] at he
  subst he
  have hz1 : w1.heap.size = W0.heap.size := ho1.size
  have HC1 := hide hc1
  have HM1 := hide (ho1.mv (w.heap.size + 1))
  clear hc1 ho1
  have k0 : ¬ y % 10 = 0 := by omega
  have k3 : ¬ y % 10 < 3 := by omega
  go_wp2_with fail
  refine (l1drawGood_any N D (w.heap.size + 1) xs.tail w1 (unhide HC1) (unhide HX).tail (by omega) (by omega)).mono ?_
  rw [unhide HY2, unhide HA, unhide HBL, unhide HBR]
  rintro e w2 ⟨⟨v2, rfl, hv2⟩, hc2, hm2⟩
  have HT2 := hide hv2
  obtain ⟨a2, c2, rfl, -⟩ := hv2
  have hz2 := hm2.size
  have HC2 := hide hc2
  have HM2 := hide ((unhide HM1).trans (hm2.mono (by omega)))
  clear hc2 hm2
  have BP := (unhide HP).blk ((unhide HM2).block w.heap.size (by omega) (by omega))
  obtain ⟨p0, p1, p2⟩ := BP.facts
  have z0 := World.rowIs.frozen BP 0
  have z1 := World.rowIs.frozen BP 1
  have z2 := World.rowIs.frozen BP 2
  clear BP
  have hlt9 : w.heap.size < w2.heap.size := by omega
  have hne9 : ¬ w.heap.size = w2.heap.size := by omega
  go_wp2
  refine bodyPost_ret (v := .agg #[.bool bl, .bool br, .slice a2 A.1.length c2]) (by simp [results, Tryz.results18, go_sem, p0, p1, p2, hlt9]) rfl ⟨⟨_, rfl, ?_⟩, ?_⟩
  · exact ((unhide HT2).put3 (lo := lo) (by omega)).below (below1 _ _) (Nat.le_refl _)
  · exact (unhide HV0).trans (((unhide HM2).mono (by omega)).trans ((Below.mv (bput (bput (bput (Below.refl w.heap.size w2) (Nat.le_refl _) _) (Nat.le_refl _) _) (Nat.le_refl _) _) D).trans (bmv (below1 _ _) D (by simp only [sz_put]; omega))))
set_option maxHeartbeats 16000000 in
set_option maxRecDepth 100000 in
theorem l1drawAny_c (N D lo : Nat) (xs : List Int) (w : World) (h : CdAt N D w xs) (hx : Cod xs) (hD : D < lo) (hlo : lo ≤ w.heap.size) (hk : 0 < xs.headD 0 % 10 ∧ xs.headD 0 % 10 < 3) :
    Calls Tryz.prog 18 #[.pointer (some ⟨D, 0, none⟩)] w fun e w' => (∃ v, e = .returned (.agg #[.bool (decide (xs.tail.headD 0 % 4 = 1)), .bool (decide (5 < xs.tail.headD 0 % 8)), v]) ∧ ElsAt lo w'.heap.size w' v ((dSpoil (dGood xs.tail).1 (dGood xs.tail).2).1)) ∧ Mv w.heap.size D w w' := by
  have H := hide h
  have HX := hide hx
  have hh := hx.head
  have hh2 := hx.tail.head
  obtain ⟨y, hy⟩ : ∃ y, xs.headD 0 = y := ⟨_, rfl⟩
  obtain ⟨y2, hy2⟩ : ∃ y, xs.tail.headD 0 = y := ⟨_, rfl⟩
  rw [hy] at hh hk
  rw [hy2] at hh2 ⊢
  obtain ⟨A, hA⟩ : ∃ A, dGood xs.tail = A := ⟨_, rfl⟩
  obtain ⟨bl, hbl⟩ : ∃ b, decide (y2 % 4 = 1) = b := ⟨_, rfl⟩
  obtain ⟨br, hbr⟩ : ∃ b, decide (5 < y2 % 8) = b := ⟨_, rfl⟩
  have HAD := hide (dGood_dt xs.tail)
  have HAC := hide (dGood_cod hx.tail)
  rw [hA] at HAD HAC
  rw [hA, hbl, hbr]
  obtain ⟨B, hB⟩ : ∃ B, dSpoil A.1 A.2 = B := ⟨_, rfl⟩
  rw [hB]
  have HB := hide hB
  clear hB
  have HA := hide hA
  have HBL := hide hbl
  have HBR := hide hbr
  clear hA hbl hbr
  have HY := hide hy
  have HY2 := hide hy2
  clear hy hy2 h hx
  have HP := hide (Bx3.new w 25 (.bool false) (.bool false) (.slice none 0 0))
  have HB0 := hide (below1 w (.cells #[.bool false, .bool false, .slice none 0 0] 25))
  have hzW : (w.alloc (.cells #[.bool false, .bool false, .slice none 0 0] 25)).heap.size = w.heap.size + 1 := sz_alloc _ _
  have HC0 := hide ((unhide H).keep (unhide HB0) (by omega))
  have HV0 := hide (Below.mv (unhide HB0) D)
  go_enter Tryz.func18, Tryz.ntmps18
  go_wp2_with fail
  generalize w.alloc (.cells #[.bool false, .bool false, .slice none 0 0] 25) = W0 at *
  refine (next_any N D xs W0 (unhide HC0) (unhide HX)).mono ?_
  rintro e w1 ⟨he, hc1, ho1⟩
  rw [unhide HY] at he
  subst he
  have hz1 : w1.heap.size = W0.heap.size := ho1.size
  have HC1 := hide hc1
  have HM1 := hide (ho1.mv (w.heap.size + 1))
  clear hc1 ho1
  have k0 : ¬ y % 10 = 0 := by omega
  have k3 : y % 10 < 3 := by omega
  go_wp2_with fail
  refine (l1drawGood_any N D (w.heap.size + 1) xs.tail w1 (unhide HC1) (unhide HX).tail (by omega) (by omega)).mono ?_
  rw [unhide HY2, unhide HA, unhide HBL, unhide HBR]
  rintro e w2 ⟨⟨v2, rfl, hv2⟩, hc2, hm2⟩
  have HT2 := hide hv2
  obtain ⟨a2, c2, rfl, -⟩ := hv2
  have hz2 := hm2.size
  have HC2 := hide hc2
  have HM2 := hide ((unhide HM1).trans (hm2.mono (by omega)))
  clear hc2 hm2
  have HQ := hide (Bx3.new w2 25 (.bool bl) (.bool br) (.slice a2 A.1.length c2))
  have HB3 := hide (below1 w2 (.cells #[.bool bl, .bool br, .slice a2 A.1.length c2] 25))
  have hz3 : (w2.alloc (.cells #[.bool bl, .bool br, .slice a2 A.1.length c2] 25)).heap.size = w2.heap.size + 1 := sz_alloc _ _
  go_wp2_with fail
  generalize w2.alloc (.cells #[.bool bl, .bool br, .slice a2 A.1.length c2] 25) = W3 at *
  have HC3 := hide ((unhide HC2).keep (unhide HB3) (by omega))
  have HM3 := hide ((unhide HM2).trans (bmv (unhide HB3) D (by omega)))
  have HT3 := hide ((unhide HT2).below (unhide HB3) (Nat.le_refl _))
  have hAl : 0 < A.1.length := by obtain ⟨c9, h9, -⟩ := (unhide HAD).seg; exact h9.ne
  refine (l1spoil_any N D (w.heap.size + 1) _ A.1 A.2 W3 (unhide HC3) (unhide HAC) (by omega) (by omega) (unhide HT3) (unhide HAD).nl hAl).mono ?_
  rw [unhide HB]
  rintro e w4 ⟨⟨v4, rfl, hv4⟩, hc4, hm4⟩
  have HT4 := hide hv4
  obtain ⟨a4, c4, rfl, -⟩ := hv4
  have hz4 := hm4.size
  have HM4 := hide ((unhide HM3).trans (hm4.mono (by omega)))
  have BQ := (unhide HQ).blk (hm4.block w2.heap.size (by omega) (by omega))
  obtain ⟨r0, r1, r2⟩ := BQ.facts
  have u0 := World.rowIs.frozen BQ 0
  have u1 := World.rowIs.frozen BQ 1
  have u2 := World.rowIs.frozen BQ 2
  clear hc4 hm4 BQ
  have BP := (unhide HP).blk ((unhide HM4).block w.heap.size (by omega) (by omega))
  obtain ⟨p0, p1, p2⟩ := BP.facts
  have z0 := World.rowIs.frozen BP 0
  have z1 := World.rowIs.frozen BP 1
  have z2 := World.rowIs.frozen BP 2
  clear BP
  have hne9 : ¬ w.heap.size = w2.heap.size := by omega
  have hne8 : ¬ w2.heap.size = w.heap.size := by omega
  go_wp2
  refine bodyPost_ret (v := .agg #[.bool bl, .bool br, .slice a4 B.1.length c4]) (by simp [results, Tryz.results18, go_sem, p0, p1, p2]) rfl ⟨⟨_, rfl, ?_⟩, ?_⟩
  · have h5 : ElsAt (w.heap.size + 1) (w4.setCell ⟨w2.heap.size, 2, none⟩ (.slice a4 B.1.length c4)).heap.size (w4.setCell ⟨w2.heap.size, 2, none⟩ (.slice a4 B.1.length c4)) (.slice a4 B.1.length c4) B.1 := ((unhide HT4).same ((Same.refl _ _ _).setCell (Or.inl (by omega)) _)).mono (by omega) (by rw [sz_put]; exact Nat.le_refl _)
    exact h5.put3 (lo := lo) (by omega)
  · exact (unhide HV0).trans (((unhide HM4).mono (by omega)).trans (Below.mv (bput (bput (bput (bput (Below.refl w.heap.size w4) (by omega) _) (Nat.le_refl _) _) (Nat.le_refl _) _) (Nat.le_refl _) _) D))
theorem l1drawAny_any (N D lo : Nat) (xs : List Int) (w : World) (h : CdAt N D w xs) (hx : Cod xs) (hD : D < lo) (hlo : lo ≤ w.heap.size) :
    Calls Tryz.prog 18 #[.pointer (some ⟨D, 0, none⟩)] w fun e w' => (∃ v, e = .returned (.agg #[.bool (dAny xs).1.1, .bool (dAny xs).1.2, v]) ∧ ElsAt lo w'.heap.size w' v (dAny xs).2) ∧ Mv w.heap.size D w w' := by
  have hh := hx.head
  unfold dAny
  by_cases h0 : xs.headD 0 % 10 = 0
  · rw [if_pos h0]; exact l1drawAny_a N D lo xs w h hx hD hlo h0
  · rw [if_neg h0]
    by_cases h3 : xs.headD 0 % 10 < 3
    · rw [if_pos h3]; exact l1drawAny_c N D lo xs w h hx hD hlo ⟨by omega, h3⟩
    · rw [if_neg h3]; exact l1drawAny_b N D lo xs w h hx hD hlo (by omega)
def DrPr (w : World) (R : (Bool × Bool) × List El) (e : Ending) (w' : World) : Prop := (∃ v, e = .returned (.agg #[.bool R.1.1, .bool R.1.2, v]) ∧ ElsAt w.heap.size w'.heap.size w' v R.2) ∧ Below w.heap.size w w'
set_option maxHeartbeats 16000000 in
set_option maxRecDepth 100000 in
theorem drawPrint_a (cv : Value) (cs : List Int) (w : World) (hv : SlAt mB 0 0 w.heap.size w cv cs) (hcap : CapOk cv) (hx : Cod (cs.take 600)) (hk : (cs.take 600).headD 0 % 20 = 0) :
    Calls Tryz.prog 4 #[cv] w (DrPr w (dPrint (cs.take 600))) := by
  have HX := hide hx
  have hh := hx.head
  have hh2 := hx.tail.head
  have hh3 := hx.tail.tail.head
  have HV := hide hv
  have HCP := hide hcap
  obtain ⟨ca, cc, rfl, -⟩ := hv
  obtain ⟨xs, hxs⟩ : ∃ xs, cs.take 600 = xs := ⟨_, rfl⟩
  rw [hxs] at HX hh hh2 hh3 hk ⊢
  have HXS := hide hxs
  obtain ⟨y, hy⟩ : ∃ y, xs.headD 0 = y := ⟨_, rfl⟩
  obtain ⟨y2, hy2⟩ : ∃ y, xs.tail.headD 0 = y := ⟨_, rfl⟩
  obtain ⟨y3, hy3⟩ : ∃ y, xs.tail.tail.headD 0 = y := ⟨_, rfl⟩
  rw [hy] at hh hk
  rw [hy2] at hh2
  rw [hy3] at hh3
  have HE : Hid (dPrint xs = ((false, false), catT (oneE 99) (strN (99 + y2 % 3).toNat (oneE 97)))) := by
    show dPrint xs = _
    unfold dPrint
    rw [hy, if_pos hk, hy2]
  rw [unhide HE]
  obtain ⟨S, hS⟩ : ∃ S, strN (99 + y2 % 3).toNat (oneE 97) = S := ⟨_, rfl⟩
  rw [hS]
  have HS := hide hS
  have hsl : NL 203 S := by rw [← hS]; exact (strN_nl _ (NL.one (x := 97) (by omega) (by omega))).mono (by omega)
  clear hS
  have HY := hide hy
  have HY2 := hide hy2
  have HY3 := hide hy3
  clear hy hy2 hy3 hx hxs hcap
  have HP := hide (Bx3.new w 25 (.bool false) (.bool false) (.slice none 0 0))
  have HB0 := hide (below1 w (.cells #[.bool false, .bool false, .slice none 0 0] 25))
  have hzW : (w.alloc (.cells #[.bool false, .bool false, .slice none 0 0] 25)).heap.size = w.heap.size + 1 := sz_alloc _ _
  have HV0 := hide ((unhide HV).cut (unhide HB0) (Nat.le_refl _))
  go_enter Tryz.func4, Tryz.ntmps4
  go_wp2_with fail
  generalize w.alloc (.cells #[.bool false, .bool false, .slice none 0 0] 25) = W0 at *
  refine (l1open_any _ cs W0 (unhide HV0) (unhide HCP)).mono ?_
  rw [unhide HXS]
  obtain ⟨D, hDe⟩ : ∃ D, W0.heap.size = D := ⟨_, rfl⟩
  rw [hDe]
  rintro e w1 ⟨rfl, hc0, hz0, hb0⟩
  have hd1 : w.heap.size < D := by omega
  have hd4 : D < w.heap.size + 2 := by omega
  have hd3 : w.heap.size + 2 ≤ w1.heap.size := by omega
  have HBW := hide ((unhide HB0).trans (hb0.mono (by omega)))
  have HP1 := hide ((unhide HP).below hb0 (by omega))
  clear hb0 hDe hzW hz0
  go_wp2_with fail
  refine (next_any D D xs w1 hc0 (unhide HX)).mono ?_
  rintro e w2 ⟨he, hc2, ho2⟩
  rw [unhide HY] at he
  subst he
  have hz2 : w2.heap.size = w1.heap.size := ho2.size
  have HC2 := hide hc2
  have HM2 := hide (ho2.mv w1.heap.size)
  clear hc0 hc2 ho2
  have HD2 := hide (show D < w2.heap.size by omega)
  go_wp2_with fail
  refine (l1stretch_any D D (w.heap.size + 2) xs.tail w2 (unhide HC2) (unhide HX).tail (by omega) (by omega)).mono ?_
  rw [unhide HY2, unhide HS]
  rintro e w3 ⟨⟨v3, rfl, hv3⟩, hc3, hm3⟩
  have HTt3 := hide hv3
  obtain ⟨a3, c3, rfl, -⟩ := hv3
  have hz3 := hm3.size
  have HC3 := hide hc3
  have HM3 := hide ((unhide HM2).trans (hm3.mono (by omega)))
  clear hc3 hm3
  go_wp2_with fail
  refine (l1one_any 99 w3 (by unfold In64; omega)).mono ?_
  rintro e w4 ⟨v4, rfl, hv4, hb4⟩
  have HI4 := hide (hv4.mono (lo' := w.heap.size + 2) (by omega) (Nat.le_refl _))
  obtain ⟨a4, c4, rfl, -⟩ := hv4
  have hz4 := hb4.size
  have HC4 := hide ((unhide HC3).keep hb4 (by omega))
  have HM4 := hide ((unhide HM3).trans (bmv hb4 D (by omega)))
  have HTt4 := hide ((unhide HTt3).below hb4 (Nat.le_refl _))
  clear hb4
  go_wp2_with fail
  refine (l1set_any (w.heap.size + 2) _ _ w4 (unhide HI4) (by omega) (by simp)).mono ?_
  rintro e w5 ⟨v5, rfl, hv5, hb5⟩
  have HTc5 := hide hv5
  obtain ⟨a5, c5, rfl, -⟩ := hv5
  have hz5 := hb5.size
  have HC5 := hide ((unhide HC4).keep hb5 (by omega))
  have HM5 := hide ((unhide HM4).trans (bmv hb5 D (by omega)))
  have HTt5 := hide ((unhide HTt4).below hb5 (Nat.le_refl _))
  clear hb5
  go_wp2_with fail
  refine (cat_dt (unhide HTc5) (unhide HTt5) (NL.one (x := 99) (by omega) (by omega)) hsl (by omega) (by omega) (by omega)).mono ?_
  rintro e w6 ⟨v6, rfl, hv6, hb6⟩
  have HTr6 := hide hv6
  obtain ⟨a6, c6, rfl, -⟩ := hv6
  have hz6 := hb6.size
  have HC6 := hide ((unhide HC5).keep hb6 (by omega))
  have HM6 := hide ((unhide HM5).trans (bmv hb6 D (by omega)))
  have HTt6 := hide ((unhide HTt5).below hb6 (Nat.le_refl _))
  have HTc6 := hide ((unhide HTc5).below hb6 (Nat.le_refl _))
  clear hb6
  have BP := (unhide HP1).blk ((unhide HM6).block w.heap.size (by omega) (by omega))
  obtain ⟨p0, p1, p2⟩ := BP.facts
  have z0 := World.rowIs.frozen BP 0
  have z1 := World.rowIs.frozen BP 1
  have z2 := World.rowIs.frozen BP 2
  clear BP
  go_wp2
  refine bodyPost_ret (v := .agg #[.bool false, .bool false, .slice a6 (catT (oneE 99) S).length c6]) (by simp [results, Tryz.results4, go_sem, p0, p1, p2]; rfl) rfl ⟨⟨_, rfl, ?_⟩, ?_⟩
  · exact ((unhide HTr6).mono (lo' := w.heap.size + 1) (by omega) (Nat.le_refl _)).put3 (lo := w.heap.size) (by omega)
  · exact (unhide HBW).trans (((unhide HM6).below (by omega)).mono (by omega) |>.trans (bput (bput (bput (Below.refl w.heap.size _) (Nat.le_refl _) _) (Nat.le_refl _) _) (Nat.le_refl _) _))
set_option maxHeartbeats 16000000 in
set_option maxRecDepth 100000 in
theorem drawPrint_c (cv : Value) (cs : List Int) (w : World) (hv : SlAt mB 0 0 w.heap.size w cv cs) (hcap : CapOk cv) (hx : Cod (cs.take 600)) (hk : 2 ≤ (cs.take 600).headD 0 % 20) :
    Calls Tryz.prog 4 #[cv] w (DrPr w (dPrint (cs.take 600))) := by
  have HX := hide hx
  have hh := hx.head
  have hh2 := hx.tail.head
  have hh3 := hx.tail.tail.head
  have HV := hide hv
  have HCP := hide hcap
  obtain ⟨ca, cc, rfl, -⟩ := hv
  obtain ⟨xs, hxs⟩ : ∃ xs, cs.take 600 = xs := ⟨_, rfl⟩
  rw [hxs] at HX hh hh2 hh3 hk ⊢
  have HXS := hide hxs
  obtain ⟨y, hy⟩ : ∃ y, xs.headD 0 = y := ⟨_, rfl⟩
  obtain ⟨y2, hy2⟩ : ∃ y, xs.tail.headD 0 = y := ⟨_, rfl⟩
  obtain ⟨y3, hy3⟩ : ∃ y, xs.tail.tail.headD 0 = y := ⟨_, rfl⟩
  rw [hy] at hh hk
  rw [hy2] at hh2
  rw [hy3] at hh3
  have HE : Hid (dPrint xs = dAny xs.tail) := by
    show dPrint xs = _
    unfold dPrint
    rw [hy, if_neg (by omega), if_neg (by omega)]
  rw [unhide HE]
  obtain ⟨R, hR⟩ : ∃ R, dAny xs.tail = R := ⟨_, rfl⟩
  rw [hR]
  have HR := hide hR
  clear hR
  have HY := hide hy
  have HY2 := hide hy2
  have HY3 := hide hy3
  have k0 : ¬ y % 20 = 0 := by omega
  have k1 : ¬ y % 20 = 1 := by omega
  clear hy hy2 hy3 hx hxs hcap
  have HP := hide (Bx3.new w 25 (.bool false) (.bool false) (.slice none 0 0))
  have HB0 := hide (below1 w (.cells #[.bool false, .bool false, .slice none 0 0] 25))
  have hzW : (w.alloc (.cells #[.bool false, .bool false, .slice none 0 0] 25)).heap.size = w.heap.size + 1 := sz_alloc _ _
  have HV0 := hide ((unhide HV).cut (unhide HB0) (Nat.le_refl _))
  go_enter Tryz.func4, Tryz.ntmps4
  go_wp2_with fail
  generalize w.alloc (.cells #[.bool false, .bool false, .slice none 0 0] 25) = W0 at *
  refine (l1open_any _ cs W0 (unhide HV0) (unhide HCP)).mono ?_
  rw [unhide HXS]
  obtain ⟨D, hDe⟩ : ∃ D, W0.heap.size = D := ⟨_, rfl⟩
  rw [hDe]
  rintro e w1 ⟨rfl, hc0, hz0, hb0⟩
  have hd1 : w.heap.size < D := by omega
  have hd4 : D < w.heap.size + 2 := by omega
  have hd3 : w.heap.size + 2 ≤ w1.heap.size := by omega
  have HBW := hide ((unhide HB0).trans (hb0.mono (by omega)))
  have HP1 := hide ((unhide HP).below hb0 (by omega))
  clear hb0 hDe hzW hz0
  go_wp2_with fail
  refine (next_any D D xs w1 hc0 (unhide HX)).mono ?_
  rintro e w2 ⟨he, hc2, ho2⟩
  rw [unhide HY] at he
  subst he
  have hz2 : w2.heap.size = w1.heap.size := ho2.size
  have HC2 := hide hc2
  have HM2 := hide (ho2.mv w1.heap.size)
  clear hc0 hc2 ho2
  go_wp2_with fail
  refine (l1drawAny_any D D (w.heap.size + 2) xs.tail w2 (unhide HC2) (unhide HX).tail (by omega) (by omega)).mono ?_
  rw [unhide HR]
  rintro e w3 ⟨⟨v3, rfl, hv3⟩, hm3⟩
  have HT3 := hide hv3
  obtain ⟨a3, c3, rfl, -⟩ := hv3
  have hz3 := hm3.size
  have HM3 := hide ((unhide HM2).trans (hm3.mono (by omega)))
  clear hm3
  have BP := (unhide HP1).blk ((unhide HM3).block w.heap.size (by omega) (by omega))
  obtain ⟨p0, p1, p2⟩ := BP.facts
  have z0 := World.rowIs.frozen BP 0
  have z1 := World.rowIs.frozen BP 1
  have z2 := World.rowIs.frozen BP 2
  clear BP
  go_wp2
  refine bodyPost_ret (v := .agg #[.bool R.1.1, .bool R.1.2, .slice a3 (R.2).length c3]) (by simp [results, Tryz.results4, go_sem, p0, p1, p2]) rfl ⟨⟨_, rfl, ?_⟩, ?_⟩
  · exact ((unhide HT3).mono (lo' := w.heap.size + 1) (by omega) (Nat.le_refl _)).put3 (lo := w.heap.size) (by omega)
  · exact (unhide HBW).trans (((unhide HM3).below (by omega)).mono (by omega) |>.trans (bput (bput (bput (Below.refl w.heap.size _) (Nat.le_refl _) _) (Nat.le_refl _) _) (Nat.le_refl _) _))
set_option maxHeartbeats 16000000 in
set_option maxRecDepth 100000 in
theorem drawPrint_b (cv : Value) (cs : List Int) (w : World) (hv : SlAt mB 0 0 w.heap.size w cv cs) (hcap : CapOk cv) (hx : Cod (cs.take 600)) (hk : (cs.take 600).headD 0 % 20 = 1) :
    Calls Tryz.prog 4 #[cv] w (DrPr w (dPrint (cs.take 600))) := by
  have HX := hide hx
  have hh := hx.head
  have hh2 := hx.tail.head
  have hh3 := hx.tail.tail.head
  have HV := hide hv
  have HCP := hide hcap
  obtain ⟨ca, cc, rfl, -⟩ := hv
  obtain ⟨xs, hxs⟩ : ∃ xs, cs.take 600 = xs := ⟨_, rfl⟩
  rw [hxs] at HX hh hh2 hh3 hk ⊢
  have HXS := hide hxs
  obtain ⟨y, hy⟩ : ∃ y, xs.headD 0 = y := ⟨_, rfl⟩
  obtain ⟨y2, hy2⟩ : ∃ y, xs.tail.headD 0 = y := ⟨_, rfl⟩
  obtain ⟨y3, hy3⟩ : ∃ y, xs.tail.tail.headD 0 = y := ⟨_, rfl⟩
  rw [hy] at hh hk
  rw [hy2] at hh2
  rw [hy3] at hh3
  have HE : Hid (dPrint xs = ((false, true), catT (oneE y2) (sE (cnn (twoB y2 y3))))) := by
    show dPrint xs = _
    unfold dPrint
    rw [hy, if_neg (by omega), if_pos hk, hy2, hy3]
  rw [unhide HE]
  have HY := hide hy
  have HY2 := hide hy2
  have HY3 := hide hy3
  have k0 : ¬ y % 20 = 0 := by omega
  clear hy hy2 hy3 hx hxs hcap
  have HP := hide (Bx3.new w 25 (.bool false) (.bool false) (.slice none 0 0))
  have HB0 := hide (below1 w (.cells #[.bool false, .bool false, .slice none 0 0] 25))
  have hzW : (w.alloc (.cells #[.bool false, .bool false, .slice none 0 0] 25)).heap.size = w.heap.size + 1 := sz_alloc _ _
  have HV0 := hide ((unhide HV).cut (unhide HB0) (Nat.le_refl _))
  go_enter Tryz.func4, Tryz.ntmps4
  go_wp2_with fail
  generalize w.alloc (.cells #[.bool false, .bool false, .slice none 0 0] 25) = W0 at *
  refine (l1open_any _ cs W0 (unhide HV0) (unhide HCP)).mono ?_
  rw [unhide HXS]
  obtain ⟨D, hDe⟩ : ∃ D, W0.heap.size = D := ⟨_, rfl⟩
  rw [hDe]
  rintro e w1 ⟨rfl, hc0, hz0, hb0⟩
  have hd1 : w.heap.size < D := by omega
  have hd4 : D < w.heap.size + 2 := by omega
  have hd3 : w.heap.size + 2 ≤ w1.heap.size := by omega
  have HBW := hide ((unhide HB0).trans (hb0.mono (by omega)))
  have HP1 := hide ((unhide HP).below hb0 (by omega))
  clear hb0 hDe hzW hz0
  go_wp2_with fail
  refine (next_any D D xs w1 hc0 (unhide HX)).mono ?_
  rintro e w2 ⟨he, hc2, ho2⟩
  rw [unhide HY] at he
  subst he
  have hz2 : w2.heap.size = w1.heap.size := ho2.size
  have HC2 := hide hc2
  have HM2 := hide (ho2.mv w1.heap.size)
  clear hc0 hc2 ho2
  have hmk := run_make_row' (P := Tryz.prog) 41 4 (.bool false) 1 Tryz.underlying41 Tryz.zinBool rfl .i64 .i64 256 (by omega) (by omega)
  rw [show ((256 : Nat) : Int) = 256 from rfl] at hmk
  go_wp2_with fail
  refine (next_any D D xs.tail w2 (unhide HC2) (unhide HX).tail).mono ?_
  rintro e w3 ⟨he, hc3, ho3⟩
  rw [unhide HY2] at he
  subst he
  go_wp2_with fail
  refine (next_any D D xs.tail.tail w3 hc3 (unhide HX).tail.tail).mono ?_
  rintro e w4 ⟨he, hc4, ho4⟩
  rw [unhide HY3] at he
  subst he
  have hz3 : w3.heap.size = w2.heap.size := ho3.size
  have hz4 : w4.heap.size = w3.heap.size := ho4.size
  have HC4 := hide hc4
  have HM4 := hide ((unhide HM2).trans ((ho3.mv _).trans (ho4.mv _)))
  obtain ⟨b, hb⟩ : ∃ b : Nat, y2 = (b : Int) := ⟨y2.toNat, by omega⟩
  obtain ⟨c, hc⟩ : ∃ c : Nat, y3 = (c : Int) := ⟨y3.toNat, by omega⟩
  subst hb hc
  have hb5 : b ≤ 255 := by omega
  have hc5 : c ≤ 255 := by omega
  have hM5 := mark_made w4
  have hB5 := below1 w4 (.cells (madeCells #[.bool false] 256) 4)
  have hz5 : (w4.alloc (.cells (madeCells #[.bool false] 256) 4)).heap.size = w4.heap.size + 1 := sz_alloc _ _
  have hmk4 := hmk w4
  obtain ⟨W5, hW5⟩ : ∃ W5, W5 = w4.alloc (.cells (madeCells #[.bool false] 256) 4) := ⟨_, rfl⟩
  obtain ⟨mb, hmb⟩ : ∃ mb, mb = w4.heap.size := ⟨_, rfl⟩
  rw [← hW5, ← hmb] at hmk4
  rw [← hW5, ← hmb] at hM5
  rw [← hW5] at hB5 hz5
  have f0 := World.rowIs.frozen hM5 b
  have x0 := World.rowIs.cell hM5 (i := b) (by omega)
  have hM6 := hM5.put b true
  have f1 := World.rowIs.frozen hM6 c
  have x1 := World.rowIs.cell hM6 (i := c) (by omega)
  have HM7 := hide ((hM6.put c true).eq (p' := twoB b c) (fun j hj => by unfold twoB; by_cases e1 : j = c <;> by_cases e2 : j = b <;> simp [e1, e2] <;> omega))
  have hB7 : Below w4.heap.size w4 ((W5.setCell ⟨mb, b, none⟩ (.bool true)).setCell ⟨mb, c, none⟩ (.bool true)) := bput (bput hB5 (by omega) _) (by omega) _
  have hz7 : ((W5.setCell ⟨mb, b, none⟩ (.bool true)).setCell ⟨mb, c, none⟩ (.bool true)).heap.size = w4.heap.size + 1 := by simp only [sz_put]; omega
  have hb6 : (b : Int) < 256 := by omega
  have hc6 : (c : Int) < 256 := by omega
  have HB7 := hide hB7
  have HZ7 := hide hz7
  have HMB := hide hmb
  have hmb1 : w.heap.size + 2 ≤ mb := by omega
  have hD4 : D < w4.heap.size := by omega
  have hw14 : w1.heap.size ≤ w4.heap.size := by omega
  clear hc3 hc4 ho3 ho4 hM5 hM6 hB5 hB7 hmk hW5 hz2 hz3 hz4 hz5 hz7 hmb
  go_wp2_with fail
  generalize (W5.setCell ⟨mb, b, none⟩ (.bool true)).setCell ⟨mb, c, none⟩ (.bool true) = w5 at *
  have hz5 : w4.heap.size < w5.heap.size := by rw [unhide HZ7]; omega
  have HC5 := hide ((unhide HC4).keep (unhide HB7) (by omega))
  have HM5 := hide ((unhide HM4).trans (bmv (unhide HB7) D (by omega)))
  have hmb2 : mb < w5.heap.size := row_lt (unhide HM7)
  clear x0 x1 f0 f1 hmk4
  go_wp2_with fail
  refine (l1one_any (b : Int) w5 (by unfold In64; omega)).mono ?_
  rintro e w6 ⟨v6, rfl, hv6, hb6⟩
  have HI6 := hide (hv6.mono (lo' := w.heap.size + 2) (by omega) (Nat.le_refl _))
  obtain ⟨a6, c6, rfl, -⟩ := hv6
  have hz6 := hb6.size
  have HC6 := hide ((unhide HC5).keep hb6 (by omega))
  have HM6 := hide ((unhide HM5).trans (bmv hb6 D (by omega)))
  have HBB6 := hide hb6
  clear hb6
  go_wp2_with fail
  refine (l1set_any (w.heap.size + 2) _ _ w6 (unhide HI6) (by omega) (by simp)).mono ?_
  rintro e w7 ⟨v7, rfl, hv7, hb7⟩
  have HTb7 := hide hv7
  obtain ⟨a7, c7, rfl, -⟩ := hv7
  have hz7 := hb7.size
  have HC7 := hide ((unhide HC6).keep hb7 (by omega))
  have HM77 := hide ((unhide HM6).trans (bmv hb7 D (by omega)))
  have HBB7 := hide ((unhide HBB6).trans (hb7.mono (by omega)))
  clear hb7
  have HMK := hide (World.rowIs.of_block (unhide HM7) ((unhide HBB7).block mb hmb2))
  have HRG := hide (l1ranges_any mb (twoB b c) w7 (unhide HMK))
  go_wp2_with fail
  refine (unhide HRG).mono ?_
  rintro e w8 ⟨v8, rfl, hown8, hb8⟩
  obtain ⟨o8, d8, rfl⟩ := own_is hown8
  have hl8 := (cnn_setL (twoB b c)).1
  have HI8 := hide ((own_slw hown8 (lo := w.heap.size + 2) (by omega) (by unfold maxLen; omega)).ints (cnn_setL _).in64)
  have hz8 := hb8.size
  have HC8 := hide ((unhide HC7).keep hb8 (by omega))
  have HMv8 := hide ((unhide HM77).trans (bmv hb8 D (by omega)))
  have HTb8 := hide ((unhide HTb7).below hb8 (Nat.le_refl _))
  clear hown8 hb8 HRG
  go_wp2_with fail
  refine (l1set_any (w.heap.size + 2) _ _ w8 (unhide HI8) (by omega) (by omega)).mono ?_
  rintro e w9 ⟨v9, rfl, hv9, hb9⟩
  have HTs9 := hide hv9
  obtain ⟨a9, c9, rfl, -⟩ := hv9
  have hz9 := hb9.size
  have HTb9 := hide ((unhide HTb8).below hb9 (Nat.le_refl _))
  have HM9 := hide ((unhide HMv8).trans (bmv hb9 D (by omega)))
  clear hb9
  go_wp2_with fail
  refine (cat_dt (unhide HTb9) (unhide HTs9) (NL.one (x := (b : Int)) (by omega) (by omega)) (DT.s (cnn_setL (twoB b c))).nl (by omega) (by omega) (by omega)).mono ?_
  rintro e w10 ⟨v10, rfl, hv10, hb10⟩
  have HT10 := hide hv10
  obtain ⟨a10, c10, rfl, -⟩ := hv10
  have hz10 := hb10.size
  have HM10 := hide ((unhide HM9).trans (bmv hb10 D (by omega)))
  clear hb10
  have BP := (unhide HP1).blk ((unhide HM10).block w.heap.size (by omega) (by omega))
  obtain ⟨p0, p1, p2⟩ := BP.facts
  have z0 := World.rowIs.frozen BP 0
  have z1 := World.rowIs.frozen BP 1
  have z2 := World.rowIs.frozen BP 2
  clear BP
  go_wp2
  refine bodyPost_ret (v := .agg #[.bool false, .bool true, .slice a10 (catT (oneE (b : Int)) (sE (cnn (twoB b c)))).length c10]) (by simp [results, Tryz.results4, go_sem, p0, p1, p2]; rfl) rfl ⟨⟨_, rfl, ?_⟩, ?_⟩
  · exact ((unhide HT10).mono (lo' := w.heap.size + 1) (by omega) (Nat.le_refl _)).put3 (lo := w.heap.size) (by omega)
  · exact (unhide HBW).trans (((unhide HM10).below (by omega)).mono (by omega) |>.trans (bput (bput (bput (Below.refl w.heap.size _) (Nat.le_refl _) _) (Nat.le_refl _) _) (Nat.le_refl _) _))
theorem drawPrint_any (cv : Value) (cs : List Int) (w : World) (hv : SlAt mB 0 0 w.heap.size w cv cs) (hcap : CapOk cv) (hx : Cod (cs.take 600)) : Calls Tryz.prog 4 #[cv] w (DrPr w (dPrint (cs.take 600))) := by
  have hh := hx.head
  by_cases h0 : (cs.take 600).headD 0 % 20 = 0
  · exact drawPrint_a cv cs w hv hcap hx h0
  by_cases h1 : (cs.take 600).headD 0 % 20 = 1
  · exact drawPrint_b cv cs w hv hcap hx h1
  · exact drawPrint_c cv cs w hv hcap hx (by omega)
set_option maxHeartbeats 1000000 in
set_option maxRecDepth 100000 in
theorem sameIntsE (u v : Value) (xs : List Int) (N : Nat) (w : World) (hu : SlAt mI 0 0 N w u xs) (hv : SlAt mI 0 0 N w v xs) :
    Calls Tryz.prog 30 #[u, v] w fun e w' => e = .returned (.bool true) ∧ ∃ q, w' = w.drewN q := by
  obtain ⟨a, cap, rfl, hl, hc⟩ := hu
  obtain ⟨a2, cap2, rfl, hl2, hc2⟩ := hv
  unfold maxLen at hl hl2
  go_enter Tryz.func30, Tryz.ntmps30
  go_wp2_with fail
  go_loopw [5] (fun i wr => (∃ k : Nat, k ≤ xs.length ∧ i = .int .i64 k) ∧ ∃ q, wr = w.drewN q) (fun i _ => xs.length - (intOf i).toNat)
  case atStart => exact ⟨⟨0, Nat.zero_le _, rfl⟩, 0, rfl⟩
  case round =>
    obtain ⟨⟨k, hk, rfl⟩, q, rfl⟩ := hrel
    by_cases h1 : k < xs.length
    · have h1' : (k : Int) < (xs.length : Int) := by omega
      obtain ⟨b, off, rfl, -, -, hcell⟩ := hc (by omega)
      obtain ⟨b2, off2, rfl, -, -, hcell2⟩ := hc2 (by omega)
      have hx : w.cell? ⟨b, off + k, none⟩ = some (.int .i64 (xs[k]?.getD 0)) := hcell k h1
      have hy : w.cell? ⟨b2, off2 + k, none⟩ = some (.int .i64 (xs[k]?.getD 0)) := hcell2 k h1
      clear hcell hcell2 hc hc2
      generalize xs[k]?.getD 0 = x at *
      go_wp2_with fail
      go_quiet (fail)
      go_wp2
      go_roundw
      case rel => exact ⟨⟨k + 1, by omega, by go_num⟩, _, rfl⟩
      case measure => simp [intOf]; omega
    · obtain rfl : k = xs.length := by omega
      clear hc hc2
      go_wp2
      go_ret
      exact ⟨rfl, _, rfl⟩
set_option maxHeartbeats 4000000 in
set_option maxRecDepth 100000 in
theorem sameTree_same (u v : Value) (xs : List El) (w : World) (hu : ElsAt 0 w.heap.size w u xs) (hv : ElsAt 0 w.heap.size w v xs) :
    Calls Tryz.prog 10 #[u, v] w fun e w' => e = .returned (.bool true) ∧ ∃ q, w' = w.drewN q := by
  obtain ⟨a, cap, rfl, hl, hc⟩ := hu
  obtain ⟨a2, cap2, rfl, hl2, hc2⟩ := hv
  unfold maxLen at hl hl2
  have HC := hide hc
  have HC2 := hide hc2
  clear hc hc2
  go_enter Tryz.func10, Tryz.ntmps10
  go_wp2_with fail
  go_loopw [5] (fun i wr => (∃ k : Nat, k ≤ xs.length ∧ i = .int .i64 k) ∧ ∃ q, wr = w.drewN q) (fun i _ => xs.length - (intOf i).toNat)
  case atStart => exact ⟨⟨0, Nat.zero_le _, rfl⟩, 0, rfl⟩
  case round =>
    obtain ⟨⟨k, hk, rfl⟩, q, hwq⟩ := hrel
    have HQ := hide hwq
    by_cases h1 : k < xs.length
    · have h1' : (k : Int) < (xs.length : Int) := by omega
      obtain ⟨b, off, rfl, -, -, hcell⟩ := unhide HC (by omega)
      obtain ⟨b2, off2, rfl, -, -, hcell2⟩ := unhide HC2 (by omega)
      obtain ⟨-, -, -, s, c0, c1, c2, c3, hs⟩ := hcell k h1
      obtain ⟨-, -, -, s', d0, d1, d2, d3, hs'⟩ := hcell2 k h1
      have ew : ∀ p, wr.cell? p = w.cell? p := fun p => by rw [hwq]; rfl
      rw [← ew] at c0 c1 c2 c3 d0 d1 d2 d3
      have Hs : Hid (SlAt mI 0 0 w.heap.size wr s (xs[k]?.getD dE).set) := by rw [hwq]; exact ints_sl hs
      have Hs' : Hid (SlAt mI 0 0 w.heap.size wr s' (xs[k]?.getD dE).set) := by rw [hwq]; exact ints_sl hs'
      obtain ⟨sa, sc, rfl, -⟩ := hs
      obtain ⟨sa', sc', rfl, -⟩ := hs'
      clear hcell hcell2 ew hwq
      generalize xs[k]?.getD dE = x at *
      go_wp2_with fail
      go_quiet (fail)
      have f1 : (wr.drewN nq).cell? ⟨b, off + k * 4 + 1, none⟩ = some (.slice sa x.set.length sc) := c1
      have g1 : (wr.drewN nq).cell? ⟨b2, off2 + k * 4 + 1, none⟩ = some (.slice sa' x.set.length sc') := d1
      have Hf : Hid (SlAt mI 0 0 w.heap.size (wr.drewN nq) (.slice sa x.set.length sc) x.set) := unhide Hs
      have Hg : Hid (SlAt mI 0 0 w.heap.size (wr.drewN nq) (.slice sa' x.set.length sc') x.set) := unhide Hs'
      have HQ2 : Hid (wr.drewN nq = w.drewN (q + nq)) := by show wr.drewN nq = _; rw [unhide HQ]; exact drew2 _ _ _
      clear c0 c1 c2 c3 d0 d1 d2 d3 Hs Hs'
      generalize wr.drewN nq = w9 at *
      go_wp2_with fail
      go_quiet ((go_at_call 30; refine Calls.quiet_of (sameIntsE _ _ x.set _ _ (by exact unhide Hf) (by exact unhide Hg))))
      go_wp2
      go_roundw
      case rel => exact ⟨⟨k + 1, by omega, by go_num⟩, _, by rw [unhide HQ2]; exact drew2 _ _ _⟩
      case measure => simp [intOf]; omega
    · obtain rfl : k = xs.length := by omega
      clear hwq
      go_wp2
      go_ret
      exact ⟨rfl, q, unhide HQ⟩
/-! The text that is printed of a set, a byte, a repetition, read again as one token. -/
theorem hexv_hexd {d : Int} (h0 : 0 ≤ d) (h1 : d ≤ 15) : hexv (hexd d) = some d := by
  unfold hexd hexv
  by_cases h : d < 10
  · rw [if_pos h, if_pos (by omega)]; congr 1; omega
  · rw [if_neg h, if_neg (by omega), if_pos (by omega)]; congr 1; omega
theorem byT_or {b : Int} (h0 : 0 ≤ b) (h1 : b ≤ 255) : (∃ r, byT b = 92 :: r ∧ ∀ u, besc (r ++ u) = some (b, u) ∧ sesc (r ++ u) = none) ∨ (byT b = [b] ∧ b ∉ spcZ ∧ b ≠ 45) := by
  unfold byT
  by_cases e1 : b = 10
  · subst e1; exact .inl ⟨_, rfl, fun u => ⟨by simp [besc, spcZ], by simp [sesc]⟩⟩
  rw [if_neg e1]
  by_cases e2 : b = 9
  · subst e2; exact .inl ⟨_, rfl, fun u => ⟨by simp [besc, spcZ], by simp [sesc]⟩⟩
  rw [if_neg e2]
  by_cases e3 : b = 13
  · subst e3; exact .inl ⟨_, rfl, fun u => ⟨by simp [besc, spcZ], by simp [sesc]⟩⟩
  rw [if_neg e3]
  by_cases e4 : b ∈ spcL ∨ b = 45
  · rw [if_pos e4]
    refine .inl ⟨_, rfl, fun u => ⟨?_, ?_⟩⟩
    · rw [List.cons_append, besc, if_pos (show b ∈ spcZ ∨ b = 45 from e4)]; rfl
    · rw [List.cons_append, sesc]
      simp only [spcL, List.mem_cons, List.not_mem_nil, or_false] at e4
      rw [if_neg (by omega), if_neg (by omega), if_neg (by omega)]
  rw [if_neg e4]
  by_cases e5 : 32 ≤ b ∧ b ≤ 126
  · rw [if_pos e5]
    exact .inr ⟨rfl, fun h => e4 (.inl h), fun h => e4 (.inr h)⟩
  rw [if_neg e5]
  refine .inl ⟨_, rfl, fun u => ⟨?_, by simp [sesc]⟩⟩
  have k1 := hexv_hexd (d := b / 16) (by omega) (by omega)
  have k2 := hexv_hexd (d := b % 16) (by omega) (by omega)
  simp only [List.cons_append, List.nil_append]
  rw [besc, if_neg (by simp [spcZ]), if_neg (by decide), if_neg (by decide), if_neg (by decide), if_pos rfl, hex2, k1, k2]
  simp only [Option.bind_some, Option.map_some, Option.some.injEq, Prod.mk.injEq, and_true]
  omega
theorem chr1_byT {b : Int} (h0 : 0 ≤ b) (h1 : b ≤ 255) (u : List Int) : chr1 (byT b ++ u) = some (b, u) := by
  rcases byT_or h0 h1 with ⟨r, e, h⟩ | ⟨e, h2, h3⟩
  · rw [e, List.cons_append, chr1, if_pos rfl]; exact (h u).1
  · rw [e, List.cons_append, chr1]
    simp only [spcZ, List.mem_cons, List.not_mem_nil, or_false, not_or] at h2
    rw [if_neg (by omega), if_neg (by omega)]; rfl
theorem sesB_byT {b : Int} (h0 : 0 ≤ b) (h1 : b ≤ 255) (u : List Int) : sesB (byT b ++ u) = none := by
  rcases byT_or h0 h1 with ⟨r, e, h⟩ | ⟨e, h2, h3⟩
  · rw [e, List.cons_append, sesB, if_pos rfl]; exact (h u).2
  · rw [e, List.cons_append, sesB]
    simp only [spcZ, List.mem_cons, List.not_mem_nil, or_false, not_or] at h2
    rw [if_neg (by omega)]
theorem byT_hd {b : Int} (h0 : 0 ≤ b) (h1 : b ≤ 255) : ∃ c r, byT b = c :: r ∧ c ≠ 45 ∧ c ≠ 93 ∧ c ≠ 94 := by
  rcases byT_or h0 h1 with ⟨r, e, -⟩ | ⟨e, h2, h3⟩
  · exact ⟨_, r, e, by decide, by decide, by decide⟩
  · simp only [spcZ, List.mem_cons, List.not_mem_nil, or_false, not_or] at h2
    exact ⟨_, [], e, h3, by omega, by omega⟩
theorem lx_byT {b : Int} (h0 : 0 ≤ b) (h1 : b ≤ 255) (u : List Int) : lx (byT b ++ u) = some (.inl [b, b], u) := by
  rcases byT_or h0 h1 with ⟨r, e, h⟩ | ⟨e, h2, h3⟩
  · rw [e, List.cons_append, lx, if_neg (by decide), if_neg (by decide), if_neg (by decide), if_neg (by decide), if_neg (by decide), if_neg (by decide), if_neg (by decide), if_neg (by decide), if_neg (by decide), if_pos rfl, (h u).2]
    simp only
    rw [(h u).1]
    rfl
  · have h4 := h2
    simp only [spcZ, List.mem_cons, List.not_mem_nil, or_false, not_or] at h4
    rw [e, List.cons_append, lx, if_neg (by omega), if_neg (by omega), if_neg (by omega), if_neg (by omega), if_neg (by omega), if_neg (by omega), if_neg (by omega), if_neg (by omega), if_neg (by omega), if_neg (by omega), if_neg h2]
    rfl
theorem clsG_step {n : Nat} {p q : Nat → Bool} {s v : List Int} {c : Int} {r : List Int} (hs : s = c :: r) (hc : c ≠ 93) (h : mem1 p s = some (q, v)) (hn : s.length < n) (hv : v.length < s.length) : clsG n p s = clsG n q v := by
  obtain ⟨m, rfl⟩ : ∃ m, n = m + 1 := ⟨n - 1, by omega⟩
  subst hs
  rw [clsG, if_neg hc, h]
  exact (clsG_fuel m q v (by omega) (m + 1) (by omega)).symm
theorem mem2_end {p : Nat → Bool} {lo : Int} {v : List Int} (hv : v.head? ≠ some 45) : mem2 p lo v = some (rngB p lo lo, v) := by
  cases v with
  | nil => rfl
  | cons c r => rw [mem2, if_neg (fun e => hv (by rw [e]; rfl))]
theorem clsG_one {n : Nat} {p : Nat → Bool} {b : Int} {v : List Int} (h0 : 0 ≤ b) (h1 : b ≤ 255) (hv : v.head? ≠ some 45) (hn : (byT b ++ v).length < n) : clsG n p (byT b ++ v) = clsG n (rngB p b b) v := by
  obtain ⟨c, r, e, -, hc, -⟩ := byT_hd h0 h1
  refine clsG_step (s := byT b ++ v) (c := c) (r := r ++ v) (by rw [e]; rfl) hc ?_ hn (by rw [e]; simp; omega)
  unfold mem1
  rw [sesB_byT h0 h1]
  simp only
  rw [chr1_byT h0 h1]
  exact mem2_end hv
theorem clsG_rng {n : Nat} {p : Nat → Bool} {lo hi : Int} {v : List Int} (h0 : 0 ≤ lo) (h1 : lo ≤ hi) (h2 : hi ≤ 255) (hv : v.head? ≠ some 45) (hn : (rngT lo hi ++ v).length < n) : clsG n p (rngT lo hi ++ v) = clsG n (rngB p lo hi) v := by
  obtain ⟨c1, r1, e1, k1, k1', -⟩ := byT_hd (b := lo) h0 (by omega)
  obtain ⟨c2, r2, e2, k2, k2', -⟩ := byT_hd (b := hi) (by omega) h2
  have hd2 : (byT hi ++ v).head? ≠ some 45 := by rw [e2]; simpa using k2
  unfold rngT at *
  by_cases a : lo < hi
  · by_cases b : lo + 1 < hi
    · rw [if_pos b, if_pos a] at *
      refine clsG_step (c := c1) (r := r1 ++ [45] ++ byT hi ++ v) (by rw [e1]; simp) k1' ?_ hn (by simp; omega)
      unfold mem1
      rw [List.append_assoc, List.append_assoc, sesB_byT h0 (by omega)]
      simp only
      rw [chr1_byT h0 (by omega)]
      simp only [Option.bind_some, List.cons_append, List.nil_append]
      rw [mem2, if_pos rfl, chr1_byT (by omega) h2]
      simp only [Option.bind_some]
      rw [if_neg (by omega)]
    · rw [if_neg b, if_pos a] at *
      rw [List.append_nil, List.append_assoc] at *
      have hn2 : (byT hi ++ v).length < n := by rw [List.length_append] at hn; omega
      rw [clsG_one h0 (by omega) hd2 hn, clsG_one (by omega) h2 hv hn2]
      congr 1
      funext x
      unfold rngB
      rw [Bool.or_assoc]
      congr 1
      rw [Bool.eq_iff_iff]
      simp
      omega
  · obtain rfl : lo = hi := by omega
    rw [if_neg (by omega), if_neg a, List.append_nil, List.append_nil] at *
    exact clsG_one h0 (by omega) hv hn
theorem rngT_hd {lo hi : Int} (h0 : 0 ≤ lo) (h1 : lo ≤ 255) (v : List Int) : ∃ c r, rngT lo hi ++ v = c :: r ∧ c ≠ 45 ∧ c ≠ 93 ∧ c ≠ 94 := by
  obtain ⟨c, r, e, h⟩ := byT_hd h0 h1
  unfold rngT
  rw [e]
  exact ⟨c, _, by simp only [List.cons_append]; rfl, h⟩
theorem clsG_rngs {xs : List Int} (hc : Canon xs) : ∀ (k n : Nat) (p : Nat → Bool) (v : List Int), 2 * k ≤ xs.length → v.head? ≠ some 45 → (rngsT xs k ++ v).length < n → clsG n p (rngsT xs k ++ v) = clsG n (fun b => p b || InP xs k b) v
  | 0, n, p, v, _, _, _ => by
    have e : (fun b => p b || InP xs 0 b) = p := by funext b; simp [InP]
    rw [e]
    rfl
  | k + 1, n, p, v, hk, hv, hn => by
    have a := hc.2.1 (2 * k) (by omega)
    have b := hc.2.1 (2 * k + 1) (by omega)
    have d := (hc.2.2 k (by omega)).1
    rw [rngsT, List.append_assoc] at *
    obtain ⟨c, r, e, h3, -⟩ := rngT_hd (lo := xs[2 * k]?.getD 0) (hi := xs[2 * k + 1]?.getD 0) a.1 a.2 v
    rw [clsG_rngs hc k n p _ (by omega) (by rw [e]; simpa using h3) hn, clsG_rng a.1 d b.2 hv (by rw [List.length_append] at hn; omega)]
    congr 1
    funext x
    unfold rngB
    rw [InP, Bool.or_assoc]
theorem inP_lt {xs : List Int} (hc : Canon xs) : ∀ (k b : Nat), 2 * k ≤ xs.length → InP xs k b = true → b < 256
  | 0, b, _, h => by simp [InP] at h
  | k + 1, b, hk, h => by
    rw [InP, Bool.or_eq_true, decide_eq_true_eq] at h
    rcases h with h | h
    · exact inP_lt hc k b (by omega) h
    · have := hc.2.1 (2 * k + 1) (by omega); omega
theorem cnn_in {xs : List Int} (hc : Canon xs) : cnn (fun b => false || InP xs (xs.length / 2) b) = xs := by
  refine canon_uniq (cnn_ok _).1 hc fun b => ?_
  rw [(cnn_ok _).2 b, Bool.false_or]
  cases h : InP xs (xs.length / 2) b with
  | false => simp
  | true => simp [inP_lt hc _ b (by omega) h]
theorem cls_rngs {xs : List Int} (hc : Canon xs) (u : List Int) : cls (rngsT xs (xs.length / 2) ++ 93 :: u) = some (xs, u) := by
  have key : ∀ n, (rngsT xs (xs.length / 2) ++ 93 :: u).length < n → clsG n (fun _ => false) (rngsT xs (xs.length / 2) ++ 93 :: u) = some (fun b => false || InP xs (xs.length / 2) b, u) := fun n hn => by
    rw [clsG_rngs hc _ n _ (93 :: u) (by omega) (by simp) hn]
    obtain ⟨m, rfl⟩ : ∃ m, n = m + 1 := ⟨n - 1, by omega⟩
    rw [clsG, if_pos rfl]
  have hd : ∃ c r, rngsT xs (xs.length / 2) ++ 93 :: u = c :: r ∧ c ≠ 94 := by
    by_cases h : xs.length = 0
    · rw [h]; exact ⟨93, u, rfl, by decide⟩
    · have hf : ∀ k, 0 < k → 2 * k ≤ xs.length → ∀ v, ∃ c r, rngsT xs k ++ v = c :: r ∧ c ≠ 94 := by
        intro k
        induction k with
        | zero => intro h; omega
        | succ k ih =>
          intro _ hk v
          rw [rngsT, List.append_assoc]
          by_cases h0 : 0 < k
          · exact ih h0 (by omega) _
          · obtain rfl : k = 0 := by omega
            have a := hc.2.1 0 (by omega)
            obtain ⟨c, r, e, -, -, h3⟩ := rngT_hd (lo := xs[2 * 0]?.getD 0) (hi := xs[2 * 0 + 1]?.getD 0) a.1 a.2 v
            exact ⟨c, r, e, h3⟩
      have := hc.1
      exact hf _ (by omega) (by omega) _
  obtain ⟨c, r, e, h9⟩ := hd
  have k := key (r.length + 2) (by rw [e]; simp)
  rw [e] at k ⊢
  rw [cls, if_neg h9, k]
  simp only [Option.map_some]
  rw [cnn_in hc]
theorem lx_setT {xs : List Int} (hc : Canon xs) (u : List Int) : lx (setT xs ++ u) = some (.inl xs, u) := by
  unfold setT
  by_cases e1 : xs = [0, 255]
  · rw [if_pos e1]
    have : cnn (fun b => !false) = [0, 255] := canon_uniq (cnn_ok _).1 canon_all fun b => by
      rw [(cnn_ok _).2 b]
      show (decide (b < 256) && true) = InP [0, 255] 1 b
      simp [InP]
      omega
    rw [e1]
    simp only [List.cons_append, List.nil_append]
    rw [lx, if_neg (by decide), if_neg (by decide), if_neg (by decide), if_neg (by decide), if_neg (by decide), if_neg (by decide), if_neg (by decide), if_neg (by decide), if_pos rfl, cls, if_pos rfl, clsG, if_pos rfl]
    simp only [Option.map_some]
    rw [this]
  · rw [if_neg e1]
    by_cases e2 : xs = [0, 9, 11, 255]
    · rw [if_pos e2, e2]; rfl
    · rw [if_neg e2]
      by_cases e3 : xs.length = 2 ∧ xs[0]?.getD 0 = xs[1]?.getD 0
      · rw [if_pos e3]
        have a := hc.2.1 0 (by omega)
        rw [lx_byT a.1 a.2]
        obtain ⟨x, y, rfl⟩ : ∃ x y, xs = [x, y] := by
          match xs, e3.1 with
          | [x, y], _ => exact ⟨x, y, rfl⟩
        have : x = y := e3.2
        subst this
        rfl
      · rw [if_neg e3]
        simp only [List.cons_append, List.append_assoc, List.nil_append]
        rw [lx, if_neg (by decide), if_neg (by decide), if_neg (by decide), if_neg (by decide), if_neg (by decide), if_neg (by decide), if_neg (by decide), if_neg (by decide), if_pos rfl, cls_rngs hc u]
        rfl
theorem num1_decT {v : Int} (h0 : 0 ≤ v) (h1 : v ≤ 250) {c : Int} (hc : isD c = false) (u : List Int) : num1 (decT v ++ c :: u) = some (v, c :: u) := by
  have hd : ∀ d : Int, 0 ≤ d → d ≤ 9 → isD (48 + d) = true := fun d _ _ => by unfold isD; simp; omega
  unfold decT
  by_cases a : v < 10
  · rw [if_pos a]
    have k1 := hd v h0 (by omega)
    unfold num1
    simp only [List.cons_append, List.nil_append, List.takeWhile_cons, List.dropWhile_cons, k1, hc, if_true, Bool.false_eq_true, if_false]
    rw [if_neg (by simp)]
    simp [numV]
    omega
  · rw [if_neg a]
    by_cases b : v < 100
    · rw [if_pos b]
      have k1 := hd (v / 10) (by omega) (by omega)
      have k2 := hd (v % 10) (by omega) (by omega)
      unfold num1
      simp only [List.cons_append, List.nil_append, List.takeWhile_cons, List.dropWhile_cons, k1, k2, hc, if_true, Bool.false_eq_true, if_false]
      rw [if_neg (by simp)]
      simp [numV]
      omega
    · rw [if_neg b]
      have k1 := hd (v / 100) (by omega) (by omega)
      have k2 := hd (v / 10 % 10) (by omega) (by omega)
      have k3 := hd (v % 10) (by omega) (by omega)
      unfold num1
      simp only [List.cons_append, List.nil_append, List.takeWhile_cons, List.dropWhile_cons, k1, k2, k3, hc, if_true, Bool.false_eq_true, if_false]
      rw [if_neg (by simp)]
      simp [numV]
      omega
theorem decT_hd (v : Int) (h0 : 0 ≤ v) (h1 : v ≤ 250) (u : List Int) : ∃ c r, decT v ++ u = c :: r ∧ c ≠ 125 := by
  unfold decT
  by_cases a : v < 10
  · rw [if_pos a]; exact ⟨_, _, rfl, by omega⟩
  · rw [if_neg a]
    by_cases b : v < 100
    · rw [if_pos b]; exact ⟨_, _, rfl, by omega⟩
    · rw [if_neg b]; exact ⟨_, _, rfl, by omega⟩
theorem lx_repT {lo hi : Int} (h0 : 0 ≤ lo) (h1 : lo ≤ 250) (h2 : hi = -1 ∨ (lo ≤ hi ∧ hi ≤ 250)) (u : List Int) : lx (repT lo hi ++ u) = some (.inr (.inl (lo, hi)), u) := by
  unfold repT
  by_cases e1 : lo = 0 ∧ hi = -1
  · rw [if_pos e1, e1.1, e1.2]; rfl
  rw [if_neg e1]
  by_cases e2 : lo = 1 ∧ hi = -1
  · rw [if_pos e2, e2.1, e2.2]; rfl
  rw [if_neg e2]
  by_cases e3 : lo = 0 ∧ hi = 1
  · rw [if_pos e3, e3.1, e3.2]; rfl
  rw [if_neg e3]
  have key : ∀ s x r, brc s = some (x, r) → lx (123 :: s) = some (.inr (.inl x), r) := fun s x r h => by
    rw [lx, if_neg (by decide), if_neg (by decide), if_neg (by decide), if_neg (by decide), if_neg (by decide), if_neg (by decide), if_pos rfl, h]
    rfl
  by_cases e4 : hi = -1
  · rw [if_pos e4]
    simp only [List.cons_append, List.append_assoc, List.nil_append]
    refine key _ _ _ ?_
    unfold brc
    rw [num1_decT h0 h1 (by decide)]
    simp only [Option.bind_some]
    rw [brc2, if_neg (by decide), if_pos rfl, brc3, if_pos rfl, e4]
  · rw [if_neg e4]
    by_cases e5 : lo = hi
    · rw [if_pos e5]
      simp only [List.cons_append, List.append_assoc, List.nil_append]
      refine key _ _ _ ?_
      unfold brc
      rw [num1_decT h0 h1 (by decide)]
      simp only [Option.bind_some]
      rw [brc2, if_pos rfl, e5]
    · rw [if_neg e5]
      simp only [List.cons_append, List.append_assoc, List.nil_append]
      refine key _ _ _ ?_
      unfold brc
      rw [num1_decT h0 h1 (by decide)]
      simp only [Option.bind_some]
      obtain ⟨c, r, e, hc⟩ := decT_hd hi (by omega) (by omega) (125 :: u)
      have k := num1_decT (v := hi) (by omega) (by omega) (c := 125) (by decide) u
      rw [brc2, if_neg (by decide), if_pos rfl]
      rw [e] at k ⊢
      rw [brc3, if_neg hc, k]
      simp only [Option.bind_some]
      rw [if_neg (by omega)]
      simp
theorem BytesIn.app {a b : List Int} (ha : BytesIn a) (hb : BytesIn b) : BytesIn (a ++ b) := fun x hx => (List.mem_append.1 hx).elim (ha x) (hb x)
theorem BytesIn.cons {c : Int} {a : List Int} (h0 : 0 ≤ c) (h1 : c ≤ 255) (ha : BytesIn a) : BytesIn (c :: a) := fun x hx => by
  rcases List.mem_cons.1 hx with rfl | h
  · exact ⟨h0, h1⟩
  · exact ha x h
theorem BytesIn.nil : BytesIn [] := fun x hx => by cases hx
theorem hexd_by {d : Int} (h0 : 0 ≤ d) (h1 : d ≤ 15) : 0 ≤ hexd d ∧ hexd d ≤ 255 := by unfold hexd; split <;> omega
theorem byT_by {b : Int} (h0 : 0 ≤ b) (h1 : b ≤ 255) : BytesIn (byT b) := by
  have k1 := hexd_by (d := b / 16) (by omega) (by omega)
  have k2 := hexd_by (d := b % 16) (by omega) (by omega)
  unfold byT
  repeat' split
  all_goals first
    | exact .cons (by omega) (by omega) (.cons (by omega) (by omega) .nil)
    | exact .cons h0 h1 .nil
    | exact .cons (by omega) (by omega) (.cons (by omega) (by omega) (.cons k1.1 k1.2 (.cons k2.1 k2.2 .nil)))
theorem rngT_by {lo hi : Int} (h0 : 0 ≤ lo) (h1 : lo ≤ hi) (h2 : hi ≤ 255) : BytesIn (rngT lo hi) := by
  have k1 := byT_by (b := lo) h0 (by omega)
  have k2 := byT_by (b := hi) (by omega) h2
  unfold rngT
  refine (k1.app ?_).app ?_
  · split
    · exact .cons (by omega) (by omega) .nil
    · exact .nil
  · split
    · exact k2
    · exact .nil
theorem rngsT_by {xs : List Int} (hc : Canon xs) : ∀ k : Nat, 2 * k ≤ xs.length → BytesIn (rngsT xs k)
  | 0, _ => .nil
  | k + 1, hk => (rngsT_by hc k (by omega)).app (rngT_by (hc.2.1 (2 * k) (by omega)).1 (hc.2.2 k (by omega)).1 (hc.2.1 (2 * k + 1) (by omega)).2)
theorem setT_by {xs : List Int} (hc : Canon xs) : BytesIn (setT xs) := by
  unfold setT
  split
  · exact .cons (by omega) (by omega) (.cons (by omega) (by omega) (.cons (by omega) (by omega) .nil))
  split
  · exact .cons (by omega) (by omega) .nil
  split
  · rename_i h
    have a := hc.2.1 0 (by omega)
    exact byT_by a.1 a.2
  · exact BytesIn.app (.cons (by omega) (by omega) (rngsT_by hc _ (by omega))) (.cons (by omega) (by omega) .nil)
theorem decT_by {v : Int} (h0 : 0 ≤ v) (h1 : v ≤ 250) : BytesIn (decT v) := by
  unfold decT
  split
  · exact .cons (by omega) (by omega) .nil
  split
  · exact .cons (by omega) (by omega) (.cons (by omega) (by omega) .nil)
  · exact .cons (by omega) (by omega) (.cons (by omega) (by omega) (.cons (by omega) (by omega) .nil))
theorem repT_by {lo hi : Int} (h0 : 0 ≤ lo) (h1 : lo ≤ 250) (h2 : hi = -1 ∨ (lo ≤ hi ∧ hi ≤ 250)) : BytesIn (repT lo hi) := by
  have k1 := decT_by h0 h1
  unfold repT
  split
  · exact .cons (by omega) (by omega) .nil
  split
  · exact .cons (by omega) (by omega) .nil
  split
  · exact .cons (by omega) (by omega) .nil
  split
  · exact BytesIn.app (.cons (by omega) (by omega) k1) (.cons (by omega) (by omega) (.cons (by omega) (by omega) .nil))
  split
  · exact BytesIn.app (.cons (by omega) (by omega) k1) (.cons (by omega) (by omega) .nil)
  · have k2 := decT_by (v := hi) (by omega) (by omega)
    exact BytesIn.app (BytesIn.app (.cons (by omega) (by omega) k1) (.cons (by omega) (by omega) k2)) (.cons (by omega) (by omega) .nil)
/-! A printed tree is read again as itself. -/
theorem Gr.up {n m : Nat} {ts : List Tk} {T : Tr} (h : Gr n ts T) (hm : n ≤ m) (h3 : m ≤ 3) : Gr m ts T := by
  match n, m, h, hm, h3 with
  | 0, 0, h, _, _ => exact h
  | 0, 1, h, _, _ => exact h.atm
  | 0, 2, h, _, _ => exact h.atm.one
  | 0, 3, h, _, _ => exact h.atm.one.cat
  | 1, 1, h, _, _ => exact h
  | 1, 2, h, _, _ => exact h.one
  | 1, 3, h, _, _ => exact h.one.cat
  | 2, 2, h, _, _ => exact h
  | 2, 3, h, _, _ => exact h.cat
  | 3, 3, h, _, _ => exact h
  | n + 4, m, _, hm, h3 => omega
def RdAs (n : Nat) (t : List Int) (L : List El) : Prop := BytesIn t ∧ ∃ ts T, (∀ u, Lxs (t ++ u) ts u) ∧ Gr n ts T ∧ T.l = L
def lev (k : Int) : Nat := if k = 3 then 3 else if k = 2 then 2 else if k = 4 then 1 else 0
def PrT (t : Tx) (L : List El) : Prop := RdAs (lev t.1) t.2 L
theorem RdAs.up {n m : Nat} {t : List Int} {L : List El} (h : RdAs n t L) (hm : n ≤ m) (h3 : m ≤ 3) : RdAs m t L := by
  obtain ⟨hb, ts, T, h1, h2, h4⟩ := h
  exact ⟨hb, ts, T, h1, h2.up hm h3, h4⟩
theorem lev_le (k : Int) : lev k ≤ 3 := by
  unfold lev
  repeat' split
  all_goals omega
theorem lev_2 {k : Int} (h : ¬ k = 3) : lev k ≤ 2 := by
  unfold lev
  rw [if_neg h]
  repeat' split
  all_goals omega
theorem lev_1 {k : Int} (h : ¬ (k = 3 ∨ k = 2)) : lev k ≤ 1 := by
  unfold lev
  rw [if_neg (by omega), if_neg (by omega)]
  split <;> omega
theorem RdAs.par {n m : Nat} {t : List Int} {L : List El} (h : RdAs n t L) (hn : n ≤ 3) (h3 : m ≤ 3) : RdAs m (40 :: t ++ [41]) L := by
  obtain ⟨hb, ts, T, h1, h2, h4⟩ := h.up hn (Nat.le_refl 3)
  refine ⟨BytesIn.app (.cons (by omega) (by omega) hb) (.cons (by omega) (by omega) .nil), _, T, fun u => ?_, (Gr.grp h2).up (Nat.zero_le _) h3, h4⟩
  simp only [List.cons_append, List.append_assoc, List.nil_append]
  exact .cons (r := t ++ 41 :: u) rfl (Lxs.app (h1 (41 :: u)) (.cons (r := u) rfl (.nil _)))
theorem PrT.par {t : Tx} {L : List El} (h : PrT t L) (m : Nat) (h3 : m ≤ 3) (p : Prop) [Decidable p] (hp : ¬ p → lev t.1 ≤ m) : RdAs m (grp p t.2) L := by
  unfold grp
  by_cases q : p
  · rw [if_pos q]; exact RdAs.par h (lev_le _) h3
  · rw [if_neg q]; exact RdAs.up h (hp q) h3
theorem PrT.e : PrT (0, [40, 41]) [⟨0, [], 0, 0⟩] := ⟨.cons (by omega) (by omega) (.cons (by omega) (by omega) .nil), _, .e, fun u => .cons (r := 41 :: u) rfl (.cons (r := u) rfl (.nil _)), Gr.grp (ts := []) Gr.nil, rfl⟩
theorem PrT.s {xs : List Int} (hc : Canon xs) : PrT (1, setT xs) [⟨1, xs, 0, 0⟩] := ⟨setT_by hc, _, .s xs, fun u => .cons (r := u) (lx_setT hc u) (.nil _), Gr.set xs, rfl⟩
theorem PrT.rep {o : Tx} {L : List El} (h : PrT o L) {lo hi : Int} (h0 : 0 ≤ lo) (h1 : lo ≤ 250) (h2 : hi = -1 ∨ (lo ≤ hi ∧ hi ≤ 250)) : PrT (repX2 o lo hi) (L ++ [⟨4, [], lo, hi⟩]) := by
  obtain ⟨kb, ts, T, k1, k2, rfl⟩ := h.par 0 (by omega) (2 ≤ o.1) (fun q => by unfold lev; rw [if_neg (by omega), if_neg (by omega), if_neg (by omega)]; omega)
  refine ⟨kb.app (repT_by h0 h1 h2), _, _, fun u => ?_, Gr.rep lo hi k2, rfl⟩
  rw [repX2, List.append_assoc]
  exact Lxs.app (k1 _) (.cons (r := u) (lx_repT h0 h1 h2 u) (.nil _))
theorem PrT.cat {l r : Tx} {L R : List El} (h : PrT l L) (k : PrT r R) : PrT (catX2 l r) (L ++ R ++ [⟨2, [], 0, 0⟩]) := by
  obtain ⟨kb, ts, T, k1, k2, rfl⟩ := h.par 2 (by omega) (l.1 = 3) lev_2
  obtain ⟨jb, us, U, j1, j2, rfl⟩ := k.par 1 (by omega) (r.1 = 3 ∨ r.1 = 2) lev_1
  refine ⟨kb.app jb, _, _, fun u => ?_, Gr.more k2 j2, rfl⟩
  rw [catX2, List.append_assoc]
  exact Lxs.app (k1 _) (j1 u)
theorem PrT.alt {l r : Tx} {L R : List El} (h : PrT l L) (k : PrT r R) : PrT (altX2 l r) (L ++ R ++ [⟨3, [], 0, 0⟩]) := by
  obtain ⟨kb, ts, T, k1, k2, rfl⟩ := RdAs.up h (lev_le _) (Nat.le_refl 3)
  obtain ⟨jb, us, U, j1, j2, rfl⟩ := k.par 2 (by omega) (r.1 = 3) lev_2
  refine ⟨kb.app (.cons (by omega) (by omega) jb), _, _, fun u => ?_, Gr.alt k2 j2, rfl⟩
  rw [altX2, List.append_assoc]
  exact Lxs.app (k1 _) (.cons (r := grp (r.1 = 3) r.2 ++ u) rfl (j1 u))
def xPush (st : List (List El)) (x : El) : List (List El) :=
  if x.kind = 0 ∨ x.kind = 1 then [x] :: st else
  match st with
  | [] => []
  | [o] => if x.kind = 4 then [repX o x.mn x.mx] else [o]
  | r :: l :: b => if x.kind = 4 then repX r x.mn x.mx :: l :: b else (l ++ r ++ [x]) :: b
def xRun (st : List (List El)) : List El → List (List El)
  | [] => st
  | x :: r => xRun (xPush st x) r
theorem xRun_append (st : List (List El)) (a b : List El) : xRun st (a ++ b) = xRun (xRun st a) b := by
  induction a generalizing st with
  | nil => rfl
  | cons x r ih => simp [xRun, ih]
def SegX (seg L : List El) : Prop := ∀ st, xRun st seg = L :: st
theorem SegX.leaf {x : El} (h : x.kind = 0 ∨ x.kind = 1) : SegX [x] [x] := fun st => by simp only [xRun, xPush]; rw [if_pos h]
theorem SegX.bin {a b A B : List El} {x : El} (ha : SegX a A) (hb : SegX b B) (h : x.kind = 2 ∨ x.kind = 3) : SegX (a ++ b ++ [x]) (A ++ B ++ [x]) := fun st => by
  rw [xRun_append, xRun_append, ha, hb]
  simp only [xRun, xPush]
  rw [if_neg (by omega), if_neg (by omega)]
theorem SegX.rep {a A : List El} {x : El} (ha : SegX a A) (h : x.kind = 4) : SegX (a ++ [x]) (repX A x.mn x.mx) := fun st => by
  rw [xRun_append, ha]
  cases st with
  | nil => simp only [xRun, xPush]; rw [if_neg (by omega), if_pos h]
  | cons q st => simp only [xRun, xPush]; rw [if_neg (by omega), if_pos h]
theorem SegX.one {a A B : List El} (h : SegX a A) (k : SegX a B) : A = B := by
  have := (h []).symm.trans (k [])
  simpa using this
theorem canon_len {xs : List Int} (h : Canon xs) : xs.length ≤ 300 := by
  by_cases q : xs.length ≤ 258
  · omega
  · have h1 := canon_ge h 129 (by omega)
    have h2 := (h.2.1 (2 * 129) (by omega)).2
    omega
def wof (p : Nat → Bool) : Nat → Nat → Nat
  | 0 => fun _ => 0
  | n + 1 => if p n then (fun j => if j = n / 64 then wof p n (n / 64) ||| 2 ^ (n % 64) else wof p n j) else wof p n
theorem wof_fit (p : Nat → Bool) : ∀ n : Nat, Fit (wof p n)
  | 0 => fun j => by show 0 < 18446744073709551616; omega
  | n + 1 => fun j => by
    simp only [wof]
    split
    · by_cases e : j = n / 64
      · simp only [e, if_true]; exact or_lt _ _ (wof_fit p n _) (by omega)
      · simp only [e, if_false]; exact wof_fit p n j
    · exact wof_fit p n j
theorem wof_bt (p : Nat → Bool) (b : Nat) : ∀ n : Nat, Bt (wof p n) b = (decide (b < n) && p b)
  | 0 => by simp [wof, Bt]
  | n + 1 => by
    have ih := wof_bt p b n
    by_cases hp : p n = true
    · have e : wof p (n + 1) = (fun j => if j = n / 64 then wof p n (n / 64) ||| 2 ^ (n % 64) else wof p n j) := by simp [wof, hp]
      rw [e, bt_put, ih]
      by_cases e2 : b = n
      · subst e2; simp [hp]
      · have : b < n + 1 ↔ b < n := by omega
        simp [e2, this]
    · have e : wof p (n + 1) = wof p n := by simp [wof, hp]
      rw [e, ih]
      by_cases e2 : b = n
      · subst e2; simp [hp]
      · have : b < n + 1 ↔ b < n := by omega
        simp [this]
theorem words_ex {xs : List Int} (h : Canon xs) : ∃ g, WordsOf xs g := by
  refine ⟨wof (InP xs (xs.length / 2)) 256, wof_fit _ _, fun b => ?_⟩
  rw [wof_bt]
  by_cases hb : b < 256
  · simp [hb]
  · have : InP xs (xs.length / 2) b = false := by
      rw [Bool.eq_false_iff]
      intro q
      obtain ⟨j, h1, h2, h3⟩ := (inP_iff _ _ _).1 q
      have := (h.2.1 (2 * j + 1) (by omega)).2
      omega
    rw [this]; simp
theorem PushR.gg {G : Value → List El × Int → Prop} (hG : Clos G) {st st' : List (List El × Int)} {x : El} (h : PushR st x st') (ok : ElOk x) (hs : ∀ s ∈ st, ∃ u, G u s) : ∀ s ∈ st', ∃ u, G u s := by
  intro s hm
  obtain ⟨k, xs, mn, mx⟩ := x
  rcases h with ⟨hk, rfl⟩ | ⟨hk, b, l, r, rfl, rfl⟩ | ⟨hk, b, o, rfl, rfl⟩
  · simp only [List.mem_append, List.mem_singleton] at hm; rcases hm with hm | rfl
    · exact hs s hm
    · rcases ok with ⟨q1, q2, q3, q4⟩ | ⟨q1, q2, q3, q4⟩ | ⟨q1, q2, q3, q4, q5⟩ <;> simp only at hk q1 q2 q3 q4
      · subst q1 q3 q4
        obtain ⟨g, hg⟩ := words_ex q2
        exact ⟨_, hG.s q2 hg⟩
      · subst q3 q4
        obtain rfl := List.eq_nil_of_length_eq_zero q2
        obtain rfl : k = 0 := by omega
        exact ⟨_, hG.e⟩
      · omega
  · simp only [List.mem_append, List.mem_singleton] at hm; rcases hm with hm | rfl
    · exact hs s (by simp [hm])
    · obtain ⟨u, hu⟩ := hs l (by simp)
      obtain ⟨v, hv⟩ := hs r (by simp)
      rcases ok with ⟨q1, q2, q3, q4⟩ | ⟨q1, q2, q3, q4⟩ | ⟨q1, q2, q3, q4, q5⟩ <;> simp only at hk q1 q2 q3 q4
      · omega
      · subst q3 q4
        obtain rfl := List.eq_nil_of_length_eq_zero q2
        rcases hk with rfl | rfl
        · exact ⟨_, hG.cat hu hv⟩
        · exact ⟨_, hG.alt hu hv⟩
      · omega
  · simp only [List.mem_append, List.mem_singleton] at hm; rcases hm with hm | rfl
    · exact hs s (by simp [hm])
    · obtain ⟨u, hu⟩ := hs o (by simp)
      rcases ok with ⟨q1, q2, q3, q4⟩ | ⟨q1, q2, q3, q4⟩ | ⟨q1, q2, q3, q4, q5⟩ <;> simp only at hk q1 q2 q3 q4
      · omega
      · omega
      · subst hk
        obtain rfl := List.eq_nil_of_length_eq_zero q2
        exact ⟨_, hG.rep hu q3 q4 q5⟩
theorem valid_g {G : Value → List El × Int → Prop} (hG : Clos G) {xs : List El} (h : ValidT xs) : ∃ u c, G u (xs, c) := by
  obtain ⟨h1, ok, sh, c, hc1, hc2⟩ := h
  have key : ∀ k : Nat, k ≤ xs.length → ∃ st, flats st = xs.take k ∧ (∀ s ∈ st, SegM s.1 s.2) ∧ ∀ s ∈ st, ∃ u, G u s := by
    intro k
    induction k with
    | zero => intro _; exact ⟨[], by simp [flats], by simp, by simp⟩
    | succ k ih =>
      intro hk
      obtain ⟨st, hst, hok, hgx⟩ := ih (by omega)
      have hx := ok k (by omega)
      have h1 : wsum (xs.take (k + 1)) + wsum (xs.drop (k + 1)) = 1 := by rw [← wsum_append, List.take_append_drop]; exact sh.1
      have h2 := sh.2 (k + 1) (by omega) hk
      have h3 := wsum_flats (fun s hs => (hok s hs).ws)
      rw [hst] at h3
      rw [take_next (by omega), wsum_append, h3] at h1
      simp only [wsum] at h1
      obtain ⟨st', hp⟩ := PushR.ex (st := st) hx (by omega)
      exact ⟨st', by rw [hp.flats, hst, take_next (by omega)], hp.seg hx hok, hp.gg hG hx hgx⟩
  obtain ⟨st, hst, hok, hgx⟩ := key xs.length (Nat.le_refl _)
  rw [List.take_length] at hst
  have h3 := wsum_flats (fun s hs => (hok s hs).ws)
  rw [hst, sh.1] at h3
  obtain ⟨t, rfl⟩ := List.length_eq_one_iff.1 (show st.length = 1 by omega)
  obtain ⟨u, hu⟩ := hgx t (by simp)
  rw [flats_one] at hst
  obtain ⟨t1, t2⟩ := t
  simp only at hst
  subst hst
  exact ⟨u, t2, hu⟩
end Go.Proofs.YtcmofgehhdfifaaGreatDoor
