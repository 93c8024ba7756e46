import Derived.Test.YtcmofgehhdfifaaGreatDoorPk25
import Derived.Test.YtcmofgehhdfifaaGreatDoorPk26
import Derived.Test.YtcmofgehhdfifaaGreatDoorPs14
import Derived.Test.YtcmofgehhdfifaaGreatDoorPk20
namespace Go.Proofs.YtcmofgehhdfifaaGreatDoor
open Go.RowKit
theorem ElsAt.form {lo n : Nat} {w : World} {v : Value} {xs : List El} (h : ElsAt lo n w v xs) : ∃ a c, v = .slice a xs.length c := by
  obtain ⟨a, c, e, -⟩ := h
  exact ⟨a, c, e⟩
theorem numOf {n : Nat} {w : World} {v : Value} {xs : List El} (h : ElsAt 0 n w v xs) : Num xs := by
  intro i
  obtain ⟨a, c, e, -, hc⟩ := h
  by_cases hi : i < xs.length
  · obtain ⟨b, off, -, -, -, hel⟩ := hc (by omega)
    obtain ⟨h1, h2, h3, s, -, -, -, -, hs⟩ := hel i hi
    obtain ⟨_, _, _, _, h4, _⟩ := hs
    exact ⟨h1, h2, h3, h4⟩
  · rw [List.getElem?_eq_none (by omega)]
    simp [dE, In64]
theorem cod_take {cs : List Int} (h : Bytes cs) : Cod (cs.take 600) := fun x hx => by
  have hx' := List.mem_of_mem_take hx
  obtain ⟨i, hi, e⟩ := List.getElem_of_mem hx'
  have := h i
  rw [List.getElem?_eq_getElem hi, Option.getD_some, e] at this
  exact this
set_option maxHeartbeats 16000000 in
set_option maxRecDepth 100000 in
theorem lawPrint_any (cv : Value) (cs : List Int) (w : World) (hv : SlAt mB 0 0 w.heap.size w cv cs) (hcap : CapOk cv) (hb : Bytes cs) (htb : TB w.heap.size w) :
    Calls Tryz.prog 3 #[cv] w fun e w' => e = .returned (.bool true) ∧ Below w.heap.size w w' := by
  have HV := hide hv
  have HCP := hide hcap
  have HX := hide (cod_take hb)
  have HTB := hide htb
  obtain ⟨ca, cc, rfl, -⟩ := hv
  clear hcap hb htb
  by_cases hlen : (1048576 : Int) < (cs.length : Int)
  · go_enter Tryz.func3, Tryz.ntmps3
    go_wp2
    go_ret
    exact ⟨rfl, Below.refl _ _⟩
  obtain ⟨l, r, L, hR⟩ : ∃ (l r : Bool) (L : List El), dPrint (cs.take 600) = ((l, r), L) := ⟨_, _, _, rfl⟩
  have HR := hide hR
  clear hR
  go_enter Tryz.func3, Tryz.ntmps3
  go_wp2_with fail
  refine (drawPrint_any _ cs w (unhide HV) (unhide HCP) (unhide HX)).mono ?_
  rw [unhide HR]
  rintro e w1 ⟨⟨v1, rfl, hel1⟩, hb1⟩
  have HN := hide (numOf (hel1.mono (Nat.zero_le _) (Nat.le_refl _)))
  have HE1 := hide (hel1.mono (Nat.zero_le _) (Nat.le_refl _))
  obtain ⟨a1, c1, rfl⟩ := hel1.form
  have hz1 := hb1.size
  have HB1 := hide hb1
  have HP := hide (Bx3.new w1 25 (.bool l) (.bool r) (.slice a1 L.length c1))
  have HBW := hide (below1 w1 (.cells #[.bool l, .bool r, .slice a1 L.length c1] 25))
  have hzW : (w1.alloc (.cells #[.bool l, .bool r, .slice a1 L.length c1] 25)).heap.size = w1.heap.size + 1 := sz_alloc _ _
  clear hel1 hb1
  go_wp2_with fail
  generalize w1.alloc (.cells #[.bool l, .bool r, .slice a1 L.length c1] 25) = W1 at *
  have HEW := hide ((unhide HE1).below (unhide HBW) (Nat.le_refl _))
  have hzW1 : w1.heap.size < W1.heap.size := by omega
  clear hzW
  refine (specValid_any l r _ L W1 (unhide HEW)).mono ?_
  rintro e w2 ⟨hret, hb2⟩
  have hz2 := hb2.size
  have HB2 := hide ((unhide HB1).trans (((unhide HBW).mono hz1).trans (hb2.mono (by omega))))
  have HP2 := hide ((unhide HP).below hb2 hzW1)
  have HE2 := hide ((unhide HEW).below hb2 (Nat.le_refl _))
  clear hb2
  rcases hret.cases with ⟨rfl, hok⟩ | ⟨rfl, hbad⟩
  · have HOK := hide hok
    obtain ⟨p0, p1, p2⟩ := (unhide HP2).facts
    clear hret hok
    go_wp2_with fail
    refine (specPr_c l r _ L w2 (unhide HE2)).mono ?_
    rintro e w3 ⟨v3, T, rfl, hta, hsl3, ⟨a3, c3, rfl, hc3⟩, hb3⟩
    obtain ⟨t, hseg, hpr⟩ := valid_pr (unhide HOK)
    have eT : T = ptx l r t.2 := by
      rcases hta with ⟨-, x, hx, rfl⟩ | ⟨hn, -⟩
      · rw [SegT.one hx hseg]
      · exact absurd (unhide HOK) hn
    have HPR := hide hpr
    have HTX := hide eT
    have HTA := hide hta
    have hbT : BytesIn T := by rw [eT]; exact ptx_by l r hpr
    have HBT := hide hbT
    have hz3 := hb3.size
    have HB3 := hide ((unhide HB2).trans (hb3.mono (by omega)))
    have HP3 := hide ((unhide HP2).below hb3 (by omega))
    have HE3 := hide ((unhide HE2).below hb3 (Nat.le_refl _))
    have HS3 := hide hsl3
    clear p0 p1 p2 hta hseg hpr eT hbT hsl3 hb3
    go_wp2_with fail
    refine (specParse_any _ T w3 (unhide HS3) (unhide HBT) ⟨_, _, rfl, hc3⟩).mono ?_
    rintro e w4 ⟨l4, r4, v4, L4, c4, rfl, hpa, hel4, hb4⟩
    have HPA := hide hpa
    obtain ⟨a4, k4, e4, -⟩ := id hel4
    subst e4
    have hz4 := hb4.size
    have HB4 := hide ((unhide HB3).trans (hb4.mono (by omega)))
    have HP4 := hide ((unhide HP3).below hb4 (by omega))
    have HE4 := hide ((unhide HE3).below hb4 (Nat.le_refl _))
    have HBW4 := hide (below1 w4 (.cells #[.bool l4, .bool r4, .slice a4 L4.length k4] 25))
    have hzW4 : (w4.alloc (.cells #[.bool l4, .bool r4, .slice a4 L4.length k4] 25)).heap.size = w4.heap.size + 1 := sz_alloc _ _
    clear hpa hel4 hb4
    by_cases hc2 : c4 = 2
    · go_wp2
      go_ret
      exact ⟨rfl, (unhide HB4).trans ((unhide HBW4).mono (by omega))⟩
    · go_wp2_with fail
      generalize w4.alloc (.cells #[.bool l4, .bool r4, .slice a4 L4.length k4] 25) = W4 at *
      have hzW5 : w4.heap.size < W4.heap.size := by omega
      clear hzW4
      have HB5 := hide ((unhide HB4).trans ((unhide HBW4).mono (by omega)))
      have HP5 := hide ((unhide HP4).below (unhide HBW4) (by omega))
      have HE5 := hide ((unhide HE4).below (unhide HBW4) (Nat.le_refl _))
      have HV5 := hide ((unhide HV).cut (unhide HB5) (Nat.le_refl _))
      refine (drawPrint_any _ cs W4 (unhide HV5) (unhide HCP) (unhide HX)).mono ?_
      rw [unhide HR]
      rintro e w6 ⟨⟨v6, rfl, hel6⟩, hb6⟩
      have HD6 := hide (hel6.mono (lo' := 0) (Nat.zero_le _) (Nat.le_refl _))
      obtain ⟨a6, c6, rfl⟩ := hel6.form
      have hz6 := hb6.size
      have HB6 := hide ((unhide HB5).trans (hb6.mono (by omega)))
      have HP6 := hide ((unhide HP5).below hb6 (by omega))
      have HE6 := hide ((unhide HE5).below hb6 (Nat.le_refl _))
      have HTB6 : Hid (TB w6.heap.size w6) := fun w' h => unhide HTB w' ((unhide HB6).trans (h.mono (unhide HB6).size))
      clear hel6 hb6
      go_wp2_with fail
      refine (implPr_any l r _ L w6 (unhide HD6) (unhide HTB6)).mono ?_
      rintro e w7 ⟨v7, T7, rfl, hta7, hl7, hown7, hb7⟩
      have e7 : T7 = T := hta7.one (unhide HTA)
      subst e7
      have HS7 := hide (own_rdB hown7 (by unfold maxLen; omega))
      obtain ⟨a7, c7, rfl⟩ := own_is hown7
      have hz7 := hb7.size
      have HB7 := hide ((unhide HB6).trans (hb7.mono (by omega)))
      have HP7 := hide ((unhide HP6).below hb7 (by omega))
      have HE7 := hide ((unhide HE6).below hb7 (Nat.le_refl _))
      clear hta7 hown7 hb7
      go_wp2_with fail
      refine (implParse_any _ T7 w7 (unhide HS7) (unhide HBT)).mono ?_
      rintro e w8 ⟨l8, r8, v8, L8, c8, rfl, hpa8, hel8, hb8⟩
      obtain ⟨e81, e82, e83, e84⟩ := hpa8.one (unhide HPA)
      subst e81 e82 e83 e84
      have hpp := unhide HPA
      rw [unhide HTX] at hpp
      obtain ⟨q1, q2, q3, q4⟩ := print_read (unhide HPR) hpp hc2
      subst q1 q2 q3 q4
      have HT8 := hide (hel8.at (N := w8.heap.size) (fun k hk => hk.2) (unhide HN))
      obtain ⟨a8, k8, e8, -⟩ := id hel8
      subst e8
      have hz8 := hb8.size
      have HB8 := hide ((unhide HB7).trans (hb8.mono (by omega)))
      have HP8 := hide ((unhide HP7).below hb8 (by omega))
      have HE8 := hide ((unhide HE7).below hb8 (Nat.le_refl _))
      clear hpa8 hel8 hb8 hpp
      have HBW8 := hide (below1 w8 (.cells #[.bool l8, .bool r8, .slice a8 L8.length k8] 25))
      have HPW := hide ((unhide HP8).below (unhide HBW8) (by omega))
      obtain ⟨p0, p1, p2⟩ := unhide HPW |>.facts
      obtain ⟨s0, s1, s2⟩ := (unhide HP8).facts
      have hl18 : w1.heap.size < w8.heap.size := by omega
      have hn18 : ¬ w1.heap.size = w8.heap.size := by omega
      have HTW := hide ((unhide HT8).below (unhide HBW8) (Nat.le_refl _))
      have HEW8 := hide ((unhide HE8).below (unhide HBW8) (Nat.le_refl _))
      go_wp2_with fail
      refine (sameTree_same _ _ L8 _ (unhide HTW) (unhide HEW8)).mono ?_
      rintro e w9 ⟨rfl, q, rfl⟩
      go_wp2
      go_ret
      exact ⟨rfl, below_drewN ((unhide HB8).trans ((unhide HBW8).mono (by omega))) q⟩
  · clear hret hbad
    go_wp2
    go_ret
    exact ⟨rfl, unhide HB2⟩
end Go.Proofs.YtcmofgehhdfifaaGreatDoor
