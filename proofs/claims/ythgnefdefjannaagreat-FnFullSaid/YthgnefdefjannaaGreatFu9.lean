import Derived.Test.YthgnefdefjannaaGreatFu8
namespace Go.Proofs.YthgnefdefjannaaGreat
open Go.RowKit

set_option maxRecDepth 4000 in
theorem l5spoil_any (lo N D : Nat) (xs : List Int) (sv ov : Value) (ps qs : List (Cl Int)) (w : World) (hst : StL lo w sv ov ps qs) (hlo : lo ≤ w.heap.size) (h : CdAt N D w xs) (hx : Cod xs) (hD : D < lo) (l1 : ps.length ≤ 5) (l2 : qs.length ≤ 5) (hp : ∀ p ∈ ps, 0 < p.xs.length ∧ p.xs.length ≤ 1048576) :
    Calls Tryz.prog 28 #[.agg #[sv, ov], .pointer (some ⟨D, 0, none⟩)] w (SpOut lo N D w xs.tail.tail (spB (xs.headD 0 % 7).toNat (xs.tail.headD 0).toNat (ps.map Cl.xs)) (spO (xs.headD 0 % 7).toNat (xs.tail.headD 0).toNat (ps.map Cl.xs) (qs.map Cl.xs))) := by
  have hh := hx.head
  have hnil : ps.map Cl.xs = [] ↔ ps = [] := by simp
  rcases (show xs.headD 0 % 7 = 0 ∨ xs.headD 0 % 7 = 1 ∨ xs.headD 0 % 7 = 2 ∨ xs.headD 0 % 7 = 3 ∨ xs.headD 0 % 7 = 4 ∨ xs.headD 0 % 7 = 5 ∨ xs.headD 0 % 7 = 6 by omega) with hk | hk | hk | hk | hk | hk | hk
  · have e1 : ∀ v bss, spB (0 : Int).toNat v bss = bss := fun v bss => by
      by_cases hb : bss = []
      · simp [spB, hb]
      · simp [spB, hb]
    have e2 : ∀ v bss oss, spO (0 : Int).toNat v bss oss = oss ++ [[97, 10, 98]] := fun v bss oss => by simp [spO]
    have H := l5spoil_0 lo N D xs sv ov ps qs w hst hlo h hx hD l1 l2 hk
    rw [hk, e1, e2]
    exact H
  · by_cases h0 : ps = []
    · have H := l5spoil_none1 lo N D xs sv ov ps qs w hst hlo h hx hD l1 l2 hk h0
      have e1 : ∀ v, spB (1 : Int).toNat v ([] : List (List Int)) = [] := fun v => by simp [spB]
      have e2 : ∀ v oss, spO (1 : Int).toNat v ([] : List (List Int)) oss = oss ++ mny 2 20000 := fun v oss => by simp [spO]
      rw [hk]
      rw [hnil.2 h0] at H ⊢
      rw [e1, e2]
      exact H
    · have hpos : 0 < ps.length := List.length_pos_iff.2 h0
      have hlt : (xs.tail.headD 0).toNat % ps.length < ps.length := Nat.mod_lt _ hpos
      obtain ⟨p, hpi⟩ : ∃ p, ps[(xs.tail.headD 0).toNat % ps.length]? = some p := ⟨ps[(xs.tail.headD 0).toNat % ps.length], by simp⟩
      have H := l5spoil_1 lo N D xs sv ov ps qs w hst hlo h hx hD l1 l2 hk _ p rfl hpi (hp p (List.mem_of_getElem? hpi)).1 (hp p (List.mem_of_getElem? hpi)).2
      have hne : ¬ ps.map Cl.xs = [] := fun e => h0 (hnil.1 e)
      have e1 : spB (1 : Int).toNat (xs.tail.headD 0).toNat (ps.map Cl.xs) = (ps.map Cl.xs).set ((xs.tail.headD 0).toNat % ps.length) (flipB (xs.tail.headD 0).toNat p.xs) := by
        have e3 : (ps.map Cl.xs)[(xs.tail.headD 0).toNat % ps.length]?.getD [] = p.xs := by rw [List.getElem?_map, hpi]; rfl
        unfold spB
        rw [if_neg (by decide), if_neg hne, if_pos (by decide), List.length_map, e3]
      have e2 : spO (1 : Int).toNat (xs.tail.headD 0).toNat (ps.map Cl.xs) (qs.map Cl.xs) = qs.map Cl.xs := by
        unfold spO
        rw [if_neg (by decide), if_neg (by decide), if_neg (fun e => e.elim (by decide) (fun e => hne e.2))]
      rw [hk, e1, e2]
      exact H
  · by_cases h0 : ps = []
    · have H := l5spoil_none2 lo N D xs sv ov ps qs w hst hlo h hx hD l1 l2 hk h0
      have e1 : ∀ v, spB (2 : Int).toNat v ([] : List (List Int)) = [] := fun v => by simp [spB]
      have e2 : ∀ v oss, spO (2 : Int).toNat v ([] : List (List Int)) oss = oss ++ mny 2 20000 := fun v oss => by simp [spO]
      rw [hk]
      rw [hnil.2 h0] at H ⊢
      rw [e1, e2]
      exact H
    · have H := l5spoil_2 lo N D xs sv ov ps qs w hst hlo h hx hD l1 l2 hk h0
      have hne : ¬ ps.map Cl.xs = [] := fun e => h0 (hnil.1 e)
      have e1 : ∀ v, spB (2 : Int).toNat v (ps.map Cl.xs) = (ps.map Cl.xs).tail := fun v => by
        unfold spB
        rw [if_neg (by decide), if_neg hne, if_neg (by decide), if_pos (by decide)]
      have e2 : ∀ v, spO (2 : Int).toNat v (ps.map Cl.xs) (qs.map Cl.xs) = qs.map Cl.xs := fun v => by
        unfold spO
        rw [if_neg (by decide), if_neg (by decide), if_neg (fun e => e.elim (by decide) (fun e => hne e.2))]
      rw [hk, e1, e2]
      exact H
  · by_cases h0 : ps = []
    · have H := l5spoil_none3 lo N D xs sv ov ps qs w hst hlo h hx hD l1 l2 hk h0
      have e1 : ∀ v, spB (3 : Int).toNat v ([] : List (List Int)) = [] := fun v => by simp [spB]
      have e2 : ∀ v oss, spO (3 : Int).toNat v ([] : List (List Int)) oss = oss ++ mny 2 20000 := fun v oss => by simp [spO]
      rw [hk]
      rw [hnil.2 h0] at H ⊢
      rw [e1, e2]
      exact H
    · have hpos : 0 < ps.length := List.length_pos_iff.2 h0
      obtain ⟨m, hm⟩ : ∃ m, ps.length = m + 1 := ⟨ps.length - 1, by omega⟩
      have hlt : m < ps.length := by omega
      obtain ⟨p, hpi⟩ : ∃ p, ps[m]? = some p := ⟨ps[m], by simp [hlt]⟩
      have H := l5spoil_3 lo N D xs sv ov ps qs w hst hlo h hx hD l1 l2 hk m p hm hpi (hp p (List.mem_of_getElem? hpi)).1
      have hne : ¬ ps.map Cl.xs = [] := fun e => h0 (hnil.1 e)
      have e1 : ∀ v, spB (3 : Int).toNat v (ps.map Cl.xs) = ps.map Cl.xs ++ [p.xs] := fun v => by
        have e3 : (ps.map Cl.xs)[(ps.map Cl.xs).length - 1]?.getD [] = p.xs := by rw [List.length_map, hm, Nat.add_sub_cancel, List.getElem?_map, hpi]; rfl
        unfold spB
        rw [if_neg (by decide), if_neg hne, if_neg (by decide), if_neg (by decide), if_pos (by decide), e3]
      have e2 : ∀ v, spO (3 : Int).toNat v (ps.map Cl.xs) (qs.map Cl.xs) = qs.map Cl.xs := fun v => by
        unfold spO
        rw [if_neg (by decide), if_neg (by decide), if_neg (fun e => e.elim (by decide) (fun e => hne e.2))]
      rw [hk, e1, e2]
      exact H
  · have H := l5spoil_4 lo N D xs sv ov ps qs w hst hlo h hx hD l1 l2 hk
    have e1 : ∀ v bss, spB (4 : Int).toNat v bss = bss := fun v bss => by
      by_cases hb : bss = []
      · simp [spB, hb]
      · simp [spB, hb]
    have e2 : ∀ v bss oss, spO (4 : Int).toNat v bss oss = oss ++ mny (1000 - v % 3) 30 := fun v bss oss => by simp [spO]
    rw [hk, e1, e2]
    exact H
  · have H := l5spoil_5 lo N D xs sv ov ps qs w hst hlo h hx hD l1 l2 hk
    have e1 : ∀ v bss, spB (5 : Int).toNat v bss = bss ++ [[]] := fun v bss => by simp [spB]
    have e2 : ∀ v bss oss, spO (5 : Int).toNat v bss oss = oss := fun v bss oss => by simp [spO]
    rw [hk, e1, e2]
    exact H
  · have H := l5spoil_6 lo N D xs sv ov ps qs w hst hlo h hx hD l1 l2 hk
    have e1 : ∀ v bss, spB (6 : Int).toNat v bss = bss := fun v bss => by
      by_cases hb : bss = []
      · simp [spB, hb]
      · simp [spB, hb]
    have e2 : ∀ v bss oss, spO (6 : Int).toNat v bss oss = oss ++ mny 2 20000 := fun v bss oss => by simp [spO]
    rw [hk, e1, e2]
    exact H

/-- What l5drawAny draws. -/
def dA (E : Nat → List (List Int) → List Int) (xs : List Int) : List (List Int) × List (List Int) × List Int :=
  if xs.headD 0 % 8 = 0 then ([], [], xs.tail)
  else if xs.headD 0 % 8 = 1 then (spB ((dS xs.tail).2.2.headD 0 % 7).toNat ((dS xs.tail).2.2.tail.headD 0).toNat (dSegs E (dS xs.tail).1), spO ((dS xs.tail).2.2.headD 0 % 7).toNat ((dS xs.tail).2.2.tail.headD 0).toNat (dSegs E (dS xs.tail).1) (dS xs.tail).2.1, (dS xs.tail).2.2.tail.tail)
  else (dSegs E (dS xs.tail).1, (dS xs.tail).2.1, (dS xs.tail).2.2)

set_option maxHeartbeats 8000000 in
set_option maxRecDepth 100000 in
theorem l5drawAny_any (E : Nat → List (List Int) → List Int) (hE : EncE E) (N D : Nat) (xs : List Int) (w : World) (h : CdAt N D w xs) (hx : Cod xs) (hD : D < w.heap.size) :
    Calls Tryz.prog 14 #[.pointer (some ⟨D, 0, none⟩)] w (SpOut w.heap.size N D w (dA E xs).2.2 (dA E xs).1 (dA E xs).2.1) := by
  have HX := hide hx
  have hh := hx.head
  obtain ⟨y, hy⟩ : ∃ y, xs.headD 0 = y := ⟨_, rfl⟩
  rw [hy] at hh
  have HY := hide hy
  have hb0 := below1 w (.cells #[.slice none 0 0, .slice none 0 0] 25)
  have RR := Row2.new w 25 (.slice none 0 0) (.slice none 0 0)
  have hzV : (w.alloc (.cells #[.slice none 0 0, .slice none 0 0] 25)).heap.size = w.heap.size + 1 := sz_alloc _ _
  have H := hide (h.keep hb0 hD)
  by_cases h0 : y % 8 = 0
  · have e0 : dA E xs = ([], [], xs.tail) := by unfold dA; rw [hy, if_pos h0]
    rw [e0]
    clear hy h hx e0
    go_enter Tryz.func14, Tryz.ntmps14
    go_wp2_with fail
    generalize w.alloc (.cells #[.slice none 0 0, .slice none 0 0] 25) = V at *
    refine (next_any N D xs V (unhide H) (unhide HX)).mono ?_
    rintro e w1 ⟨he, hc1, ho1⟩
    rw [unhide HY] at he
    subst he
    have hM1 : Mv (w.heap.size + 1) D V w1 := ho1.mv _
    have RR1 := hide (RR.mv hM1 (Nat.lt_succ_self _) (by omega))
    have HC1 := hide hc1
    have hMw : Mv w.heap.size D w w1 := (Below.mv hb0 D).trans (hM1.mono (by omega))
    obtain ⟨r0, r1, r2, r3⟩ := (unhide RR1).facts4
    clear hc1 ho1 hM1 RR hzV
    go_wp2_with fail
    obtain ⟨e0, e1, -⟩ := (((unhide RR1).put0 (u := .slice none 0 0)).put1 (u := .slice none 0 0)).facts4
    have hP : Below w.heap.size w1 ((w1.setCell ⟨w.heap.size, 0, none⟩ (.slice none 0 0)).setCell ⟨w.heap.size, 1, none⟩ (.slice none 0 0)) := bput2 (Below.refl _ _) (Nat.le_refl _) _ _
    exact bodyPost_ret (v := .agg #[.slice none 0 0, .slice none 0 0]) (by simp [results, Tryz.results14, go_sem, e0, e1]) rfl ⟨⟨_, rfl, StD.zero _ _⟩, (unhide HC1).keep hP hD, hMw.trans (Below.mv hP D)⟩
  · by_cases h1 : y % 8 = 1
    · have e0 : dA E xs = (spB ((dS xs.tail).2.2.headD 0 % 7).toNat ((dS xs.tail).2.2.tail.headD 0).toNat (dSegs E (dS xs.tail).1), spO ((dS xs.tail).2.2.headD 0 % 7).toNat ((dS xs.tail).2.2.tail.headD 0).toNat (dSegs E (dS xs.tail).1) (dS xs.tail).2.1, (dS xs.tail).2.2.tail.tail) := by unfold dA; rw [hy, if_neg h0, if_pos h1]
      rw [e0]
      have HOK := hide (dS_ok hE xs.tail hx.tail)
      obtain ⟨R, hR⟩ : ∃ R, dS xs.tail = R := ⟨_, rfl⟩
      rw [hR] at HOK ⊢
      have HR := hide hR
      obtain ⟨B3, hB3⟩ : ∃ B3, spB (R.2.2.headD 0 % 7).toNat (R.2.2.tail.headD 0).toNat (dSegs E R.1) = B3 := ⟨_, rfl⟩
      obtain ⟨O3, hO3⟩ : ∃ O3, spO (R.2.2.headD 0 % 7).toNat (R.2.2.tail.headD 0).toNat (dSegs E R.1) R.2.1 = O3 := ⟨_, rfl⟩
      rw [hB3, hO3]
      have HB3 := hide hB3
      have HO3 := hide hO3
      clear hB3 hO3
      have HEE := hide hE
      clear hy h hx e0 hR hE
      go_enter Tryz.func14, Tryz.ntmps14
      go_wp2_with fail
      generalize w.alloc (.cells #[.slice none 0 0, .slice none 0 0] 25) = V at *
      refine (next_any N D xs V (unhide H) (unhide HX)).mono ?_
      rintro e w1 ⟨he, hc1, ho1⟩
      rw [unhide HY] at he
      subst he
      have hM1 : Mv (w.heap.size + 1) D V w1 := ho1.mv _
      have hz1 : w.heap.size + 1 ≤ w1.heap.size := by have := hM1.size; omega
      have RR1 := hide (RR.mv hM1 (Nat.lt_succ_self _) (by omega))
      have hMw : Mv w.heap.size D w w1 := (Below.mv hb0 D).trans (hM1.mono (by omega))
      clear ho1 hM1 RR hzV
      go_wp2_with fail
      refine (l5drawState_any E (unhide HEE) N D xs.tail w1 hc1 (unhide HX).tail (by omega)).mono ?_
      rintro e w2 ⟨⟨sv, ov, ps, qs, rfl, hst, hps, hqs⟩, hc2, hm2⟩
      rw [unhide HR] at hps hqs hc2
      have hz2 : w1.heap.size ≤ w2.heap.size := hm2.size
      have HST := hide hst
      have HPS := hide hps
      have HQS := hide hqs
      have RR2 := hide ((unhide RR1).mv hm2 (by omega) (by omega))
      have hM2 : Mv w.heap.size D w w2 := hMw.trans (hm2.mono (by omega))
      have hl1 : ps.length ≤ 5 := by have h9 := congrArg List.length hps; rw [List.length_map, show (dSegs E R.1).length = R.1.length from List.length_map _] at h9; have := (unhide HOK).1; omega
      have hl2 : qs.length ≤ 5 := by have h9 := congrArg List.length hqs; rw [List.length_map] at h9; have := (unhide HOK).2.2.1.1; omega
      have HPL : Hid (∀ p ∈ ps, 0 < p.xs.length ∧ p.xs.length ≤ 1048576) := fun p hp => by
        have h9 := (unhide HOK).2.1 p.xs (by rw [← hps]; exact List.mem_map_of_mem hp)
        omega
      obtain ⟨sa, sc, rfl⟩ := own_is hst.segs.own
      obtain ⟨oa, oc, rfl⟩ := own_is hst.opens.own
      have hb2 := below1 w2 (.cells #[.slice sa ps.length sc, .slice oa qs.length oc] 25)
      have HC2 := hide (hc2.keep hb2 (by omega))
      obtain ⟨f0, f1, -⟩ := (Row2.new w2 25 (.slice sa ps.length sc) (.slice oa qs.length oc)).facts4
      have hzV2 : (w2.alloc (.cells #[.slice sa ps.length sc, .slice oa qs.length oc] 25)).heap.size = w2.heap.size + 1 := sz_alloc _ _
      clear hc1 hc2 hm2 hst hps hqs
      go_wp2_with fail
      generalize w2.alloc (.cells #[.slice sa ps.length sc, .slice oa qs.length oc] 25) = V2 at *
      refine (l5spoil_any w1.heap.size N D R.2.2 _ _ ps qs V2 ((unhide HST).keep hb2 (Nat.le_refl _)) (by omega) (unhide HC2) (unhide HOK).2.2.2 (by omega) hl1 hl2 (unhide HPL)).mono ?_
      rintro e w3 ⟨⟨v3, rfl, hsd⟩, hc3, hm3⟩
      rw [unhide HPS, unhide HQS, unhide HB3, unhide HO3] at hsd
      have RR3 := hide (((unhide RR2).below hb2 (by omega)).mv hm3 (by omega) (by omega))
      have hM3 : Mv w.heap.size D w w3 := hM2.trans ((Below.mv (hb2.mono (by omega)) D).trans (hm3.mono (by omega)))
      have HC3 := hide hc3
      have HSD := hide hsd
      obtain ⟨a1, c1, a2, c2, rfl⟩ := hsd.rd.val
      obtain ⟨r0, r1, r2, r3⟩ := (unhide RR3).facts4
      clear hsd hc3 hm3 f0 f1
      go_wp2_with fail
      obtain ⟨e0, e1, -⟩ := (((unhide RR3).put0 (u := (.slice a1 B3.length c1))).put1 (u := (.slice a2 O3.length c2))).facts4
      have hP : Below w.heap.size w3 ((w3.setCell ⟨w.heap.size, 0, none⟩ (.slice a1 B3.length c1)).setCell ⟨w.heap.size, 1, none⟩ (.slice a2 O3.length c2)) := bput2 (Below.refl _ _) (Nat.le_refl _) _ _
      exact bodyPost_ret (v := .agg #[(.slice a1 B3.length c1), (.slice a2 O3.length c2)]) (by simp [results, Tryz.results14, go_sem, e0, e1]) rfl ⟨⟨_, rfl, ((((unhide HSD).put (by omega)).put (by omega))).low (by omega)⟩, (unhide HC3).keep hP hD, hM3.trans (Below.mv hP D)⟩
    · have e0 : dA E xs = (dSegs E (dS xs.tail).1, (dS xs.tail).2.1, (dS xs.tail).2.2) := by unfold dA; rw [hy, if_neg h0, if_neg h1]
      rw [e0]
      obtain ⟨R, hR⟩ : ∃ R, dS xs.tail = R := ⟨_, rfl⟩
      rw [hR]
      have HR := hide hR
      have HEE := hide hE
      clear hy h hx e0 hR hE
      go_enter Tryz.func14, Tryz.ntmps14
      go_wp2_with fail
      generalize w.alloc (.cells #[.slice none 0 0, .slice none 0 0] 25) = V at *
      refine (next_any N D xs V (unhide H) (unhide HX)).mono ?_
      rintro e w1 ⟨he, hc1, ho1⟩
      rw [unhide HY] at he
      subst he
      have hM1 : Mv (w.heap.size + 1) D V w1 := ho1.mv _
      have hz1 : w.heap.size + 1 ≤ w1.heap.size := by have := hM1.size; omega
      have RR1 := hide (RR.mv hM1 (Nat.lt_succ_self _) (by omega))
      have hMw : Mv w.heap.size D w w1 := (Below.mv hb0 D).trans (hM1.mono (by omega))
      clear ho1 hM1 RR hzV
      go_wp2_with fail
      refine (l5drawState_any E (unhide HEE) N D xs.tail w1 hc1 (unhide HX).tail (by omega)).mono ?_
      rintro e w2 ⟨⟨sv, ov, ps, qs, rfl, hst, hps, hqs⟩, hc2, hm2⟩
      rw [unhide HR] at hps hqs hc2
      have hz2 : w1.heap.size ≤ w2.heap.size := hm2.size
      have hsd := hst.d
      rw [hps, hqs] at hsd
      have RR2 := (unhide RR1).mv hm2 (by omega) (by omega)
      have hM2 : Mv w.heap.size D w w2 := hMw.trans (hm2.mono (by omega))
      obtain ⟨sa, sc, rfl⟩ := own_is hst.segs.own
      obtain ⟨oa, oc, rfl⟩ := own_is hst.opens.own
      have hb2 := below1 w2 (.cells #[.slice sa ps.length sc, .slice oa qs.length oc] 25)
      have HSD := hide (hsd.keep hb2 (Nat.le_refl _))
      have HC3 := hide (hc2.keep hb2 (by omega))
      have RR3 := hide (RR2.below hb2 (by omega))
      obtain ⟨r0, r1, r2, r3⟩ := (unhide RR3).facts4
      obtain ⟨f0, f1, -⟩ := (Row2.new w2 25 (.slice sa ps.length sc) (.slice oa qs.length oc)).facts4
      have hM3 : Mv w.heap.size D w (w2.alloc (.cells #[.slice sa ps.length sc, .slice oa qs.length oc] 25)) := hM2.trans (Below.mv (hb2.mono (by omega)) D)
      clear hc1 hc2 hm2 hst hps hqs hsd RR2
      go_wp2_with fail
      generalize w2.alloc (.cells #[.slice sa ps.length sc, .slice oa qs.length oc] 25) = w3 at *
      obtain ⟨e0, e1, -⟩ := (((unhide RR3).put0 (u := .slice sa ps.length sc)).put1 (u := .slice oa qs.length oc)).facts4
      have hP : Below w.heap.size w3 ((w3.setCell ⟨w.heap.size, 0, none⟩ (.slice sa ps.length sc)).setCell ⟨w.heap.size, 1, none⟩ (.slice oa qs.length oc)) := bput2 (Below.refl _ _) (Nat.le_refl _) _ _
      exact bodyPost_ret (v := .agg #[.slice sa ps.length sc, .slice oa qs.length oc]) (by simp [results, Tryz.results14, go_sem, e0, e1]) rfl ⟨⟨_, rfl, ((((unhide HSD).put (by omega)).put (by omega))).low (by omega)⟩, (unhide HC3).keep hP hD, hM3.trans (Below.mv hP D)⟩

end Go.Proofs.YthgnefdefjannaaGreat
