import Derived.Test.YtbgjgaejfkdceaaGreatMg4
namespace Go.Proofs.YtbgjgaejfkdceaaGreat
open Go.RowKit

set_option maxRecDepth 100000 in
theorem mergeC_of (KB BX : Nat) (k : Int) (w : World) (hT : Boxed w KB 3 (.int .i64 k)) (Pt : Int → World → Prop) (hM : Calls Tryz.prog 34 #[.pointer (some ⟨BX, 0, none⟩), .int .i64 k] w fun e w' => ∃ c, e = .returned (.int .i64 c) ∧ Pt c w') :
    Calls Tryz.prog 33 #[.pointer (some ⟨BX, 0, none⟩), .pointer (some ⟨KB, 0, none⟩)] w fun e w' => ∃ c, e = .returned (.int .i64 c) ∧ Pt c w' := by
  have hc : w.cell? ⟨KB, 0, none⟩ = some (.int .i64 k) := by unfold Boxed at hT; simp [World.cell?, hT]
  have HM := hide hM
  clear hM hT
  go_enter Tryz.func33, Tryz.ntmps33
  go_wp2_with fail
  refine (unhide HM).mono ?_
  rintro e w1 ⟨c, rfl, h⟩
  have K := hide h
  clear h
  go_wp2
  go_ret
  exact ⟨c, rfl, unhide K⟩

theorem mergeC_any (KB BX H : Nat) (ss : List Sv) (bss oss : List (List Int)) (lr br k : Int) (w : World) (hat : StoreAt BX H w ss oss lr br) (hst : StS bss oss (ss.map Sv.g)) (hby : ∀ x ∈ bss, Bytes x) (hT : Boxed w KB 3 (.int .i64 k)) (hk1 : -9223372036854775808 ≤ k) (hk2 : k ≤ 9223372036854775807) :
    Calls Tryz.prog 33 #[.pointer (some ⟨BX, 0, none⟩), .pointer (some ⟨KB, 0, none⟩)] w fun e w' => ChgOk BX e w' (MergeIs bss oss k) ∧ Below BX w w' := by
  obtain ⟨s1, s2, s3, s4, s5, s6⟩ := stO_all hst hby
  rw [List.length_map] at s3
  have hE : ∀ s ∈ ss, EncIn s.g.b s.g.xs s.g.ks s.g.pss := fun s hs => (s2 s.g (List.mem_map_of_mem hs)).1.1
  have e1 : ss.map (fun s => encG s.g) = bss := by rw [← s1, List.map_map]; rfl
  refine (mergeC_of KB BX k w hT (fun c w' => (∃ ss2 oss2, StoreRd BX w' ss2 oss2 ∧ (∀ s ∈ ss2, EncIn s.g.b s.g.xs s.g.ks s.g.pss) ∧ ss2.length ≤ 1000 ∧ MergeIs bss oss k (ss2.map (fun s => encG s.g)) oss2 c) ∧ Below BX w w') ?_).mono ?_
  · by_cases hr : 0 ≤ k ∧ k + 1 < ss.length
    · obtain ⟨kk, rfl⟩ : ∃ kk : Nat, k = kk := ⟨k.toNat, by omega⟩
      have hkk : kk + 1 < ss.length := by omega
      obtain ⟨g, g', hg, hg', hJ, hi, hi', hF, hB2, hl2, -⟩ := pair_ok hst hby (k := kk) (by rw [List.length_map]; omega)
      obtain ⟨x, hx, rfl⟩ : ∃ x, ss[kk]? = some x ∧ x.g = g := by rw [List.getElem?_map] at hg; exact Option.map_eq_some_iff.1 hg
      obtain ⟨y, hy, rfl⟩ : ∃ y, ss[kk + 1]? = some y ∧ y.g = g' := by rw [List.getElem?_map] at hg'; exact Option.map_eq_some_iff.1 hg'
      have hss : ss = ss.take kk ++ ([x, y] ++ ss.drop (kk + 2)) := by
        have h0 : ss.drop kk = x :: ss.drop (kk + 1) := by rw [List.getElem?_eq_getElem (by omega)] at hx; rw [List.drop_eq_getElem_cons (by omega), Option.some.inj hx]
        have h1 : ss.drop (kk + 1) = y :: ss.drop (kk + 1 + 1) := by rw [List.getElem?_eq_getElem hkk] at hy; rw [List.drop_eq_getElem_cons hkk, Option.some.inj hy]
        have h2 := List.take_append_drop kk ss
        rw [h0, h1] at h2
        exact h2.symm
      have hAl : (ss.take kk).length = kk := by rw [List.length_take]; omega
      have hCl : (ss.drop (kk + 2)).length = ss.length - (kk + 2) := List.length_drop ..
      refine (mergeIn_any BX H kk (ss.take kk) (ss.drop (kk + 2)) x y oss lr br w hAl (by rw [← hss]; exact hat) (by omega) hJ hi hi' hF).mono ?_
      rintro e w' ⟨rfl, hb, t, ks, pss, ht, hsr, hbd, hrd⟩
      refine ⟨0, rfl, ⟨_, oss, hrd, fun s hs => ?_, ?_, Or.inr (Or.inr ⟨ss.map Sv.g, x.g, y.g, ks, pss, hst, ⟨by omega, by rw [List.length_map]; omega⟩, hg, hg', hsr, ?_, rfl, rfl⟩)⟩, hb⟩
      · simp only [List.mem_append, List.mem_cons, List.not_mem_nil, or_false] at hs
        rcases hs with h | rfl | h
        · exact hE s (List.mem_of_mem_take h)
        · rw [ht]; exact built_enc hF hsr hB2 hbd.1 hbd.2
        · exact hE s (List.mem_of_mem_drop h)
      · simp only [List.length_append, List.length_cons, List.length_nil]; omega
      · have hbl : bss.length = ss.length := by rw [← e1, List.length_map]
        rw [show ((kk : Nat) : Int).toNat = kk by omega, outK_all kk _ bss (by omega), ← e1]
        simp only [List.map_append, List.map_cons, List.map_nil, List.map_take, List.map_drop]
        have : encG t.g = encL x.g.b (x.g.xs ++ y.g.xs) ks pss := by rw [ht]; rfl
        rw [this]
    · refine (mergeOut_any BX H ss oss lr br k w hat (by omega) hk1 hk2 hr).mono ?_
      rintro e w' ⟨rfl, hb, hrd⟩
      exact ⟨7, rfl, ⟨ss, oss, hrd, hE, by omega, Or.inr (Or.inl ⟨_, hst, by rw [List.length_map]; exact hr, e1, rfl, rfl⟩)⟩, hb⟩
  · rintro e w' ⟨c, rfl, ⟨ss2, oss2, h1, h2, h3, h4⟩, hb⟩
    exact ⟨⟨c, ss2, oss2, rfl, h1, h2, h3, h4⟩, hb⟩

set_option maxHeartbeats 8000000 in
set_option maxRecDepth 100000 in
theorem changedMerge_any (KB : Nat) (v : Value) (bss oss : List (List Int)) (w : World) (P R : List (List Int) → List (List Int) → Int → Prop) (hv : StRd w v bss oss) (hby : ∀ x ∈ bss, Bytes x) (hbo : ∀ x ∈ oss, Bytes x) (t1 : tot bss ≤ 1048576) (l1 : bss.length ≤ 1048576) (t2 : tot oss ≤ 1048576) (l2 : oss.length ≤ 1048576)
    (hno : StN bss oss → P [] [] 4) (hRP : ∀ b o c, R b o c → P b o c)
    (hch : ∀ (BX H : Nat) (ss : List Sv) (w1 : World), Below w.heap.size w w1 → StS bss oss (ss.map Sv.g) → LastOk (ss.map Sv.g) → StoreAt BX H w1 ss oss (1000 - ((nL (ss.map Sv.g) : Nat) : Int) - oss.length) (20000 - ((nB (ss.map Sv.g) : Nat) : Int) - tot oss) →
      Calls Tryz.prog 33 #[.pointer (some ⟨BX, 0, none⟩), .pointer (some ⟨KB, 0, none⟩)] w1 fun e w' => ChgOk BX e w' R ∧ Below BX w1 w') :
    Calls Tryz.prog 24 #[v, .func (.func 33) #[] #[.pointer (some ⟨KB, 0, none⟩)]] w fun e w' => StGot e w w' P ∧ Below w.heap.size w w' := by
  have HV := hide hv
  have HB := hide hby
  have HBO := hide hbo
  have HCH := hide hch
  have HNO := hide hno
  have HRP := hide hRP
  obtain ⟨sv, ov, rfl, u1, u2⟩ := hv
  obtain ⟨a1, c1, rfl, -⟩ := id u1
  obtain ⟨a2, c2, rfl, -⟩ := id u2
  clear u1 u2 hby hbo hch hno hRP
  have hb0 := below2 w (.cells #[.slice a1 bss.length c1, .slice a2 oss.length c2] 27) (.cells #[.slice none 0 0, .slice none 0 0] 27)
  have RA := (Row2.new w 27 (.slice a1 bss.length c1) (.slice a2 oss.length c2)).alloc (.cells #[.slice none 0 0, .slice none 0 0] 27)
  have RR := Row2.new (w.alloc (.cells #[.slice a1 bss.length c1, .slice a2 oss.length c2] 27)) 27 (.slice none 0 0) (.slice none 0 0)
  rw [sz_alloc] at RR
  have hzV : ((w.alloc (.cells #[.slice a1 bss.length c1, .slice a2 oss.length c2] 27)).alloc (.cells #[.slice none 0 0, .slice none 0 0] 27)).heap.size = w.heap.size + 2 := by simp
  go_enter Tryz.func24, Tryz.ntmps24
  go_wp2_with fail
  generalize (w.alloc (.cells #[.slice a1 bss.length c1, .slice a2 oss.length c2] 27)).alloc (.cells #[.slice none 0 0, .slice none 0 0] 27) = V at *
  have hVz : w.heap.size + 2 ≤ V.heap.size := by omega
  have HRR := hide RR
  clear hzV RA RR
  refine (storeOf_any _ bss oss V ((unhide HV).below hb0 (Nat.le_refl _)) (unhide HB) (unhide HBO) t1 l1 t2 l2).mono ?_
  rintro e w1 ⟨hg, hb1⟩
  have hz1' := hb1.size
  have hB1 : Below w.heap.size w w1 := hb0.trans (hb1.mono (by omega))
  have RR1 := hide ((unhide HRR).below hb1 (by omega))
  clear HRR hb0 hb1
  rcases hg with ⟨BX, H, ss, rfl, hst, hla, hBX, hat⟩ | ⟨rfl, hst⟩
  · have HST := hide hst
    have HLA := hide hla
    have HAT := hide hat
    clear hst hla hat
    go_wp2_with fail
    refine (unhide HCH BX H ss w1 hB1 (unhide HST) (unhide HLA) (unhide HAT)).mono ?_
    rintro e w2 ⟨⟨c, ss2, oss2, rfl, hrd, hen, hl, hR⟩, hb2⟩
    have hz2 := hb2.size
    have RR2 := hide ((unhide RR1).below hb2 (by omega))
    have hB2 : Below w.heap.size w w2 := hB1.trans (hb2.mono (by omega))
    obtain ⟨sg, oa, on, oc, lr, br, ps, k1, k2, k3, k4⟩ := hrd
    have HK1 := hide k1
    have HK2 := hide k2
    have HK3 := hide k3
    have HK4 := hide k4
    have HEN := hide hen
    have HR := hide hR
    clear k1 k2 k3 k4 hen hR hb2 RR1 HAT HCH
    go_wp2_with fail
    refine (state_any BX (BX + 1) sg oa on oc lr br ss2 w2 (unhide HK1) (unhide HK2) (unhide HEN) hl).mono ?_
    rintro e w3 ⟨⟨sv3, ps3, rfl, hps3, hl3⟩, hb3⟩
    have hz3 := hb3.size
    have RR3 := hide ((unhide RR2).below hb3 (by omega))
    have hB3 : Below w.heap.size w w3 := hB2.trans (hb3.mono (by omega))
    have HP3 := hide hps3
    have HL3 := hide hl3
    have HO3 := hide ((LB.footR (unhide HK3)).keep hb3 (Nat.le_refl _))
    obtain ⟨p1, q1, rfl⟩ := own_is hl3.own
    obtain ⟨r0, r1, r2, r3⟩ := (unhide RR3).facts4
    clear hps3 hl3 RR2
    go_wp2_with fail
    obtain ⟨e0, e1, -⟩ := (((unhide RR3).put0 (u := .slice p1 ps3.length q1)).put1 (u := .slice oa on oc)).facts4
    refine bodyPost_ret (v := .tuple #[.agg #[.slice p1 ps3.length q1, .slice oa on oc], .int .i64 c]) (by simp [results, Tryz.results24, go_sem, e0, e1]) rfl ⟨⟨_, ss2.map (fun s => encG s.g), oss2, c, rfl, unhide HRP _ _ _ (unhide HR), ?_⟩, bput2 hB3 (by omega) _ _⟩
    refine ⟨_, _, Rng w2.heap.size w3.heap.size, Rng (BX + 1) w2.heap.size, rfl, ?_, ?_, fun k hk => ?_, fun k hk h => ?_⟩
    · have h1 := LB.footR (unhide HL3)
      rw [unhide HP3] at h1
      exact (h1.putR (b := w.heap.size + 1) (Or.inl (by omega))).putR (b := w.heap.size + 1) (Or.inl (by omega))
    · have h1 := unhide HO3
      rw [unhide HK4] at h1
      exact (h1.putR (b := w.heap.size + 1) (Or.inl (by omega))).putR (b := w.heap.size + 1) (Or.inl (by omega))
    · simp only [sz_put]
      unfold Rng at hk
      omega
    · unfold Rng at *
      omega
  · have HST := hide hst
    obtain ⟨r0, r1, r2, r3⟩ := (unhide RR1).facts4
    clear hst
    go_wp2_with fail
    obtain ⟨e0, e1, -⟩ := (((unhide RR1).put0 (u := .slice none 0 0)).put1 (u := .slice none 0 0)).facts4
    exact bodyPost_ret (v := .tuple #[.agg #[.slice none 0 0, .slice none 0 0], .int .i64 4]) (by simp [results, Tryz.results24, go_sem, e0, e1]) rfl ⟨⟨_, [], [], 4, rfl, unhide HNO (unhide HST), StF.zero _ _ _⟩, bput2 hB1 (by omega) _ _⟩

set_option maxHeartbeats 4000000 in
set_option maxRecDepth 100000 in
theorem implMergeSt_any (v : Value) (k : Int) (bss oss : List (List Int)) (w : World) (hv : StRd w v bss oss) (hby : ∀ x ∈ bss, Bytes x) (hbo : ∀ x ∈ oss, Bytes x) (t1 : tot bss ≤ 1048576) (l1 : bss.length ≤ 1048576) (t2 : tot oss ≤ 1048576) (l2 : oss.length ≤ 1048576) (hk1 : -9223372036854775808 ≤ k) (hk2 : k ≤ 9223372036854775807) :
    Calls Tryz.prog 16 #[v, .int .i64 k] w fun e w' => StGot e w w' (MergeIs bss oss k) ∧ Below w.heap.size w w' := by
  have HV := hide hv
  have HB := hide hby
  have HBO := hide hbo
  obtain ⟨sv, ov, rfl, u1, u2⟩ := hv
  obtain ⟨a1, c1, rfl, -⟩ := id u1
  obtain ⟨a2, c2, rfl, -⟩ := id u2
  clear u1 u2 hby hbo
  have hb0 := below3 w (.cells #[.slice a1 bss.length c1, .slice a2 oss.length c2] 27) (.cells #[.int .i64 k] 3) (.cells #[.slice none 0 0, .slice none 0 0] 27)
  have RT := (Boxed.new (w.alloc (.cells #[.slice a1 bss.length c1, .slice a2 oss.length c2] 27)) 3 (.int .i64 k)).alloc (.cells #[.slice none 0 0, .slice none 0 0] 27)
  have RR := Row2.new ((w.alloc (.cells #[.slice a1 bss.length c1, .slice a2 oss.length c2] 27)).alloc (.cells #[.int .i64 k] 3)) 27 (.slice none 0 0) (.slice none 0 0)
  rw [sz_alloc] at RT
  rw [sz_alloc, sz_alloc] at RR
  have hzV : (((w.alloc (.cells #[.slice a1 bss.length c1, .slice a2 oss.length c2] 27)).alloc (.cells #[.int .i64 k] 3)).alloc (.cells #[.slice none 0 0, .slice none 0 0] 27)).heap.size = w.heap.size + 3 := by simp
  go_enter Tryz.func16, Tryz.ntmps16
  go_wp2_with fail
  generalize ((w.alloc (.cells #[.slice a1 bss.length c1, .slice a2 oss.length c2] 27)).alloc (.cells #[.int .i64 k] 3)).alloc (.cells #[.slice none 0 0, .slice none 0 0] 27) = V at *
  have hVz : w.heap.size + 3 ≤ V.heap.size := by omega
  have HRR := hide RR
  have HRT := hide RT
  clear hzV RR RT
  refine (changedMerge_any (w.heap.size + 1) _ bss oss V (MergeIs bss oss k) (MergeIs bss oss k) ((unhide HV).below hb0 (Nat.le_refl _)) (unhide HB) (unhide HBO) t1 l1 t2 l2 (fun h => Or.inl ⟨h, rfl, rfl, rfl⟩) (fun _ _ _ h => h) ?_).mono ?_
  · intro BX H ss w1 hbV hst hla hat
    exact mergeC_any (w.heap.size + 1) BX H ss bss oss _ _ k w1 hat hst (unhide HB) (Boxed.under (unhide HRT) hbV (by omega)) hk1 hk2
  · rintro e w1 ⟨⟨v1, b, o, c, rfl, hP, hF⟩, hb1⟩
    have hz1 := hb1.size
    have hB1 : Below w.heap.size w w1 := hb0.trans (hb1.mono (by omega))
    have RR1 := hide ((unhide HRR).below hb1 (by omega))
    have HP := hide hP
    have HF := hide hF
    obtain ⟨p1, q1, p2, q2, rfl⟩ := (hF.rd (Nat.le_refl _)).val
    obtain ⟨r0, r1, r2, r3⟩ := (unhide RR1).facts4
    clear hP hF HRR
    go_wp2_with fail
    obtain ⟨e0, e1, -⟩ := (((unhide RR1).put0 (u := .slice p1 b.length q1)).put1 (u := .slice p2 o.length q2)).facts4
    refine bodyPost_ret (v := .tuple #[.agg #[.slice p1 b.length q1, .slice p2 o.length q2], .int .i64 c]) (by simp [results, Tryz.results16, go_sem, e0, e1]) rfl ⟨⟨_, b, o, c, rfl, unhide HP, ?_⟩, bput2 hB1 (b := w.heap.size + 1 + 1) (by omega) _ _⟩
    simp only [sz_put]
    exact (((unhide HF).put (b := w.heap.size + 1 + 1) (Or.inl (by omega))).put (b := w.heap.size + 1 + 1) (Or.inl (by omega))).low (by omega) (Nat.le_refl _)

end Go.Proofs.YtbgjgaejfkdceaaGreat
