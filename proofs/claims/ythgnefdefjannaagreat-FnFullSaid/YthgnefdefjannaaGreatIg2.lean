import Derived.Test.YthgnefdefjannaaGreatIg1
namespace Go.Proofs.YthgnefdefjannaaGreat
open Go.RowKit

set_option maxRecDepth 100000 in
theorem ingestC_any (TB BX H : Nat) (ss : List Sv) (oss : List (List Int)) (lr br : Int) (tv : Value) (bs : List Int) (w : World) (hst : StoreAt BX H w ss oss lr br) (r0 : 0 ≤ lr) (r1 : lr ≤ 1000) (r2 : 0 ≤ br) (r3 : br ≤ 20000) (hol : oss.length ≤ 1000) (hT : Boxed w TB 22 tv) (htv : SlAt mB 0 0 w.heap.size w tv bs) (hcap : CapOk tv) (hbb : Bytes bs) (hl : bs.length ≤ 1048576) :
    Calls Tryz.prog 21 #[.pointer (some ⟨BX, 0, none⟩), .pointer (some ⟨TB, 0, none⟩)] w fun e w' => Below BX w w' ∧
      ((((lns bs).length : Int) ≤ lr ∧ (tot (lns bs) : Int) ≤ br ∧ e = .returned (.int .i64 0) ∧ StoreRd BX w' ss (oss ++ lns bs)) ∨ (¬ (((lns bs).length : Int) ≤ lr ∧ (tot (lns bs) : Int) ≤ br) ∧ e = .returned (.int .i64 6) ∧ StoreRd BX w' ss oss)) := by
  have hc : w.cell? ⟨TB, 0, none⟩ = some tv := by unfold Boxed at hT; simp [World.cell?, hT]
  have HS := hide hst
  have HTV := hide htv
  obtain ⟨ta, tc, rfl, -, -⟩ := htv
  have HI := hide (ingest_any BX H ss oss lr br _ bs w hst r0 r1 r2 r3 hol (unhide HTV) hcap hbb hl)
  clear hst hcap hbb hT
  go_enter Tryz.func21, Tryz.ntmps21
  go_wp2_with fail
  refine (unhide HI).mono ?_
  rintro e w1 ⟨hb, h⟩
  rcases h with ⟨k1, k2, rfl, k3⟩ | ⟨k1, rfl, k3⟩
  · have K := hide (And.intro k1 (And.intro k2 k3))
    clear k1 k2 k3
    go_wp2
    go_ret
    exact ⟨hb, Or.inl ⟨(unhide K).1, (unhide K).2.1, rfl, (unhide K).2.2⟩⟩
  · have K := hide k3
    have K1 : Hid (((lns bs).length : Int) ≤ lr ∧ (tot (lns bs) : Int) ≤ br → False) := k1
    clear k1 k3
    go_wp2
    go_ret
    exact ⟨hb, Or.inr ⟨fun h => unhide K1 h, rfl, unhide K⟩⟩

set_option maxHeartbeats 8000000 in
set_option maxRecDepth 100000 in
theorem changedIngest_any (TB : Nat) (v : Value) (bss oss : List (List Int)) (w : World) (P R : List (List Int) → List (List Int) → Int → Prop) (hv : StRd w v bss oss) (hby : ∀ x ∈ bss, Bytes x) (hbo : ∀ x ∈ oss, Bytes x) (t1 : tot bss ≤ 1048576) (l1 : bss.length ≤ 1048576) (t2 : tot oss ≤ 1048576) (l2 : oss.length ≤ 1048576)
    (hno : StN bss oss → P [] [] 4) (hRP : ∀ b o c, R b o c → P b o c)
    (hch : ∀ (BX H : Nat) (ss : List Sv) (w1 : World), Below w.heap.size w w1 → StS bss oss (ss.map Sv.g) → LastOk (ss.map Sv.g) → StoreAt BX H w1 ss oss (1000 - ((nL (ss.map Sv.g) : Nat) : Int) - oss.length) (20000 - ((nB (ss.map Sv.g) : Nat) : Int) - tot oss) →
      Calls Tryz.prog 21 #[.pointer (some ⟨BX, 0, none⟩), .pointer (some ⟨TB, 0, none⟩)] w1 fun e w' => ChgOk BX e w' R ∧ Below BX w1 w') :
    Calls Tryz.prog 20 #[v, .func (.func 21) #[] #[.pointer (some ⟨TB, 0, none⟩)]] w fun e w' => StGot e w w' P ∧ Below w.heap.size w w' := by
  have HV := hide hv
  have HB := hide hby
  have HBO := hide hbo
  have HCH := hide hch
  have HNO := hide hno
  have HRP := hide hRP
  obtain ⟨sv, ov, rfl, u1, u2⟩ := hv
  obtain ⟨a1, c1, rfl, -⟩ := id u1
  obtain ⟨a2, c2, rfl, -⟩ := id u2
  clear u1 u2 hby hbo hch hno hRP
  have hb0 := below2 w (.cells #[.slice a1 bss.length c1, .slice a2 oss.length c2] 25) (.cells #[.slice none 0 0, .slice none 0 0] 25)
  have RA := (Row2.new w 25 (.slice a1 bss.length c1) (.slice a2 oss.length c2)).alloc (.cells #[.slice none 0 0, .slice none 0 0] 25)
  have RR := Row2.new (w.alloc (.cells #[.slice a1 bss.length c1, .slice a2 oss.length c2] 25)) 25 (.slice none 0 0) (.slice none 0 0)
  rw [sz_alloc] at RR
  have hzV : ((w.alloc (.cells #[.slice a1 bss.length c1, .slice a2 oss.length c2] 25)).alloc (.cells #[.slice none 0 0, .slice none 0 0] 25)).heap.size = w.heap.size + 2 := by simp
  go_enter Tryz.func20, Tryz.ntmps20
  go_wp2_with fail
  generalize (w.alloc (.cells #[.slice a1 bss.length c1, .slice a2 oss.length c2] 25)).alloc (.cells #[.slice none 0 0, .slice none 0 0] 25) = V at *
  have hVz : w.heap.size + 2 ≤ V.heap.size := by omega
  have HRR := hide RR
  clear hzV RA RR
  refine (storeOf_any _ bss oss V ((unhide HV).below hb0 (Nat.le_refl _)) (unhide HB) (unhide HBO) t1 l1 t2 l2).mono ?_
  rintro e w1 ⟨hg, hb1⟩
  have hz1' := hb1.size
  have hB1 : Below w.heap.size w w1 := hb0.trans (hb1.mono (by omega))
  have RR1 := hide ((unhide HRR).below hb1 (by omega))
  clear HRR hb0 hb1
  rcases hg with ⟨BX, H, ss, rfl, hst, hla, hBX, hat⟩ | ⟨rfl, hst⟩
  · have HST := hide hst
    have HLA := hide hla
    have HAT := hide hat
    clear hst hla hat
    go_wp2_with fail
    refine (unhide HCH BX H ss w1 hB1 (unhide HST) (unhide HLA) (unhide HAT)).mono ?_
    rintro e w2 ⟨⟨c, ss2, oss2, rfl, hrd, hen, hl, hR⟩, hb2⟩
    have hz2 := hb2.size
    have RR2 := hide ((unhide RR1).below hb2 (by omega))
    have hB2 : Below w.heap.size w w2 := hB1.trans (hb2.mono (by omega))
    obtain ⟨sg, oa, on, oc, lr, br, ps, k1, k2, k3, k4⟩ := hrd
    have HK1 := hide k1
    have HK2 := hide k2
    have HK3 := hide k3
    have HK4 := hide k4
    have HEN := hide hen
    have HR := hide hR
    clear k1 k2 k3 k4 hen hR hb2 RR1 HAT HCH
    go_wp2_with fail
    refine (state_any BX (BX + 1) sg oa on oc lr br ss2 w2 (unhide HK1) (unhide HK2) (unhide HEN) hl).mono ?_
    rintro e w3 ⟨⟨sv3, ps3, rfl, hps3, hl3⟩, hb3⟩
    have hz3 := hb3.size
    have RR3 := hide ((unhide RR2).below hb3 (by omega))
    have hB3 : Below w.heap.size w w3 := hB2.trans (hb3.mono (by omega))
    have HP3 := hide hps3
    have HL3 := hide hl3
    have HO3 := hide ((LB.footR (unhide HK3)).keep hb3 (Nat.le_refl _))
    obtain ⟨p1, q1, rfl⟩ := own_is hl3.own
    obtain ⟨r0, r1, r2, r3⟩ := (unhide RR3).facts4
    clear hps3 hl3 RR2
    go_wp2_with fail
    obtain ⟨e0, e1, -⟩ := (((unhide RR3).put0 (u := .slice p1 ps3.length q1)).put1 (u := .slice oa on oc)).facts4
    refine bodyPost_ret (v := .tuple #[.agg #[.slice p1 ps3.length q1, .slice oa on oc], .int .i64 c]) (by simp [results, Tryz.results20, go_sem, e0, e1]) rfl ⟨⟨_, ss2.map (fun s => encG s.g), oss2, c, rfl, unhide HRP _ _ _ (unhide HR), ?_⟩, bput2 hB3 (by omega) _ _⟩
    refine ⟨_, _, Rng w2.heap.size w3.heap.size, Rng (BX + 1) w2.heap.size, rfl, ?_, ?_, fun k hk => ?_, fun k hk h => ?_⟩
    · have h1 := LB.footR (unhide HL3)
      rw [unhide HP3] at h1
      exact (h1.putR (b := w.heap.size + 1) (Or.inl (by omega))).putR (b := w.heap.size + 1) (Or.inl (by omega))
    · have h1 := unhide HO3
      rw [unhide HK4] at h1
      exact (h1.putR (b := w.heap.size + 1) (Or.inl (by omega))).putR (b := w.heap.size + 1) (Or.inl (by omega))
    · simp only [sz_put]
      unfold Rng at hk
      omega
    · unfold Rng at *
      omega
  · have HST := hide hst
    obtain ⟨r0, r1, r2, r3⟩ := (unhide RR1).facts4
    clear hst
    go_wp2_with fail
    obtain ⟨e0, e1, -⟩ := (((unhide RR1).put0 (u := .slice none 0 0)).put1 (u := .slice none 0 0)).facts4
    exact bodyPost_ret (v := .tuple #[.agg #[.slice none 0 0, .slice none 0 0], .int .i64 4]) (by simp [results, Tryz.results20, go_sem, e0, e1]) rfl ⟨⟨_, [], [], 4, rfl, unhide HNO (unhide HST), StF.zero _ _ _⟩, bput2 hB1 (by omega) _ _⟩

set_option maxHeartbeats 4000000 in
set_option maxRecDepth 100000 in
theorem implIngest_any (v tv : Value) (bss oss : List (List Int)) (bs : List Int) (w : World) (hv : StRd w v bss oss) (hby : ∀ x ∈ bss, Bytes x) (hbo : ∀ x ∈ oss, Bytes x) (t1 : tot bss ≤ 1048576) (l1 : bss.length ≤ 1048576) (t2 : tot oss ≤ 1048576) (l2 : oss.length ≤ 1048576) (htv : SlAt mB 0 0 w.heap.size w tv bs) (hcap : CapOk tv) (hbb : Bytes bs) (hl : bs.length ≤ 1048576) :
    Calls Tryz.prog 6 #[v, tv] w fun e w' => StGot e w w' (IngIs bss oss (lns bs)) ∧ Below w.heap.size w w' := by
  have HV := hide hv
  have HB := hide hby
  have HBO := hide hbo
  have HTV := hide htv
  have HC := hide hcap
  have HBB := hide hbb
  obtain ⟨ta, tc, rfl, -, -⟩ := htv
  obtain ⟨sv, ov, rfl, u1, u2⟩ := hv
  obtain ⟨a1, c1, rfl, -⟩ := id u1
  obtain ⟨a2, c2, rfl, -⟩ := id u2
  clear u1 u2 hby hbo hcap hbb
  have hb0 := below3 w (.cells #[.slice a1 bss.length c1, .slice a2 oss.length c2] 25) (.cells #[.slice ta bs.length tc] 22) (.cells #[.slice none 0 0, .slice none 0 0] 25)
  have RT := (Boxed.new (w.alloc (.cells #[.slice a1 bss.length c1, .slice a2 oss.length c2] 25)) 22 (.slice ta bs.length tc)).alloc (.cells #[.slice none 0 0, .slice none 0 0] 25)
  have RR := Row2.new ((w.alloc (.cells #[.slice a1 bss.length c1, .slice a2 oss.length c2] 25)).alloc (.cells #[.slice ta bs.length tc] 22)) 25 (.slice none 0 0) (.slice none 0 0)
  rw [sz_alloc] at RT
  rw [sz_alloc, sz_alloc] at RR
  have hzV : (((w.alloc (.cells #[.slice a1 bss.length c1, .slice a2 oss.length c2] 25)).alloc (.cells #[.slice ta bs.length tc] 22)).alloc (.cells #[.slice none 0 0, .slice none 0 0] 25)).heap.size = w.heap.size + 3 := by simp
  go_enter Tryz.func6, Tryz.ntmps6
  go_wp2_with fail
  generalize ((w.alloc (.cells #[.slice a1 bss.length c1, .slice a2 oss.length c2] 25)).alloc (.cells #[.slice ta bs.length tc] 22)).alloc (.cells #[.slice none 0 0, .slice none 0 0] 25) = V at *
  have hVz : w.heap.size + 3 ≤ V.heap.size := by omega
  have HRR := hide RR
  have HRT := hide RT
  have HTVV := hide ((unhide HTV).below hb0 (Nat.le_refl _))
  clear hzV RR RT
  refine (changedIngest_any (w.heap.size + 1) _ bss oss V (IngIs bss oss (lns bs)) (IngIs bss oss (lns bs)) ((unhide HV).below hb0 (Nat.le_refl _)) (unhide HB) (unhide HBO) t1 l1 t2 l2 (fun h => Or.inl ⟨h, rfl, rfl, rfl⟩) (fun _ _ _ h => h) ?_).mono ?_
  · intro BX H ss w1 hbV hst hla hat
    obtain ⟨s1, s2, s3, s4, s5, s6⟩ := stO_all hst (unhide HB)
    rw [List.length_map] at s3
    refine (ingestC_any (w.heap.size + 1) BX H ss oss _ _ _ bs w1 hat (by omega) (by omega) (by omega) (by omega) (by omega) (Boxed.under (unhide HRT) hbV (by omega)) ((unhide HTVV).below hbV (Nat.le_refl _)) (unhide HC) (unhide HBB) hl).mono ?_
    rintro e w' ⟨hb, h⟩
    refine ⟨?_, hb⟩
    have hE : ∀ s ∈ ss, EncIn s.g.b s.g.xs s.g.ks s.g.pss := fun s hs => (s2 s.g (List.mem_map_of_mem hs)).1.1
    have e1 : ss.map (fun s => encG s.g) = bss := by rw [← s1, List.map_map]; rfl
    rcases h with ⟨k1, k2, rfl, hrd⟩ | ⟨k1, rfl, hrd⟩
    · exact ⟨0, ss, _, rfl, hrd, hE, by omega, Or.inr (Or.inl ⟨_, hst, ⟨by omega, by omega⟩, e1, rfl, rfl⟩)⟩
    · exact ⟨6, ss, _, rfl, hrd, hE, by omega, Or.inr (Or.inr ⟨_, hst, fun h => k1 ⟨by have := h.1; omega, by have := h.2; omega⟩, e1, rfl, rfl⟩)⟩
  · rintro e w1 ⟨⟨v1, b, o, c, rfl, hP, hF⟩, hb1⟩
    have hz1 := hb1.size
    have hB1 : Below w.heap.size w w1 := hb0.trans (hb1.mono (by omega))
    have RR1 := hide ((unhide HRR).below hb1 (by omega))
    have HP := hide hP
    have HF := hide hF
    obtain ⟨p1, q1, p2, q2, rfl⟩ := (hF.rd (Nat.le_refl _)).val
    obtain ⟨r0, r1, r2, r3⟩ := (unhide RR1).facts4
    clear hP hF HRR
    go_wp2_with fail
    obtain ⟨e0, e1, -⟩ := (((unhide RR1).put0 (u := .slice p1 b.length q1)).put1 (u := .slice p2 o.length q2)).facts4
    refine bodyPost_ret (v := .tuple #[.agg #[.slice p1 b.length q1, .slice p2 o.length q2], .int .i64 c]) (by simp [results, Tryz.results6, go_sem, e0, e1]) rfl ⟨⟨_, b, o, c, rfl, unhide HP, ?_⟩, bput2 hB1 (b := w.heap.size + 1 + 1) (by omega) _ _⟩
    simp only [sz_put]
    exact (((unhide HF).put (b := w.heap.size + 1 + 1) (Or.inl (by omega))).put (b := w.heap.size + 1 + 1) (Or.inl (by omega))).low (by omega) (Nat.le_refl _)

end Go.Proofs.YthgnefdefjannaaGreat
