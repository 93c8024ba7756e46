import Derived.Test.YtbgjgaejfkdceaaSt11
import Derived.Deep.DeepCutAuto
namespace Go.Proofs.Ytbgjgaejfkdceaa
open Go.RowKit

/-- A store into a box of another type. -/
theorem LL.putty {α : Type} {mk : α → Value} {d : α} {e te t : TypeId} {base B o : Nat} {w : World} {v u : Value} {ps : List (Cl α)} (h : LL mk d e te base w v ps) {c0 c1 : Value} (hB : Row2 w B t c0 c1) (h1 : t ≠ e) (h2 : t ≠ te) : LL mk d e te base (w.setCell ⟨B, o, none⟩ u) v ps := by
  obtain ⟨cb, hcb, -⟩ := hB
  have hk : ∀ k, k ≠ B → (w.setCell ⟨B, o, none⟩ u).heap[k]? = w.heap[k]? := fun k hk => Below.heap_setCell _ _ _ _ (by exact hk)
  refine ⟨⟨h.own.1, ?_⟩, fun p hp => (h.ok p hp).same (fun h0 => hk _ (fun e1 => ?_)), h.lo, h.apart⟩
  · rcases h.own.2 with h3 | ⟨g, cap, cur, e1, e2, e3, e4⟩
    · exact Or.inl h3
    · refine Or.inr ⟨g, cap, cur, e1, e2, (hk g (fun q => ?_)).trans e3, e4⟩
      rw [q, hcb] at e3
      simp at e3
      exact h2 e3.2
  · obtain ⟨a, cap, -, -, hc⟩ := h.ok p hp
    obtain ⟨off, -, ⟨c, hc2⟩, -⟩ := hc h0
    rw [e1, hcb] at hc2
    simp at hc2
    exact h1 hc2.2

/-- What sealing answers, as data. -/
def SealIs (bss oss bss' oss' : List (List Int)) (c : Int) : Prop :=
  (StN bss oss ∧ bss' = [] ∧ oss' = [] ∧ c = 4) ∨ (∃ gs, StS bss oss gs ∧ oss = [] ∧ bss' = bss ∧ oss' = [] ∧ c = 0) ∨
  (∃ gs ks pss, StS bss oss gs ∧ oss ≠ [] ∧ SegR ((nL gs : Nat) : Int) oss ks pss ∧ bss' = bss ++ [encL ((nL gs : Nat) : Int) oss ks pss] ∧ oss' = [] ∧ c = 0)
theorem SealIs.uniq {bss oss b1 o1 b2 o2 : List (List Int)} {c1 c2 : Int} (h : SealIs bss oss b1 o1 c1) (h' : SealIs bss oss b2 o2 c2) : b1 = b2 ∧ o1 = o2 ∧ c1 = c2 := by
  rcases h with ⟨h0, rfl, rfl, rfl⟩ | ⟨gs, h0, h1, rfl, rfl, rfl⟩ | ⟨gs, ks, pss, h0, h1, h2, rfl, rfl, rfl⟩
  · rcases h' with ⟨g0, rfl, rfl, rfl⟩ | ⟨gs', g0, -⟩ | ⟨gs', -, -, g0, -⟩
    · exact ⟨rfl, rfl, rfl⟩
    · first | exact (h0 _ g0).elim | exact (g0 _ h0).elim
    · first | exact (h0 _ g0).elim | exact (g0 _ h0).elim
  · rcases h' with ⟨g0, -⟩ | ⟨gs', g0, g1, rfl, rfl, rfl⟩ | ⟨gs', -, -, g0, g1, -⟩
    · first | exact (h0 _ g0).elim | exact (g0 _ h0).elim
    · exact ⟨rfl, rfl, rfl⟩
    · exact absurd h1 g1
  · rcases h' with ⟨g0, -⟩ | ⟨gs', g0, g1, -⟩ | ⟨gs', ks', pss', g0, g1, g2, rfl, rfl, rfl⟩
    · first | exact (h0 _ g0).elim | exact (g0 _ h0).elim
    · exact absurd g1 h1
    · obtain rfl := h0.one g0
      obtain ⟨rfl, rfl⟩ := h2.uniq g2
      exact ⟨rfl, rfl, rfl⟩

/-- What the model answers for a state. -/
def StWant (e : Ending) (w' : World) (P : List (List Int) → List (List Int) → Int → Prop) : Prop := ∃ v b o c, e = .returned (.tuple #[v, .int .i64 c]) ∧ P b o c ∧ StRd w' v b o

/-- The segment that was built, in a box. -/
def SpecBox (bx : Value) (w wx : World) (nl : Int) (oss : List (List Int)) : Prop :=
  ∃ (N : Nat) (ks : List Int) (pss : List (List Int)) (a1 : Option Addr) (c1 : Nat) (a2 : Option Addr) (c2 : Nat) (a3 : Option Addr) (c3 : Nat), bx = .pointer (some ⟨N, 0, none⟩) ∧ SegR nl oss ks pss ∧ Row4 wx N 41 (.int .i64 nl) (.slice a1 oss.length c1) (.slice a2 ks.length c2) (.slice a3 pss.length c3) ∧
    SegRd wx (.agg #[.int .i64 nl, .slice a1 oss.length c1, .slice a2 ks.length c2, .slice a3 pss.length c3]) nl oss ks pss ∧ w.heap.size ≤ N ∧ N < wx.heap.size ∧ Below w.heap.size w wx

theorem run_l4encode (x : Value) (w : World) : Sem.run Try.prog (callFunc 16 #[x]) w = .ok (.enter 16 #[x]) w := by kernel_rfl

set_option maxHeartbeats 16000000 in
set_option maxRecDepth 100000 in
theorem specSeal_any (v : Value) (bss oss : List (List Int)) (w : World) (hv : StRd w v bss oss) (hby : ∀ x ∈ bss, Bytes x) (hbo : ∀ x ∈ oss, Bytes x) (t1 : tot bss ≤ 1048576) (l1 : bss.length ≤ 1048576) (t2 : tot oss ≤ 1048576) (l2 : oss.length ≤ 1048576) :
    Calls Try.prog 5 #[v] w fun e w' => StWant e w' (SealIs bss oss) ∧ Below w.heap.size w w' := by
  obtain ⟨i0, hi, hz0, hz1, hz2⟩ := info_parts Try.zinByteS
  have HV := hide hv
  have HB := hide hby
  have HBO := hide hbo
  obtain ⟨sv, ov, rfl, u1, u2⟩ := hv
  have U2 := hide u2
  obtain ⟨a1, c1, rfl, -⟩ := id u1
  obtain ⟨a2, c2, rfl, -⟩ := id u2
  clear u1 u2 hby hbo
  have hb0 := below2 w (.cells #[.slice a1 bss.length c1, .slice a2 oss.length c2] 26) (.cells #[.slice none 0 0, .slice none 0 0] 26)
  have RA := (Row2.new w 26 (.slice a1 bss.length c1) (.slice a2 oss.length c2)).alloc (.cells #[.slice none 0 0, .slice none 0 0] 26)
  have RR := Row2.new (w.alloc (.cells #[.slice a1 bss.length c1, .slice a2 oss.length c2] 26)) 26 (.slice none 0 0) (.slice none 0 0)
  rw [sz_alloc] at RR
  have hzV : ((w.alloc (.cells #[.slice a1 bss.length c1, .slice a2 oss.length c2] 26)).alloc (.cells #[.slice none 0 0, .slice none 0 0] 26)).heap.size = w.heap.size + 2 := by simp
  go_enter Try.func5, Try.ntmps5
  go_wp2_with fail
  generalize (w.alloc (.cells #[.slice a1 bss.length c1, .slice a2 oss.length c2] 26)).alloc (.cells #[.slice none 0 0, .slice none 0 0] 26) = V at *
  have hVz : w.heap.size + 2 ≤ V.heap.size := by omega
  have HRA := hide RA
  have HRR := hide RR
  clear hzV RA RR
  refine (l5segs_any _ bss oss V ((unhide HV).below hb0 (Nat.le_refl _)) (unhide HB) t1 l1 t2 l2).mono ?_
  rintro e w1 ⟨hg, hb1⟩
  have hz1' := hb1.size
  have hB1 : Below w.heap.size w w1 := hb0.trans (hb1.mono (by omega))
  have RA1 := hide ((unhide HRA).below hb1 (by omega))
  have RR1 := hide ((unhide HRR).below hb1 (by omega))
  clear HRA HRR hb0 hb1
  rcases hg with ⟨sv, ss, rfl, hst, hrow⟩ | ⟨rfl, hst⟩
  · have HST := hide hst
    have HSG := hide hrow
    obtain ⟨ga, gc, rfl⟩ := hrow.form
    have hsi := stO_is hst
    have hok := decA_ok bss 0 _ hsi.1
    have hss : ss.length ≤ 1000 := by
      have h1 := hok.2.2 (Int.le_refl _)
      have h2 : ∀ gs : List Sg, (∀ g ∈ gs, 1 ≤ g.xs.length) → gs.length ≤ nL gs := fun gs => by
        induction gs with
        | nil => intro _; simp [nL]
        | cons g r ih => intro h; have := ih (fun x hx => h x (List.mem_cons_of_mem _ hx)); have := h g (List.mem_cons_self ..); simp only [nL, List.length_cons]; omega
      have h3 := h2 (ss.map Sv.g) (fun g hg => by
        obtain ⟨i, hi, rfl⟩ := List.getElem_of_mem hg
        obtain ⟨g', e1, e2, -⟩ := hok.2.1 i hi
        rw [List.getElem?_eq_getElem hi] at e1
        cases e1
        exact e2.1.2.1)
      rw [List.length_map] at h3
      have := hsi.2.2.1
      omega
    have hn1 := hsi.2.2.1
    have htt := hsi.2.2.2
    have HPL := hide hsi.2.1
    clear hst hrow hsi hok
    obtain ⟨nl, hnl⟩ : ∃ nl, nL (ss.map Sv.g) = nl := ⟨_, rfl⟩
    rw [hnl] at hn1
    have HNL := hide hnl
    clear hnl
    obtain ⟨f0, f1, -⟩ := (unhide RA1).facts4
    go_wp2_with fail
    refine (l5copy_any _ bss oss w1 ((unhide HV).below hB1 (Nat.le_refl _)) t1 l1 t2 l2).mono ?_
    rintro e w2 ⟨⟨cv, ov, ps, qs, m, rfl, hps, hqs, hl1, -, hl2, hm1, hm2⟩, hb2⟩
    have hz2' := hb2.size
    have hB2 : Below w.heap.size w w2 := hB1.trans (hb2.mono (by omega))
    have RA2 := hide ((unhide RA1).below hb2 (by omega))
    have RR2 := hide ((unhide RR1).below hb2 (by omega))
    have HSG2 := hide ((unhide HSG).keep hb2 (Nat.le_refl _))
    have HPS := hide hps
    have HL1 := hide hl1
    have HO2 : Hid (SsAt mB 0 w2.heap.size w2 ov oss) := by rw [← hqs]; exact (LB.footR hl2).all (Nat.le_refl _)
    have hpl : ps.length ≤ 1048576 := by have := congrArg List.length hps; rw [List.length_map] at this; omega
    obtain ⟨p1, q1, rfl⟩ := own_is hl1.own
    obtain ⟨p2, q2, rfl⟩ := own_is hl2.own
    have hql := congrArg List.length hqs
    rw [List.length_map] at hql
    rw [hql] at HO2
    clear hl1 hl2 hps hqs hb2 RA1 RR1 HSG f0 f1
    obtain ⟨f0, f1, -⟩ := ((unhide RA2).alloc (.cells #[.slice p1 ps.length q1, .slice p2 oss.length q2] 26)).facts4
    have RO := Row2.new w2 26 (.slice p1 ps.length q1) (.slice p2 oss.length q2)
    have hV2 := below1 w2 (.cells #[.slice p1 ps.length q1, .slice p2 oss.length q2] 26)
    have hzV2 : (w2.alloc (.cells #[.slice p1 ps.length q1, .slice p2 oss.length q2] 26)).heap.size = w2.heap.size + 1 := sz_alloc _ _
    rw [hql]
    by_cases hz : oss = []
    · have HZ := hide hz
      have hlz : oss.length = 0 := by rw [hz]; rfl
      have hlz' : ¬ (0 : Int) < (oss.length : Int) := by omega
      obtain ⟨o0, o1, -⟩ := RO.facts4
      obtain ⟨r0, r1, r2, r3⟩ := ((unhide RR2).alloc (.cells #[.slice p1 ps.length q1, .slice p2 oss.length q2] 26)).facts4
      clear hz hlz
      go_wp2_with fail
      obtain ⟨e0, e1, -⟩ := ((((unhide RR2).alloc (.cells #[.slice p1 ps.length q1, .slice p2 oss.length q2] 26)).put0 (u := .slice p1 ps.length q1)).put1 (u := .slice p2 oss.length q2)).facts4
      refine bodyPost_ret (v := .tuple #[.agg #[.slice p1 ps.length q1, .slice p2 oss.length q2], .int .i64 0]) (by simp [results, Try.results5, go_sem, e0, e1]) rfl ⟨⟨_, bss, oss, 0, rfl, Or.inr (Or.inl ⟨_, unhide HST, unhide HZ, rfl, unhide HZ, rfl⟩), _, _, rfl, ?_, ?_⟩, bput2 (hB2.trans (hV2.mono (by omega))) (by omega) _ _⟩
      · have h1 := ((((unhide HL1).keep hV2 (Nat.le_refl _)).putlo (B := w.heap.size + 1) (o := 0) (u := .slice p1 ps.length q1) (by omega)).putlo (B := w.heap.size + 1) (o := 1) (u := .slice p2 oss.length q2) (by omega))
        have h2 := (LB.footR h1).all (Nat.le_refl _)
        rw [unhide HPS] at h2
        exact h2
      · rw [unhide HZ]
        exact ⟨p2, q2, rfl, ⟨Nat.zero_le _, by obtain ⟨_, _, e, h, -⟩ := unhide HO2; cases e; exact h.2⟩, fun h => absurd h (by simp)⟩
    · have hpos : 0 < oss.length := List.length_pos_iff.2 hz
      have hpos' : (0 : Int) < (oss.length : Int) := by omega
      have HNZ := hide hz
      clear hz
      go_upto_region 5 with fail
      generalize w2.alloc (.cells #[.slice p1 ps.length q1, .slice p2 oss.length q2] 26) = V2 at *
      have HzV2 := hide hzV2
      have hVz2 : w2.heap.size + 1 ≤ V2.heap.size := by omega
      have HRO := hide RO
      clear hzV2 RO
      go_upto_region 6 with fail
      have hBV2 : Below w.heap.size w V2 := hB2.trans (hV2.mono (by omega))
      have HSGV := hide ((unhide HSG2).keep hV2 (Nat.le_refl _))
      have HOV := hide ((unhide U2).below hBV2 (Nat.le_refl _))
      have hS : Hid (∀ W' : World, Below V2.heap.size V2 W' → W'.cell? ⟨w.heap.size, 1, none⟩ = some (.slice a2 oss.length c2)) := fun W' hW => (((unhide RA2).below hV2 (by omega)).below hW (by omega)).facts4.2.1
      have hBaa : ∀ o : Obj, Below V2.heap.size V2 (V2.alloc o) := fun o => below1 _ o
      go_cut [7] (fun bx wx => SpecBox bx V2 wx nl oss)
      case first =>
        go_region_held3 (fun W' => W'.cell? ⟨w.heap.size, 1, none⟩ = some (.slice a2 oss.length c2))
          (first | (with_reducible exact unhide hS _ (hBda _)) | (with_reducible exact unhide hS _ hBd) | (with_reducible exact unhide hS _ (hBp _ _ _ _ _ (by omega))) | (with_reducible exact unhide hS _ (hBba _)) | (with_reducible exact unhide hS _ hBb) | (with_reducible exact unhide hS _ (hBaa _)) | go_keep)
          (first
            | (go_at_call 14; refine (l4build_any (nl : Int) _ oss _ (by first | exact (unhide HOV).below hBb (Nat.le_refl _) | exact (unhide HOV).below (hBba _) (Nat.le_refl _)) (unhide HBO) (by omega) (by omega) (by omega) (by omega)).mono ?_; rintro e w5 ⟨⟨v5, ks5, pss5, rfl, hsr5, hF5⟩, hb5⟩; have hBd : Below V2.heap.size V2 w5 := (by first | exact hBb.trans (hb5.mono hBb.size) | exact (hBba _).trans (hb5.mono (hBba _).size)); have hBda : ∀ o : Obj, Below V2.heap.size V2 (w5.alloc o) := fun o => hBd.alloc hBd.size o; have hBp : ∀ (N : Nat) (q0 q1 q2 q3 : Value), V2.heap.size ≤ N → Below V2.heap.size V2 ((((w5.setCell ⟨N, 0, none⟩ q0).setCell ⟨N, 1, none⟩ q1).setCell ⟨N, 2, none⟩ q2).setCell ⟨N, 3, none⟩ q3) := fun N q0 q1 q2 q3 hN => bput4 hBd hN q0 q1 q2 q3; have hsd := hb5.size; (try rw [sz_alloc] at hsd); ((first | (have RZ5 := hide ((unhide RZ3).below hb5 (by omega))) | (have RZ5 := hide ((Row4.new w3 41 (.int .i64 0) (.slice none 0 0) (.slice none 0 0) (.slice none 0 0)).below hb5 (by rw [sz_alloc]; exact Nat.lt_succ_self _))) | skip)); have HSR := hide hsr5; have HFA := hide hF5; obtain ⟨v1a, v1c, v2a, v2c, v3a, v3c, rfl⟩ := hF5.rd.val; (try obtain ⟨r0, r1, r2, r3, t0, t1, t2, t3⟩ := (unhide RZ5).facts); clear hsr5 hF5)
            | (go_at_call 15; refine (l5flat_any _ _ ss _ (by first | exact (unhide HSGV).drew | exact ((unhide HSGV).keep (below1 V2 _) (Nat.le_refl _)).drew) (by rw [unhide HNL]; omega) hss).mono ?_; rintro e w3 ⟨⟨v3, vs3, rfl, hown3, hln3⟩, hb3⟩; have hvn : vs3.length = nl := (by rw [hln3.1, flat_len]; exact unhide HNL); obtain ⟨fa3, fc3, hv3⟩ := own_is hown3; rw [hvn] at hv3; subst hv3; have hBb : Below V2.heap.size V2 w3 := (by first | exact ⟨hb3.os, hb3.tape, hb3.output, hb3.size, hb3.block⟩ | exact (below1 V2 (.cells #[.int .i64 0, .slice none 0 0, .slice none 0 0, .slice none 0 0] 41)).drew.trans (hb3.mono (by show V2.heap.size ≤ (V2.alloc _).heap.size; rw [sz_alloc]; omega))); have hBba : ∀ o : Obj, Below V2.heap.size V2 (w3.alloc o) := fun o => hBb.alloc hBb.size o; have hsb := hBb.size; (try (have hsb2 : (V2.alloc (.cells #[.int .i64 0, .slice none 0 0, .slice none 0 0, .slice none 0 0] 41)).heap.size ≤ w3.heap.size := hb3.size; rw [sz_alloc] at hsb2)); ((first | (have RZ3 := hide ((Row4.new V2 41 (.int .i64 0) (.slice none 0 0) (.slice none 0 0) (.slice none 0 0)).below (show Below (V2.alloc (.cells #[.int .i64 0, .slice none 0 0, .slice none 0 0, .slice none 0 0] 41)).heap.size (V2.alloc (.cells #[.int .i64 0, .slice none 0 0, .slice none 0 0, .slice none 0 0] 41)) w3 from ⟨hb3.os, hb3.tape, hb3.output, hb3.size, hb3.block⟩) (by rw [sz_alloc]; exact Nat.lt_succ_self _))) | skip)); clear hown3 hln3 hvn))
        all_goals go_wp2_with fail
        all_goals go_meet
        all_goals first
          | exact ⟨_, ks5, pss5, _, _, _, _, _, _, rfl, unhide HSR, Row4.new w5 _ _ _ _ _, (unhide HFA).rd.below (below1 w5 _) (Nat.le_refl _), hBd.size, by rw [sz_alloc]; exact Nat.lt_succ_self _, hBda _⟩
          | exact ⟨_, ks5, pss5, _, _, _, _, _, _, rfl, unhide HSR, (unhide RZ5).all _ _ _ _, ((unhide HFA).put4 (by first | omega | (rw [sz_alloc]; omega)) _ _ _ _).rd, by omega, by rw [sz_put4]; omega, hBp _ _ _ _ _ (by omega)⟩
      case rest =>
        obtain ⟨N, ks, pss, s1, k1, s2, k2, s3, k3, rfl, hsr, hrowN, hrd, hN, hN2, hE⟩ := hcut
        have HSR := hide hsr
        obtain ⟨w9, hw9⟩ : ∃ w9, w9 = wc := ⟨_, rfl⟩
        rw [← hw9] at hrowN hrd hN2 hE ⊢
        have hz9 := hE.size
        have hsl := segR_len hsr (by omega)
        have HENC := hide (built_enc (base := (nl : Int)) ⟨by omega, by omega, by omega, unhide HPL, by omega⟩ hsr (unhide HBO) (by omega) (by omega))
        have hel := encL_len (unhide HENC)
        have HO9 := hide ((unhide HRO).below hE (by omega))
        have HL9 := hide (((unhide HL1).keep hV2 (Nat.le_refl _)).keep hE (Nat.le_refl _))
        have RR9 := hide (((unhide RR2).below hV2 (by omega)).below hE (by omega))
        have HRD := hide hrd
        obtain ⟨g0, g1, g2, g3, -⟩ := hrowN.facts
        obtain ⟨y0, y1, y2, y3⟩ := (unhide HO9).facts4
        have hB9 : Below w.heap.size w w9 := hBV2.trans (hE.mono (by omega))
        clear hsr hw9 hrd hrowN hS hBaa f0 f1 hsl
        have hS : Hid (∀ W' : World, Below w9.heap.size w9 W' → W'.cell? ⟨w2.heap.size, 0, none⟩ = some (.slice p1 ps.length q1) ∧ W'.frozen? ⟨w2.heap.size, 0, none⟩ = false) := fun W' hW => by
          have := ((unhide HO9).below hW (by omega)).facts4
          exact ⟨this.1, this.2.2.1⟩
        have HG : Hid (∀ (W5 WA w7 : World) (o : Obj), Below w9.heap.size w9 W5 → Pushd W5 WA o → WA.grownBy w7 (Value.slice p1 ps.length q1).ownBlock → Row2 w7 w2.heap.size 26 (.slice p1 ps.length q1) (.slice p2 oss.length q2)) := fun W5 WA w7 o hW hP hg => by
          have hz5 := hW.size
          refine World.rowIs.of_block (unhide HO9) ?_
          rw [hg.block w2.heap.size (by rw [hP.size]; omega) (fun e => by have := ((unhide HL1).own.lt _ e.symm).2; omega), hP.old (by omega), hW.block _ (by omega)]
        generalize hEE : encL (nl : Int) oss ks pss = x at *
        have HEE := hide hEE
        clear hEE
        go_wp2_with fail
        go_region_law (
          (first
            | (refine step_call_o 16 #[.tmp 30] _ rfl #[.agg #[.int .i64 nl, .slice s1 oss.length k1, .slice s2 ks.length k2, .slice s3 pss.length k3]] rfl (by first | (simp [Act.eval]; done) | (simp [Act.eval, Act.put]; done)) (run_l4encode _) (l4encode_any _ (nl : Int) oss pss ks _ (by exact unhide HRD) (unhide HENC)) ?_; rintro e w5 ⟨⟨v5, rfl, hown5⟩, hb5⟩; rw [unhide HEE] at hown5; have hB5 : Below w9.heap.size w9 w5 := ⟨hb5.os, hb5.tape, hb5.output, hb5.size, hb5.block⟩; have Hown5 : Hid (w5.ownsRow w9.heap.size 5 1 v5 x.length (x.map mB)) := hown5; have hz5 := hB5.size; have HLk := hide ((unhide HL9).keep hB5 (Nat.le_refl _)); have Hpu := hide (LB.push (unhide HL9) (by omega) hB5 (Below.refl _ w9) (unhide Hown5)); obtain ⟨ya, yc, rfl⟩ := own_is (unhide Hown5); obtain ⟨d5, z5⟩ := unhide hS _ hB5; obtain ⟨d6, z6⟩ := unhide hS _ (hB5.alloc hz5 (.cells #[.slice ya x.length yc] 44)); clear hown5 hb5; refine ⟨_, rfl, ?_⟩)
            | (refine step_append_lies _ rfl (.tmp 29) (.tmp 32) 22 rfl w1.heap.size 44 i0 (.slice none 0 0) 1 24 Try.underlying22 hi hz0 hz1 hz2 rfl (by decide) (.slice p1 ps.length q1) ps.length (ps.map Cl.v) (by first | (simp [Act.eval]; done) | (simp [Act.eval, Act.put]; done)) (by refine Pushd.own (w := w5) (o := .cells #[.slice ya x.length yc] 44) ?_ (unhide HLk).own; exact ⟨rfl, rfl, rfl, rfl⟩) ⟨w5.heap.size, 0, none⟩ 1 1 [.slice ya x.length yc] (by first | (simp [Act.eval]; done) | (simp [Act.eval, Act.put]; done)) rfl (by refine Pushd.news (w := w5) (cs := #[.slice ya x.length yc]) (t := 44) ?_; exact ⟨rfl, rfl, rfl, rfl⟩) (by intro u hu; simp at hu; subst hu; rfl) (by decide) (by unfold maxLen; omega) (by omega) (by show w1.heap.size ≤ (w5.alloc _).heap.size; rw [sz_alloc]; omega) (w5.heap.size + 1) (sz_alloc w5 _) (fun gg cap' w7 q1 q2 q3 q4 => ?_); have HR7 := hide (unhide HG w5 _ w7 (.cells #[.slice ya x.length yc] 44) hB5 (by exact ⟨rfl, rfl, rfl, rfl⟩) q2); have h7 := hide (unhide Hpu w7 (.slice (some ⟨gg, 0, none⟩) (ps.length + 1) cap') q1 q2); have hB7 : Below w1.heap.size w9 w7 := (by obtain ⟨_, _, _, r⟩ := unhide h7; exact r); obtain ⟨d7, d7', z7, z7'⟩ := (unhide HR7).facts4; clear q1 q2 q3 q4)))
        all_goals
          have RR7 := hide ((((unhide RR9).below hB7 (by omega)).other (b' := w2.heap.size) (o := 0) (u := .slice (some ⟨gg, 0, none⟩) (ps.length + 1) cap') (by omega)).other (b' := w2.heap.size) (o := 1) (u := .slice none 0 0) (by omega))
          obtain ⟨r0, r1, r2, r3⟩ := (unhide RR7).facts4
          have RO7 := hide (((unhide HR7).put0 (u := .slice (some ⟨gg, 0, none⟩) (ps.length + 1) cap')).put1 (u := .slice none 0 0))
          obtain ⟨o0, o1, -⟩ := (unhide RO7).facts4
          go_wp2_with fail
          obtain ⟨e0, e1, -⟩ := (((unhide RR7).put0 (u := .slice (some ⟨gg, 0, none⟩) (ps.length + 1) cap')).put1 (u := .slice none 0 0)).facts4
          obtain ⟨p, r1', r2', r3'⟩ := unhide h7
          refine bodyPost_ret (v := .tuple #[.agg #[.slice (some ⟨gg, 0, none⟩) (ps.length + 1) cap', .slice none 0 0], .int .i64 0]) (by simp [results, Try.results5, go_sem, e0, e1]) rfl ⟨⟨_, bss ++ [x], [], 0, rfl, Or.inr (Or.inr ⟨_, ks, pss, unhide HST, unhide HNZ, by rw [unhide HNL]; exact unhide HSR, by rw [unhide HNL, unhide HEE], rfl, rfl⟩), _, _, rfl, ?_, ⟨none, 0, rfl, ⟨Nat.le_refl _, Nat.zero_le _⟩, fun h => absurd h (by simp)⟩⟩, bput2 (bput2 (hB9.trans (hB7.mono (by omega))) (by omega) _ _) (by omega) _ _⟩
          have q1 := (r2'.putty (B := w2.heap.size) (o := 0) (u := .slice (some ⟨gg, 0, none⟩) (ps.length + 1) cap') (unhide HR7) (by decide) (by decide)).putty (B := w2.heap.size) (o := 1) (u := .slice none 0 0) ((unhide HR7).put0) (by decide) (by decide)
          have q2 := (LB.footR ((q1.putlo (B := w.heap.size + 1) (o := 0) (u := .slice (some ⟨gg, 0, none⟩) (ps.length + 1) cap') (by omega)).putlo (B := w.heap.size + 1) (o := 1) (u := .slice none 0 0) (by omega))).all (Nat.le_refl _)
          rw [List.map_append, unhide HPS] at q2
          have e9 : [p].map Cl.xs = [x] := by rw [List.map_singleton, r1']
          rw [e9] at q2
          exact q2
  · have HST := hide hst
    obtain ⟨r0, r1, r2, r3⟩ := (unhide RR1).facts4
    clear hst
    go_wp2_with fail
    obtain ⟨e0, e1, -⟩ := (((unhide RR1).put0 (u := .slice none 0 0)).put1 (u := .slice none 0 0)).facts4
    exact bodyPost_ret (v := .tuple #[.agg #[.slice none 0 0, .slice none 0 0], .int .i64 4]) (by simp [results, Try.results5, go_sem, e0, e1]) rfl ⟨⟨_, [], [], 4, rfl, Or.inl ⟨unhide HST, rfl, rfl, rfl⟩, (StF.zero 0 0 _).rd (Nat.zero_le _)⟩, bput2 hB1 (by omega) _ _⟩

end Go.Proofs.Ytbgjgaejfkdceaa
