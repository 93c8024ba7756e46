import Derived.Test.YtkajdhliejjohaaFc7
import Derived.Test.YtkajdhliejjohaaBu1
namespace Go.Proofs.Ytkajdhliejjohaa
open Go.RowKit

theorem LL.same {α : Type} {mk : α → Value} {d : α} {e te : TypeId} {base : Nat} {w w' : World} {v : Value} {ps : List (Cl α)} (h : LL mk d e te base w v ps) (hs : ∀ k, base ≤ k → k < w.heap.size → w'.heap[k]? = w.heap[k]?) : LL mk d e te base w' v ps :=
  ⟨own_same h.own (fun g hg => hs g (h.own.lt g hg).1 (h.own.lt g hg).2), fun p hp => (h.ok p hp).same (fun h0 => hs p.b (h.lo p hp h0) ((h.ok p hp).lt h0)), h.lo, h.apart⟩
theorem SegO.same {lo : Nat} {w w' : World} {v : Value} {base : Int} {xss pss : List (List Int)} {ks : List Int} (h : SegO lo w v base xss ks pss) (hz : w.heap.size ≤ w'.heap.size) (hs : ∀ k, lo ≤ k → k < w.heap.size → w'.heap[k]? = w.heap[k]?) : SegO lo w' v base xss ks pss := by
  obtain ⟨lv, kv, pv, m1, m2, ps, qs, e, ⟨l1, l2, l3⟩, ⟨a1, a2, a3⟩, ⟨b1, b2⟩, c1, c2, c3⟩ := h
  exact ⟨lv, kv, pv, m1, m2, ps, qs, e, ⟨l1, l2, by omega⟩, ⟨a1, a2.same hs, a3⟩, ⟨own_same b1 (fun g hg => hs g (by have := (b1.lt g hg).1; omega) (b1.lt g hg).2), b2⟩, c1, c2.same (fun k k1 k2 => hs k (by omega) k2), fun q hq => ⟨(c3 q hq).1, own_same (c3 q hq).2.1 (fun g hg => hs g (by have := ((c3 q hq).2.1.lt g hg).1; omega) ((c3 q hq).2.1.lt g hg).2), (c3 q hq).2.2⟩⟩
theorem SegO.put {lo b o : Nat} {w : World} {v u : Value} {base : Int} {xss pss : List (List Int)} {ks : List Int} (h : SegO lo w v base xss ks pss) (hb : b < lo) : SegO lo (w.setCell ⟨b, o, none⟩ u) v base xss ks pss := h.same (by rw [sz_put]; exact Nat.le_refl _) (fun k k1 _ => Below.heap_setCell _ _ _ _ (by show k ≠ b; omega))
theorem SegO.keep {lo m : Nat} {w w' : World} {v : Value} {base : Int} {xss pss : List (List Int)} {ks : List Int} (h : SegO lo w v base xss ks pss) (hb : Below m w w') (hm : w.heap.size ≤ m) : SegO lo w' v base xss ks pss := h.same hb.size (fun k _ h2 => hb.block k (by omega))
theorem SegO.low {lo lo' : Nat} {w : World} {v : Value} {base : Int} {xss pss : List (List Int)} {ks : List Int} (h : SegO lo w v base xss ks pss) (hl : lo' ≤ lo) : SegO lo' w v base xss ks pss := by
  obtain ⟨lv, kv, pv, m1, m2, ps, qs, e, ⟨l1, l2, l3⟩, ⟨a1, a2, a3⟩, r⟩ := h
  exact ⟨lv, kv, pv, m1, m2, ps, qs, e, ⟨by omega, l2, l3⟩, ⟨a1, a2.low hl, a3⟩, r⟩
theorem SegO.rd {lo : Nat} {w : World} {v : Value} {base : Int} {xss pss : List (List Int)} {ks : List Int} (h : SegO lo w v base xss ks pss) : SegRd w v base xss ks pss := by
  obtain ⟨lv, kv, pv, m1, m2, ps, qs, e, ⟨l1, l2, l3⟩, ⟨a1, a2, a3⟩, ⟨b1, b2⟩, c1, c2, c3⟩ := h
  have hk := own_cap b1
  obtain ⟨ka, kc, rfl⟩ := own_is b1
  have hk1 := hk.le
  refine ⟨lv, _, pv, e, ?_, (own_slw (lo := m1) b1 (Nat.le_refl _) (by omega)).all (Nat.le_refl _), ?_⟩
  · rw [← a1]; exact (LB.footR a2).all (Nat.le_refl _)
  · rw [← c1]; exact LI.at c2

set_option maxHeartbeats 4000000 in
set_option maxRecDepth 100000 in
theorem l4drawSegment_own (N D : Nat) (xs : List Int) (w : World) (h : CdAt N D w xs) (hx : Cod xs) (hD : D < w.heap.size) :
    Calls Try.prog 14 #[.pointer (some ⟨D, 0, none⟩)] w fun e w' => SegRetO e w w' (dSg xs).2.1 (dSg xs).1 ∧ CdAt N D w' (dSg xs).2.2 ∧ Mv w.heap.size D w w' := by
  have hok := dSg_ok xs hx
  have HOK := hide hok
  have HX := hide hx
  have hb00 := below1 w (.cells #[.int .i64 0, .slice none 0 0, .slice none 0 0, .slice none 0 0] 28)
  have RR0 := hide (Row4.new w 28 (.int .i64 0) (.slice none 0 0) (.slice none 0 0) (.slice none 0 0))
  have H := hide (h.keep hb00 hD)
  obtain ⟨R, hR⟩ : ∃ R, dLs (1 + xs.headD 0 % 12).toNat xs.tail = R := ⟨_, rfl⟩
  obtain ⟨y, hy⟩ : ∃ y, R.2.headD 0 = y := ⟨_, rfl⟩
  have hS : dSg xs = (R.1, dBs y, R.2.tail) := by unfold dSg; rw [hR, hy]
  have hRc : Cod R.2 := by rw [← hR]; exact (dLs_ok _ xs.tail hx.tail).2.2.2
  have hyb := hRc.head
  rw [hy] at hyb
  obtain ⟨B, hB⟩ : ∃ B, dBs y = B := ⟨_, rfl⟩
  rw [hB] at hS
  rw [hS] at HOK ⊢
  have HBe := hide hB
  clear hB
  have HR := hide hR
  have HY := hide hy
  have HRC := hide hRc
  clear hok hx h hR hy hS hRc
  go_enter Try.func14, Try.ntmps14
  go_wp2_with fail
  refine (l4drawLines_any N D xs 12 _ (unhide H) (unhide HX) (by rw [sz_alloc]; omega) (by omega) (by omega)).mono ?_
  rintro e w1 ⟨⟨v, rfl, ps, hps, hll⟩, hc1, hm1⟩
  rw [unhide HR] at hps hc1
  rw [sz_alloc] at hll hm1
  have hz1 : w.heap.size + 1 ≤ w1.heap.size := by have := hm1.size; rwa [sz_alloc] at this
  have hM1 : Mv w.heap.size D w w1 := (Below.mv hb00 D).trans (hm1.mono (by omega))
  have RR1 := (unhide RR0).mv hm1 (by omega) (by omega)
  have HLL := hide hll
  have HPS := hide hps
  obtain ⟨la, lc, rfl⟩ := own_is hll.own
  clear RR0 hb00 H hll hps
  go_wp2_with fail
  refine (next_any N D R.2 w1 hc1 (unhide HRC)).mono ?_
  rintro e w2 ⟨he, hc2, ho2⟩
  rw [unhide HY] at he
  subst he
  have hz2 : w.heap.size + 1 ≤ w2.heap.size := Nat.le_trans hz1 (Nat.le_of_eq ho2.size.symm)
  have hM2 := hM1.trans (ho2.mv w.heap.size)
  have RR2 := RR1.mv (ho2.mv w1.heap.size) (by omega) (by omega)
  have HL2 := hide ((unhide HLL).keepMv (ho2.mv w1.heap.size) (Nat.le_refl _) (by omega))
  have HC2 := hide hc2
  clear hc1 hc2 ho2 hm1 RR1 HLL hM1
  have hss := LB.footR (unhide HL2)
  rw [unhide HPS] at hss
  have HSS := hide (hss.all (Nat.le_refl _))
  have HBB := hide (fun x hx => bytes_of_mem ((unhide HOK).2.2.1 x hx) : ∀ x ∈ R.1, Bytes x)
  have ht1 : R.1.length ≤ 12 := (unhide HOK).1
  have ht2 : tot R.1 ≤ 240 := (unhide HOK).2.1
  clear hss HOK
  by_cases h3 : y % 3 = 0
  · have hB0 : B = 0 := by rw [← unhide HBe]; exact if_pos h3
    subst hB0
    clear HBe
    go_wp2_with fail
    refine (l4build_own 0 _ R.1 w2 (unhide HSS) (unhide HBB) (by omega) (by omega) (by omega) (by omega)).mono ?_
    rintro e w3 ⟨⟨v3, ks, pss, rfl, hseg, hat⟩, hb3⟩
    have Hseg := hide hseg
    have hz3 := hb3.size
    have Hat := hide hat
    obtain ⟨la3, lc3, ka, kc, pa, pc, rfl, -⟩ := hat.rd.parts
    have RR3 := RR2.below hb3 (by omega)
    have HRR := hide RR3
    obtain ⟨r0, r1, r2, r3, t0, t1, t2, t3⟩ := RR3.facts
    have hM3 := hM2.trans (Below.mv (hb3.mono (show w.heap.size ≤ w2.heap.size by omega)) D)
    have HC3 := hide ((unhide HC2).keep hb3 (by omega))
    clear hseg RR2 RR3 hb3 hat
    go_wp2_with fail
    obtain ⟨e0, e1, e2, e3, -⟩ := ((((unhide HRR).put0 (u := .int .i64 0)).put1 (u := .slice la3 R.1.length lc3)).put2 (u := .slice ka ks.length kc)).put3 (u := .slice pa pss.length pc) |>.facts
    have hP := bput4 (Below.refl w.heap.size w3) (Nat.le_refl _) (.int .i64 0) (.slice la3 R.1.length lc3) (.slice ka ks.length kc) (.slice pa pss.length pc)
    refine bodyPost_ret (v := .agg #[.int .i64 0, .slice la3 R.1.length lc3, .slice ka ks.length kc, .slice pa pss.length pc]) (by simp [results, Try.results14, go_sem, e0, e1, e2, e3]) rfl ⟨⟨_, ks, pss, rfl, unhide Hseg, SegO.low ((((unhide Hat).put (by omega)).put (by omega)).put (by omega) |>.put (by omega)) (by omega)⟩, (unhide HC3).keep hP hD, hM3.trans (Below.mv hP D)⟩
  · have hB0 : y = B := by rw [← unhide HBe]; exact (if_neg h3).symm
    subst hB0
    clear HBe
    go_wp2_with fail
    refine (l4build_own y _ R.1 w2 (unhide HSS) (unhide HBB) (by omega) (by omega) (by omega) (by omega)).mono ?_
    rintro e w3 ⟨⟨v3, ks, pss, rfl, hseg, hat⟩, hb3⟩
    have Hseg := hide hseg
    have hz3 := hb3.size
    have Hat := hide hat
    obtain ⟨la3, lc3, ka, kc, pa, pc, rfl, -⟩ := hat.rd.parts
    have RR3 := RR2.below hb3 (by omega)
    have HRR := hide RR3
    obtain ⟨r0, r1, r2, r3, t0, t1, t2, t3⟩ := RR3.facts
    have hM3 := hM2.trans (Below.mv (hb3.mono (show w.heap.size ≤ w2.heap.size by omega)) D)
    have HC3 := hide ((unhide HC2).keep hb3 (by omega))
    clear hseg RR2 RR3 hb3 hat
    go_wp2_with fail
    obtain ⟨e0, e1, e2, e3, -⟩ := ((((unhide HRR).put0 (u := .int .i64 y)).put1 (u := .slice la3 R.1.length lc3)).put2 (u := .slice ka ks.length kc)).put3 (u := .slice pa pss.length pc) |>.facts
    have hP := bput4 (Below.refl w.heap.size w3) (Nat.le_refl _) (.int .i64 y) (.slice la3 R.1.length lc3) (.slice ka ks.length kc) (.slice pa pss.length pc)
    refine bodyPost_ret (v := .agg #[.int .i64 y, .slice la3 R.1.length lc3, .slice ka ks.length kc, .slice pa pss.length pc]) (by simp [results, Try.results14, go_sem, e0, e1, e2, e3]) rfl ⟨⟨_, ks, pss, rfl, unhide Hseg, SegO.low ((((unhide Hat).put (by omega)).put (by omega)).put (by omega) |>.put (by omega)) (by omega)⟩, (unhide HC3).keep hP hD, hM3.trans (Below.mv hP D)⟩

end Go.Proofs.Ytkajdhliejjohaa
