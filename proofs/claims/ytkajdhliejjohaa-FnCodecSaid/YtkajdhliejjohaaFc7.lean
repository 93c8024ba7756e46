import Derived.Test.YtkajdhliejjohaaFc6
import Derived.Test.YtkajdhliejjohaaP6
import Derived.Test.YtkajdhliejjohaaL8
namespace Go.Proofs.Ytkajdhliejjohaa
open Go.RowKit

theorem Row4.mv {w w' : World} {b lo D : Nat} {t : TypeId} {c0 c1 c2 c3 : Value} (h : Row4 w b t c0 c1 c2 c3) (hb : Mv lo D w w') (hm : b < lo) (hD : b ≠ D) : Row4 w' b t c0 c1 c2 c3 := World.rowIs.of_block h (hb.block b hm hD)
/-- The base of a code. -/
def dBs (y : Int) : Int := if y % 3 = 0 then 0 else y
/-- Lines, base and the rest. -/
def dSg (xs : List Int) : List (List Int) × Int × List Int := ((dLs (1 + xs.headD 0 % 12).toNat xs.tail).1, dBs ((dLs (1 + xs.headD 0 % 12).toNat xs.tail).2.headD 0), (dLs (1 + xs.headD 0 % 12).toNat xs.tail).2.tail)
theorem dSg_ok (xs : List Int) (h : Cod xs) : (dSg xs).1.length ≤ 12 ∧ tot (dSg xs).1 ≤ 240 ∧ (∀ l ∈ (dSg xs).1, Cod l) ∧ (0 ≤ (dSg xs).2.1 ∧ (dSg xs).2.1 ≤ 255) ∧ Cod (dSg xs).2.2 := by
  have h1 := dLs_ok (1 + xs.headD 0 % 12).toNat xs.tail h.tail
  have h2 := h1.2.2.2.head
  have h3 := h.head
  refine ⟨?_, ?_, h1.2.2.1, ?_, h1.2.2.2.tail⟩
  · show (dLs (1 + xs.headD 0 % 12).toNat xs.tail).1.length ≤ 12
    omega
  · show tot (dLs (1 + xs.headD 0 % 12).toNat xs.tail).1 ≤ 240
    omega
  · show 0 ≤ dBs _ ∧ dBs _ ≤ 255
    unfold dBs
    split <;> omega

set_option maxHeartbeats 4000000 in
set_option maxRecDepth 100000 in
theorem l4drawSegment_any (N D : Nat) (xs : List Int) (w : World) (h : CdAt N D w xs) (hx : Cod xs) (hD : D < w.heap.size) :
    Calls Try.prog 14 #[.pointer (some ⟨D, 0, none⟩)] w fun e w' => SegRet e w w' (dSg xs).2.1 (dSg xs).1 ∧ CdAt N D w' (dSg xs).2.2 ∧ Mv w.heap.size D w w' := by
  have hok := dSg_ok xs hx
  have HOK := hide hok
  have HX := hide hx
  have hb00 := below1 w (.cells #[.int .i64 0, .slice none 0 0, .slice none 0 0, .slice none 0 0] 28)
  have RR0 := hide (Row4.new w 28 (.int .i64 0) (.slice none 0 0) (.slice none 0 0) (.slice none 0 0))
  have H := hide (h.keep hb00 hD)
  obtain ⟨R, hR⟩ : ∃ R, dLs (1 + xs.headD 0 % 12).toNat xs.tail = R := ⟨_, rfl⟩
  obtain ⟨y, hy⟩ : ∃ y, R.2.headD 0 = y := ⟨_, rfl⟩
  have hS : dSg xs = (R.1, dBs y, R.2.tail) := by unfold dSg; rw [hR, hy]
  have hRc : Cod R.2 := by rw [← hR]; exact (dLs_ok _ xs.tail hx.tail).2.2.2
  have hyb := hRc.head
  rw [hy] at hyb
  obtain ⟨B, hB⟩ : ∃ B, dBs y = B := ⟨_, rfl⟩
  rw [hB] at hS
  rw [hS] at HOK ⊢
  have HBe := hide hB
  clear hB
  have HR := hide hR
  have HY := hide hy
  have HRC := hide hRc
  clear hok hx h hR hy hS hRc
  go_enter Try.func14, Try.ntmps14
  go_wp2_with fail
  refine (l4drawLines_any N D xs 12 _ (unhide H) (unhide HX) (by rw [sz_alloc]; omega) (by omega) (by omega)).mono ?_
  rintro e w1 ⟨⟨v, rfl, ps, hps, hll⟩, hc1, hm1⟩
  rw [unhide HR] at hps hc1
  rw [sz_alloc] at hll hm1
  have hz1 : w.heap.size + 1 ≤ w1.heap.size := by have := hm1.size; rwa [sz_alloc] at this
  have hM1 : Mv w.heap.size D w w1 := (Below.mv hb00 D).trans (hm1.mono (by omega))
  have RR1 := (unhide RR0).mv hm1 (by omega) (by omega)
  have HLL := hide hll
  have HPS := hide hps
  obtain ⟨la, lc, rfl⟩ := own_is hll.own
  clear RR0 hb00 H hll hps
  go_wp2_with fail
  refine (next_any N D R.2 w1 hc1 (unhide HRC)).mono ?_
  rintro e w2 ⟨he, hc2, ho2⟩
  rw [unhide HY] at he
  subst he
  have hz2 : w.heap.size + 1 ≤ w2.heap.size := Nat.le_trans hz1 (Nat.le_of_eq ho2.size.symm)
  have hM2 := hM1.trans (ho2.mv w.heap.size)
  have RR2 := RR1.mv (ho2.mv w1.heap.size) (by omega) (by omega)
  have HL2 := hide ((unhide HLL).keepMv (ho2.mv w1.heap.size) (Nat.le_refl _) (by omega))
  have HC2 := hide hc2
  clear hc1 hc2 ho2 hm1 RR1 HLL hM1
  have hss := LB.footR (unhide HL2)
  rw [unhide HPS] at hss
  have HSS := hide (hss.all (Nat.le_refl _))
  have HBB := hide (fun x hx => bytes_of_mem ((unhide HOK).2.2.1 x hx) : ∀ x ∈ R.1, Bytes x)
  have ht1 : R.1.length ≤ 12 := (unhide HOK).1
  have ht2 : tot R.1 ≤ 240 := (unhide HOK).2.1
  clear hss HOK
  by_cases h3 : y % 3 = 0
  · have hB0 : B = 0 := by rw [← unhide HBe]; exact if_pos h3
    subst hB0
    clear HBe
    go_wp2_with fail
    refine (l4build_any 0 _ R.1 w2 (unhide HSS) (unhide HBB) (by omega) (by omega) (by omega) (by omega)).mono ?_
    rintro e w3 ⟨⟨v3, ks, pss, rfl, hseg, hat⟩, hb3⟩
    have Hseg := hide hseg
    have hz3 := hb3.size
    have Hat := hide hat
    obtain ⟨lv, kv, pv, rfl, s1, s2, s3⟩ := hat
    obtain ⟨la3, lc3, rfl, -⟩ := id s1
    obtain ⟨ka, kc, rfl, -⟩ := id s2
    obtain ⟨pa, pc, rfl, -⟩ := id s3
    have RR3 := RR2.below hb3 (by omega)
    have HRR := hide RR3
    obtain ⟨r0, r1, r2, r3, t0, t1, t2, t3⟩ := RR3.facts
    have hM3 := hM2.trans (Below.mv (hb3.mono (show w.heap.size ≤ w2.heap.size by omega)) D)
    have HC3 := hide ((unhide HC2).keep hb3 (by omega))
    clear s1 s2 s3 hseg RR2 RR3 hb3
    go_wp2_with fail
    obtain ⟨e0, e1, e2, e3, -⟩ := ((((unhide HRR).put0 (u := .int .i64 0)).put1 (u := .slice la3 R.1.length lc3)).put2 (u := .slice ka ks.length kc)).put3 (u := .slice pa pss.length pc) |>.facts
    have hP := bput4 (Below.refl w.heap.size w3) (Nat.le_refl _) (.int .i64 0) (.slice la3 R.1.length lc3) (.slice ka ks.length kc) (.slice pa pss.length pc)
    refine bodyPost_ret (v := .agg #[.int .i64 0, .slice la3 R.1.length lc3, .slice ka ks.length kc, .slice pa pss.length pc]) (by simp [results, Try.results14, go_sem, e0, e1, e2, e3]) rfl ⟨⟨_, ks, pss, rfl, unhide Hseg, SegAt.low ((((unhide Hat).put (by omega)).put (by omega)).put (by omega) |>.put (by omega)) (by omega)⟩, (unhide HC3).keep hP hD, hM3.trans (Below.mv hP D)⟩
  · have hB0 : y = B := by rw [← unhide HBe]; exact (if_neg h3).symm
    subst hB0
    clear HBe
    go_wp2_with fail
    refine (l4build_any y _ R.1 w2 (unhide HSS) (unhide HBB) (by omega) (by omega) (by omega) (by omega)).mono ?_
    rintro e w3 ⟨⟨v3, ks, pss, rfl, hseg, hat⟩, hb3⟩
    have Hseg := hide hseg
    have hz3 := hb3.size
    have Hat := hide hat
    obtain ⟨lv, kv, pv, rfl, s1, s2, s3⟩ := hat
    obtain ⟨la3, lc3, rfl, -⟩ := id s1
    obtain ⟨ka, kc, rfl, -⟩ := id s2
    obtain ⟨pa, pc, rfl, -⟩ := id s3
    have RR3 := RR2.below hb3 (by omega)
    have HRR := hide RR3
    obtain ⟨r0, r1, r2, r3, t0, t1, t2, t3⟩ := RR3.facts
    have hM3 := hM2.trans (Below.mv (hb3.mono (show w.heap.size ≤ w2.heap.size by omega)) D)
    have HC3 := hide ((unhide HC2).keep hb3 (by omega))
    clear s1 s2 s3 hseg RR2 RR3 hb3
    go_wp2_with fail
    obtain ⟨e0, e1, e2, e3, -⟩ := ((((unhide HRR).put0 (u := .int .i64 y)).put1 (u := .slice la3 R.1.length lc3)).put2 (u := .slice ka ks.length kc)).put3 (u := .slice pa pss.length pc) |>.facts
    have hP := bput4 (Below.refl w.heap.size w3) (Nat.le_refl _) (.int .i64 y) (.slice la3 R.1.length lc3) (.slice ka ks.length kc) (.slice pa pss.length pc)
    refine bodyPost_ret (v := .agg #[.int .i64 y, .slice la3 R.1.length lc3, .slice ka ks.length kc, .slice pa pss.length pc]) (by simp [results, Try.results14, go_sem, e0, e1, e2, e3]) rfl ⟨⟨_, ks, pss, rfl, unhide Hseg, SegAt.low ((((unhide Hat).put (by omega)).put (by omega)).put (by omega) |>.put (by omega)) (by omega)⟩, (unhide HC3).keep hP hD, hM3.trans (Below.mv hP D)⟩

end Go.Proofs.Ytkajdhliejjohaa
