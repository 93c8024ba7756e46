import Derived.Test.YtfgngdfhejeolaaN11
import Derived.Test.YtfgngdfhejeolaaQ5
namespace Go.Proofs.Ytfgngdfhejeolaa
open Go.RowKit

theorem LL.footR {base : Nat} {w : World} {v : Value} {ps : List (Cl Int)} (h : LL mI 0 3 23 base w v ps) : SsF mI 0 (Rng base w.heap.size) w v (ps.map Cl.xs) := by
  refine h.foot (by decide) ?_
  have h1 := own_cap h.own
  obtain ⟨a, c, rfl⟩ := own_is h.own
  have := h1.le
  omega

set_option maxHeartbeats 8000000 in
set_option maxRecDepth 100000 in
theorem lawNorm_any (u : Value) (xss : List (List Int)) (w : World) (hu : SsAt mI 0 w.heap.size w u xss) :
    Calls Try.prog 4 #[.agg #[u]] w fun e w' => e = .returned (.bool true) ∧ Below w.heap.size w w' := by
  have Hu := hide hu
  obtain ⟨a, cap, rfl, -, -⟩ := hu
  go_enter Try.func4, Try.ntmps4
  go_wp2_with fail
  refine (szQuery_w _ xss 1048576 _ ((unhide Hu).below (below1 w _) (Nat.le_refl _)) (by omega) (by omega)).mono ?_
  rintro e w1 ⟨⟨r, rfl, hr⟩, hb1⟩
  have hz1 := hb1.size
  rw [sz_alloc] at hz1
  have hB1 : Below w.heap.size w w1 := (below1 w _).trans (hb1.mono (by rw [sz_alloc]; omega))
  have RA : Boxed w1 w.heap.size 33 (.slice a xss.length cap) := (hb1.block w.heap.size (by rw [sz_alloc]; omega)).trans (Boxed.new w _ _)
  have ca := RA.cell
  clear hb1
  by_cases hn : r < 0
  · go_wp2
    go_ret
    exact ⟨rfl, hB1⟩
  · have hT : tot xss ≤ 1048576 := by omega
    have hL : xss.length ≤ 1048576 := by omega
    clear hr
    go_wp2_with fail
    refine (toQuery_w _ xss _ ((unhide Hu).below hB1 (Nat.le_refl _)) hL hT).mono ?_
    rintro e w2 ⟨u2, rfl, hs2, hb2⟩
    have hz2 := hb2.size
    have hB2 : Below w.heap.size w w2 := hB1.trans (hb2.mono (by omega))
    have S2 := hide (hs2.all (Nat.le_refl _))
    obtain ⟨p2, q2, rfl, -⟩ := hs2
    have RA2 := hide (Boxed.below RA hb2 (by omega))
    clear hb2 ca
    go_wp2_with fail
    refine (specNorm_any _ xss _ (unhide S2) hL hT).mono ?_
    rintro e w3 ⟨v3, rs, rfl, hn3, hs3, hb3⟩
    have hz3 := hb3.size
    have hB3 : Below w.heap.size w w3 := hB2.trans (hb3.mono (by omega))
    have HN := hide hn3
    have S3 := hide hs3
    obtain ⟨p3, q3, rfl, -⟩ := hs3
    have RA3 := hide (Boxed.below (unhide RA2) hb3 (by omega))
    have ca : ∀ o : Obj, (w3.alloc o).cell? ⟨w.heap.size, 0, none⟩ = some (.slice a xss.length cap) := fun o => ((unhide RA3).alloc o).cell
    clear hb3 hn3 S2 RA2
    go_wp2_with fail
    have hV3 := below1 w3 (.cells #[.slice p3 rs.length q3] 35)
    refine (toQuery_w _ xss _ ((unhide Hu).below (hB3.trans (hV3.mono (by omega))) (Nat.le_refl _)) hL hT).mono ?_
    rintro e w4 ⟨u4, rfl, hs4, hb4⟩
    rw [sz_alloc] at hs4
    have hz4 := hb4.size
    rw [sz_alloc] at hz4
    have hB4 : Below w3.heap.size w3 w4 := hV3.trans (hb4.mono (by rw [sz_alloc]; omega))
    have RA4 := hide (Boxed.below (unhide RA3) hB4 (by omega))
    have RW4 := hide (Boxed.below (Boxed.new w3 35 (.slice p3 rs.length q3)) hb4 (by rw [sz_alloc]; omega))
    have S4 := hide hs4
    obtain ⟨p4, q4, rfl, -⟩ := hs4
    clear hb4 hV3 RA3 ca
    go_wp2_with fail
    have hV4 := below1 w4 (.cells #[.slice p4 xss.length q4] 35)
    refine (implNorm_any _ xss _ (((unhide S4).all (by omega)).below hV4 (Nat.le_refl _)) hL).mono ?_
    rintro e w5 ⟨v5, ps, rfl, hn5, ht5, hll5, hb5⟩
    rw [sz_alloc] at hll5
    have hz5 := hb5.size
    rw [sz_alloc] at hz5
    have hB5 : Below w4.heap.size w4 w5 := hV4.trans (hb5.mono (by rw [sz_alloc]; omega))
    have RX5 := hide (Boxed.below (Boxed.new w4 35 (.slice p4 xss.length q4)) hb5 (by rw [sz_alloc]; omega))
    have RA5 := hide (Boxed.below (unhide RA4) hB5 (by omega))
    have RW5 := hide (Boxed.below (unhide RW4) hB5 (by omega))
    have S45 := hide ((unhide S4).keep hB5 (Nat.le_refl _))
    have hB35 : Below w3.heap.size w3 w5 := hB4.trans (hB5.mono (by omega))
    have hs5 := hll5.footR
    obtain rfl := (unhide HN).uniq hn5
    have hsl : (ps.map Cl.xs).length = ps.length := List.length_map _
    generalize ps.map Cl.xs = rs at *
    obtain ⟨p5, q5, rfl, -⟩ := id hs5
    have S55 := hide hs5
    clear hb5 hV4 RA4 RW4 S4 hn5 hll5 hs5 hsl hB4 hB5
    have cw : ∀ o : Obj, (w5.alloc o).cell? ⟨w3.heap.size, 0, none⟩ = some (.slice p3 rs.length q3) := fun o => ((unhide RW5).alloc o).cell
    go_wp2_with fail
    have hV5 := below1 w5 (.cells #[.slice p5 rs.length q5] 35)
    have RG := Boxed.new w5 35 (.slice p5 rs.length q5)
    have hzV : (w5.alloc (.cells #[.slice p5 rs.length q5] 35)).heap.size = w5.heap.size + 1 := sz_alloc _ _
    generalize w5.alloc (.cells #[.slice p5 rs.length q5] 35) = V5 at *
    have HzV := hide hzV
    have hzV' : w5.heap.size + 1 ≤ V5.heap.size := by omega
    have hG5 : Below w5.heap.size w5 V5 := hV5
    refine (eqQuery_w _ _ rs _ (((unhide S55).keep hG5 (Nat.le_refl _)).all (by omega)) ((unhide S3).below (hB35.trans (hG5.mono (by omega))) (Nat.le_refl _))).mono ?_
    rintro e w6 ⟨rfl, hb6⟩
    have hz6 := hb6.size
    have hB6 : Below w5.heap.size w5 w6 := hG5.trans (hb6.mono (by omega))
    have RG6 := hide (Boxed.below RG hb6 (by omega))
    have RX6 := hide (Boxed.below (unhide RX5) hB6 (by omega))
    have RA6 := hide (Boxed.below (unhide RA5) hB6 (by omega))
    have RW6 := hide (Boxed.below (unhide RW5) hB6 (by omega))
    have SX6 := hide ((unhide S45).keep hB6 (by omega))
    have SG6 := hide ((unhide S55).keep hB6 (Nat.le_refl _))
    have hB36 : Below w3.heap.size w3 w6 := hB35.trans (hB6.mono (by omega))
    have hW6 : Below w.heap.size w w6 := hB3.trans (hB36.mono (by omega))
    have hS : Hid (∀ W' : World, Below w6.heap.size w6 W' → W'.cell? ⟨w4.heap.size, 0, none⟩ = some (.slice p4 xss.length q4) ∧ W'.cell? ⟨w.heap.size, 0, none⟩ = some (.slice a xss.length cap)) := fun W' hW => ⟨(Boxed.below (unhide RX6) hW (by omega)).cell, (Boxed.below (unhide RA6) hW (by omega)).cell⟩
    have cx := (unhide RX6).cell
    have ca := (unhide RA6).cell
    clear hb6 hV5 hG5 RG RX5 RA5 RW5 S45 S55 hzV hB6 hB35 cw
    go_wp2_with fail
    go_region_held3 (fun W' => W'.cell? ⟨w4.heap.size, 0, none⟩ = some (.slice p4 xss.length q4) ∧ W'.cell? ⟨w.heap.size, 0, none⟩ = some (.slice a xss.length cap))
      (first | go_keep | exact unhide hS _ hB9 | exact unhide hS _ hB8)
      (first
        | (go_at_call 16; refine (toQuery_w _ xss _ (by exact (unhide Hu).below hW6.drew (Nat.le_refl _)) hL hT).mono ?_; rintro e w8 ⟨u8, rfl, hs8, hb8⟩; have hB8 : Below w6.heap.size w6 w8 := ⟨hb8.os, hb8.tape, hb8.output, hb8.size, hb8.block⟩; have S8 := hide hs8; obtain ⟨p8, q8, rfl, -⟩ := hs8; clear hb8)
        | (go_at_call 18; refine (eqQuery_w _ _ xss _ (by exact ((unhide SX6).keep hB8 (by omega)).all (by have := hB8.size; omega)) (by exact (unhide S8).at (fun k hk => by unfold Rng at hk; omega))).mono ?_; rintro e w9 ⟨rfl, hb9⟩; have hB9 : Below w6.heap.size w6 w9 := hB8.trans (hb9.mono hB8.size); clear hb9))
    have hz9 := hB9.size
    have SX9 := hide ((unhide SX6).keep hB9 (by omega))
    have SG9 := hide ((unhide SG6).keep hB9 (by omega))
    have RG9 := hide (Boxed.below (unhide RG6) hB9 (by omega))
    have RW9 := hide (Boxed.below (unhide RW6) hB9 (by omega))
    have RA9 := hide (Boxed.below (unhide RA6) hB9 (by omega))
    have RX9 := hide (Boxed.below (unhide RX6) hB9 (by omega))
    have hB39 : Below w3.heap.size w3 w9 := hB36.trans (hB9.mono (by omega))
    have cx := (unhide RX9).cell
    clear ca hB8 S8 hS hB9 SX6 SG6 RG6 RW6 RA6 RX6 hB36
    go_wp2_with fail
    refine (markQuery_w _ xss 1 (Rng (w3.heap.size + 1) w4.heap.size) _ (unhide SX9) (fun j hj => by unfold Rng at hj; omega) (by omega) (by omega) (by omega)).mono ?_
    rintro e w10 ⟨rfl, -, hz10, hblk, ho1, ho2, ho3⟩
    have hB10 : Below (w3.heap.size + 1) w9 w10 := ⟨ho1, ho2, ho3, hz10, fun k hk => hblk k (by omega) (fun h => by unfold Rng at h; omega)⟩
    have SG10 := hide ((unhide SG9).same (w' := w10) (fun k hk => hblk k (by unfold Rng at hk; omega) (fun h => by unfold Rng at h hk; omega)))
    have RG10 : Hid (Boxed w10 w5.heap.size 35 (.slice p5 rs.length q5)) := (hblk _ (by omega) (fun h => by unfold Rng at h; omega)).trans (unhide RG9)
    have RA10 := hide (Boxed.below (unhide RA9) hB10 (by omega))
    have RW10 := hide (Boxed.below (unhide RW9) hB10 (by omega))
    have hB310 : Below w3.heap.size w3 w10 := hB39.trans (hB10.mono (by omega))
    have hk1 : ¬ (1 : Int) + (tot xss : Int) < 0 := by omega
    have cg := (unhide RG10).cell
    have cw := (unhide RW10).cell
    clear hB10 hblk ho1 ho2 ho3 SG9 SX9 RG9 RA9 RW9 RX9 hB39 cx
    go_wp2_with fail
    refine (eqQuery_w _ _ rs _ ((unhide SG10).all (by omega)) ((unhide S3).below hB310 (Nat.le_refl _))).mono ?_
    rintro e w11 ⟨rfl, hb11⟩
    have hz11 := hb11.size
    have SG11 := hide ((unhide SG10).keep hb11 (by omega))
    have RG11 := hide (Boxed.below (unhide RG10) hb11 (by omega))
    have RA11 := hide (Boxed.below (unhide RA10) hb11 (by omega))
    have RW11 := hide (Boxed.below (unhide RW10) hb11 (by omega))
    have hB311 : Below w3.heap.size w3 w11 := hB310.trans (hb11.mono (by omega))
    have cg := (unhide RG11).cell
    clear hb11 SG10 RG10 RA10 RW10 hB310 cw
    go_wp2_with fail
    refine (markQuery_w _ rs 1 (Rng (w4.heap.size + 1) w5.heap.size) _ (unhide SG11) (fun j hj => by unfold Rng at hj; omega) (by omega) (by omega) (by omega)).mono ?_
    rintro e w12 ⟨rfl, hs12, hz12, hblk, ho1, ho2, ho3⟩
    have hB12 : Below (w4.heap.size + 1) w11 w12 := ⟨ho1, ho2, ho3, hz12, fun k hk => hblk k (by omega) (fun h => by unfold Rng at h; omega)⟩
    have SG12 := hide (hs12.all (by omega))
    have RG12 : Hid (Boxed w12 w5.heap.size 35 (.slice p5 rs.length q5)) := (hblk _ (by omega) (fun h => by unfold Rng at h; omega)).trans (unhide RG11)
    have RA12 := hide (Boxed.below (unhide RA11) hB12 (by omega))
    have RW12 := hide (Boxed.below (unhide RW11) hB12 (by omega))
    have hB312 : Below w3.heap.size w3 w12 := hB311.trans (hB12.mono (by omega))
    have cg := (unhide RG12).cell
    clear hB12 hblk ho1 ho2 ho3 SG11 RG11 RA11 RW11 hB311 hs12
    go_wp2_with fail
    refine (heldQuery_w _ rs 1 _ (unhide SG12) (by omega) (by omega) (by omega)).mono ?_
    rintro e w13 ⟨rfl, hb13⟩
    have hz13 := hb13.size
    have RA13 := hide (Boxed.below (unhide RA12) hb13 (by omega))
    have RW13 := hide (Boxed.below (unhide RW12) hb13 (by omega))
    have hB313 : Below w3.heap.size w3 w13 := hB312.trans (hb13.mono (by omega))
    have hW13 : Below w.heap.size w w13 := hB3.trans (hB313.mono (by omega))
    have hk2 : ¬ (1 : Int) + (tot rs : Int) < 0 := by omega
    have ca := (unhide RA13).cell
    clear hb13 SG12 RG12 RA12 RW12 hB312 cg
    go_wp2_with fail
    refine (toQuery_w _ xss _ ((unhide Hu).below hW13 (Nat.le_refl _)) hL hT).mono ?_
    rintro e w14 ⟨u14, rfl, hs14, hb14⟩
    have hz14 := hb14.size
    have S14 := hide (hs14.all (Nat.le_refl _))
    obtain ⟨p14, q14, rfl, -⟩ := hs14
    have RW14 := hide (Boxed.below (unhide RW13) hb14 (by omega))
    have hB314 : Below w3.heap.size w3 w14 := hB313.trans (hb14.mono (by omega))
    clear hb14 hB313 hW13 RA13 RW13 ca
    go_wp2_with fail
    refine (implNorm_any _ xss _ (unhide S14) hL).mono ?_
    rintro e w15 ⟨v15, ps', rfl, hn15, -, hll15, hb15⟩
    have hz15 := hb15.size
    have hs15 := hll15.footR
    rw [← (unhide HN).uniq hn15] at hs15
    obtain ⟨p15, q15, rfl, -⟩ := id hs15
    have S15 := hide (hs15.all (Nat.le_refl _))
    have RW15 := hide (Boxed.below (unhide RW14) hb15 (by omega))
    have hB315 : Below w3.heap.size w3 w15 := hB314.trans (hb15.mono (by omega))
    have cw : ∀ o : Obj, (w15.alloc o).cell? ⟨w3.heap.size, 0, none⟩ = some (.slice p3 rs.length q3) := fun o => ((unhide RW15).alloc o).cell
    clear hb15 hn15 hll15 hs15 RW14 hB314
    go_wp2_with fail
    have hV15 := below1 w15 (.cells #[.slice p15 rs.length q15] 35)
    refine (eqQuery_w _ _ rs _ ((unhide S15).below hV15 (Nat.le_refl _)) ((unhide S3).below (hB315.trans (hV15.mono (by omega))) (Nat.le_refl _))).mono ?_
    rintro e w16 ⟨rfl, hb16⟩
    have hB16 : Below w.heap.size w w16 := hB3.trans ((hB315.trans ((hV15.mono (by omega)).trans (hb16.mono (by rw [sz_alloc]; omega)))).mono (by omega))
    clear hb16 hV15
    go_wp2
    go_ret
    exact ⟨rfl, hB16⟩

end Go.Proofs.Ytfgngdfhejeolaa
