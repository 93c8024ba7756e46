import Derived.Test.YtjefklagedidmaaGreatQo4
import Derived.Test.YtjefklagedidmaaGreatQo5
import Derived.Test.YtjefklagedidmaaGreatJ24
import Derived.Test.YtjefklagedidmaaGreatP6
namespace Go.Proofs.YtjefklagedidmaaGreat
open Go.RowKit

theorem LL.footQ {base : Nat} {w : World} {v : Value} {ps : List (Cl Int)} (h : LL mI 0 3 41 base w v ps) : SsF mI 0 (Rng base w.heap.size) w v (ps.map Cl.xs) := by
  refine h.foot (by decide) ?_
  have h1 := own_cap h.own
  obtain ⟨a, c, rfl⟩ := own_is h.own
  have := h1.le
  omega

set_option maxHeartbeats 8000000 in
set_option maxRecDepth 100000 in
theorem lawQ_any (l r : Bool) (v : Value) (xs : List El) (w : World) (hv : ElsAt 0 w.heap.size w v xs) :
    Calls Tryz.prog 3 #[.agg #[.bool l, .bool r, v]] w fun e w' => e = .returned (.bool true) ∧ Below w.heap.size w w' := by
  obtain ⟨a, cp, rfl, -, -⟩ := id hv
  have HN := hide (num_of hv)
  have Hv := hide hv
  clear hv
  go_enter Tryz.func3, Tryz.ntmps3
  go_wp2_with fail
  refine (szPattern_any l r _ xs _ (by exact (unhide Hv).below (below1 w _) (Nat.le_refl _))).mono ?_
  rintro e w1 ⟨⟨q, rfl, hq⟩, hb1⟩
  have hz1 := hb1.size
  rw [sz_alloc] at hz1
  have hB1 : Below w.heap.size w w1 := (below1 w _).trans (hb1.mono (by rw [sz_alloc]; omega))
  have RA1 := hide ((Bx3.new w 24 (.bool l) (.bool r) (.slice a xs.length cp)).below hb1 (by rw [sz_alloc]; omega))
  clear hb1
  rcases hq with rfl | ⟨hq0, hq1⟩
  · go_wp2
    go_ret
    exact ⟨rfl, hB1⟩
  · have hsum : xs.length + bulk xs ≤ 1048576 := by omega
    have Hset := hide (set_le (xs := xs) (m := 1048576) (by omega))
    have hxl : xs.length ≤ 1048576 := by omega
    obtain ⟨k0, k1, k2⟩ := (unhide RA1).facts
    clear hq1
    go_wp2_with fail
    refine (toPattern_w l r _ xs _ ((unhide Hv).below hB1 (Nat.le_refl _)) hxl (unhide Hset)).mono ?_
    rintro e w2 ⟨v2, rfl, h2, hb2⟩
    obtain ⟨a2, c2, rfl⟩ := el_is h2
    have hz2 := hb2.size
    have hB2 : Below w.heap.size w w2 := hB1.trans (hb2.mono (by omega))
    have RA2 := hide ((unhide RA1).below hb2 (by omega))
    have E2 := hide (h2.at (N := w2.heap.size) (fun k hk => hk.2) (unhide HN))
    clear h2 hb2 RA1 k0 k1 k2
    go_wp2_with fail
    refine (specQ_any l r _ xs _ (unhide E2)).mono ?_
    rintro e w3 ⟨v3, rs, rfl, hans, hs3, hb3⟩
    have hz3 := hb3.size
    have hB3 : Below w.heap.size w w3 := hB2.trans (hb3.mono (by omega))
    have RA3 := hide ((unhide RA2).below hb3 (by omega))
    have Hans := hide hans
    have S3 := hide hs3
    obtain ⟨p3, q3, rfl, -⟩ := hs3
    have HA3 : Hid (∀ o : Obj, ((w3.alloc o).cell? ⟨w.heap.size, 0, none⟩ = some (.bool l) ∧ (w3.alloc o).cell? ⟨w.heap.size, 1, none⟩ = some (.bool r) ∧ (w3.alloc o).cell? ⟨w.heap.size, 2, none⟩ = some (.slice a xs.length cp))) := fun o => ((unhide RA3).below (below1 w3 o) (by omega)).facts
    obtain ⟨k0, k1, k2⟩ := unhide HA3 (.cells #[.slice p3 rs.length q3] 28)
    clear hans E2 hb3 RA2
    go_wp2_with fail
    have hV3 := below1 w3 (.cells #[.slice p3 rs.length q3] 28)
    have RW3 := Boxed.new w3 28 (.slice p3 rs.length q3)
    have hzV3 : (w3.alloc (.cells #[.slice p3 rs.length q3] 28)).heap.size = w3.heap.size + 1 := sz_alloc _ _
    generalize w3.alloc (.cells #[.slice p3 rs.length q3] 28) = V3 at *
    have hzV3' : w3.heap.size + 1 ≤ V3.heap.size := by omega
    clear hzV3
    refine (toPattern_w l r _ xs _ ((unhide Hv).below (hB3.trans (hV3.mono (by omega))) (Nat.le_refl _)) hxl (unhide Hset)).mono ?_
    rintro e w4 ⟨x0, rfl, hx0, hb4⟩
    obtain ⟨a4, c4, rfl⟩ := el_is hx0
    have hz4 := hb4.size
    have hB34 : Below w3.heap.size w3 w4 := hV3.trans (hb4.mono (by omega))
    have RA4 := hide ((unhide RA3).below hB34 (by omega))
    have RW4 := hide (Boxed.below' RW3 hb4 (by omega))
    have X4 := hide hx0
    clear hx0 hb4 RA3 HA3 RW3 k0 k1 k2 hV3
    go_wp2_with fail
    have hV4 := below1 w4 (.cells #[.bool l, .bool r, .slice a4 xs.length c4] 32)
    have RX := Bx3.new w4 32 (.bool l) (.bool r) (.slice a4 xs.length c4)
    have hzV : (w4.alloc (.cells #[.bool l, .bool r, .slice a4 xs.length c4] 32)).heap.size = w4.heap.size + 1 := sz_alloc _ _
    generalize w4.alloc (.cells #[.bool l, .bool r, .slice a4 xs.length c4] 32) = V4 at *
    have hzV' : w4.heap.size + 1 ≤ V4.heap.size := by omega
    clear hzV
    refine (implQ_any l r _ xs _ (((unhide X4).at (fun k hk => hk.2) (unhide HN)).below hV4 (Nat.le_refl _))).mono ?_
    rintro e w5 ⟨v5, ps, rfl, hans5, ht5, hll5, hb5⟩
    have hz5 := hb5.size
    have hB45 : Below w4.heap.size w4 w5 := hV4.trans (hb5.mono (by omega))
    have hB35 : Below w3.heap.size w3 w5 := hB34.trans (hB45.mono (by omega))
    have RA5 := hide ((unhide RA4).below hB45 (by omega))
    have RW5 := hide (Boxed.below' (unhide RW4) hB45 (by omega))
    have RX5 := hide (RX.below hb5 (by omega))
    have X5 := hide ((unhide X4).keep hB45 (fun k hk => hk.2))
    have hs5 := hll5.footQ
    obtain rfl := (unhide Hans).one hans5
    generalize ps.map Cl.xs = rs at *
    obtain ⟨p5, q5, rfl, -⟩ := id hs5
    have S55 := hide hs5
    have cw : ∀ o : Obj, (w5.alloc o).cell? ⟨w3.heap.size, 0, none⟩ = some (.slice p3 rs.length q3) := fun o => ((unhide RW5).alloc o).cell
    clear hb5 hV4 RA4 RW4 X4 hans5 hll5 hs5 hB45 hB34 RX
    go_wp2_with fail
    have hV5 := below1 w5 (.cells #[.slice p5 rs.length q5] 28)
    have RG := Boxed.new w5 28 (.slice p5 rs.length q5)
    have hzV5 : (w5.alloc (.cells #[.slice p5 rs.length q5] 28)).heap.size = w5.heap.size + 1 := sz_alloc _ _
    generalize w5.alloc (.cells #[.slice p5 rs.length q5] 28) = V5 at *
    have hzV5' : w5.heap.size + 1 ≤ V5.heap.size := by omega
    clear hzV5
    refine (eqQuery_w _ _ rs _ (((unhide S55).keep hV5 (Nat.le_refl _)).all (by omega)) ((unhide S3).below (hB35.trans (hV5.mono (by omega))) (Nat.le_refl _))).mono ?_
    rintro e w6 ⟨rfl, hb6⟩
    have hz6 := hb6.size
    have hB6 : Below w5.heap.size w5 w6 := hV5.trans (hb6.mono (by omega))
    have RG6 := hide (Boxed.below' RG hb6 (by omega))
    have RX6 := hide ((unhide RX5).below hB6 (by omega))
    have RA6 := hide ((unhide RA5).below hB6 (by omega))
    have RW6 := hide (Boxed.below' (unhide RW5) hB6 (by omega))
    have X6 := hide ((unhide X5).keep hB6 (fun k hk => by have := hk.2; omega))
    have G6 := hide ((unhide S55).keep hB6 (Nat.le_refl _))
    have hB36 : Below w3.heap.size w3 w6 := hB35.trans (hB6.mono (by omega))
    have hW6 : Below w.heap.size w w6 := hB3.trans (hB36.mono (by omega))
    have hS : Hid (∀ W' : World, Below w6.heap.size w6 W' → (W'.cell? ⟨w4.heap.size, 0, none⟩ = some (.bool l) ∧ W'.cell? ⟨w4.heap.size, 1, none⟩ = some (.bool r) ∧ W'.cell? ⟨w4.heap.size, 2, none⟩ = some (.slice a4 xs.length c4)) ∧ W'.cell? ⟨w.heap.size, 0, none⟩ = some (.bool l) ∧ W'.cell? ⟨w.heap.size, 1, none⟩ = some (.bool r) ∧ W'.cell? ⟨w.heap.size, 2, none⟩ = some (.slice a xs.length cp)) := fun W' hW => ⟨((unhide RX6).below hW (by omega)).facts, ((unhide RA6).below hW (by omega)).facts⟩
    obtain ⟨k0, k1, k2⟩ := (unhide RA6).facts
    obtain ⟨x0, x1, x2⟩ := (unhide RX6).facts
    clear hb6 hV5 RG RX5 RA5 RW5 X5 S55 hB6 hB35 cw
    go_wp2_with fail
    go_region_held3 (fun W' => (W'.cell? ⟨w4.heap.size, 0, none⟩ = some (.bool l) ∧ W'.cell? ⟨w4.heap.size, 1, none⟩ = some (.bool r) ∧ W'.cell? ⟨w4.heap.size, 2, none⟩ = some (.slice a4 xs.length c4)) ∧ W'.cell? ⟨w.heap.size, 0, none⟩ = some (.bool l) ∧ W'.cell? ⟨w.heap.size, 1, none⟩ = some (.bool r) ∧ W'.cell? ⟨w.heap.size, 2, none⟩ = some (.slice a xs.length cp))
      (first | go_keep | exact unhide hS _ hB9 | exact unhide hS _ hB8)
      (first
        | (go_at_call 6; refine (toPattern_w l r _ xs _ (by exact (unhide Hv).below hW6.drew (Nat.le_refl _)) hxl (unhide Hset)).mono ?_; rintro e w8 ⟨u8, rfl, hs8, hb8⟩; have hB8 : Below w6.heap.size w6 w8 := ⟨hb8.os, hb8.tape, hb8.output, hb8.size, hb8.block⟩; have S8 := hide (hs8.at (N := w8.heap.size) (fun k hk => hk.2) (unhide HN)); obtain ⟨p8, q8, rfl⟩ := el_is hs8; clear hb8 hs8)
        | (go_at_call 9; refine (eqPattern_same l r _ _ xs _ (by exact ((unhide X6).keep hB8 (fun k hk => by have := hk.2; omega)).at (fun k hk => by have := hk.2; have := hB8.size; show k < w8.heap.size; omega) (unhide HN)) (by exact unhide S8)).mono ?_; rintro e w9 ⟨rfl, hb9⟩; have hB9 : Below w6.heap.size w6 w9 := hB8.trans (hb9.mono hB8.size); clear hb9))
    have hz9 := hB9.size
    have RA9 := hide ((unhide RA6).below hB9 (by omega))
    have RX9 := hide ((unhide RX6).below hB9 (by omega))
    have RG9 := hide (Boxed.below' (unhide RG6) hB9 (by omega))
    have RW9 := hide (Boxed.below' (unhide RW6) hB9 (by omega))
    have X9 := hide ((unhide X6).keep hB9 (fun k hk => by have := hk.2; omega))
    have G9 := hide ((unhide G6).keep hB9 (by omega))
    have hB39 : Below w3.heap.size w3 w9 := hB36.trans (hB9.mono (by omega))
    clear k0 k1 k2 x0 x1 x2
    obtain ⟨x0, x1, x2⟩ := (unhide RX9).facts
    clear hB8 S8 hS hB9 X6 G6 RA6 RX6 RG6 RW6 hB36
    go_wp2_with fail
    refine (markPattern_f l r _ xs 1 (Rng V3.heap.size w4.heap.size) _ (unhide X9) (by omega) (by omega) hsum (unhide Hset) (fun j hj => by have := hj.2; omega)).mono ?_
    rintro e w10 ⟨rfl, WW, hbW, hcW⟩
    have hzW := hbW.size
    have hzW2 := hcW.size
    have hblk : ∀ k, k < w9.heap.size → ¬ Rng V3.heap.size w4.heap.size k → w10.heap[k]? = w9.heap[k]? := fun k h1 h2 => (hcW.block k h2).trans (hbW.block k h1)
    have hz10 : w9.heap.size ≤ w10.heap.size := by omega
    have hB310 : Below w3.heap.size w3 w10 := hB39.trans ((hbW.mono (by omega)).trans ((hcW.below (lo := V3.heap.size) (fun k hk => hk.1)).mono (by omega)))
    have G10 := hide ((unhide G9).same (w' := w10) (fun k hk => hblk k (by have := hk.2; omega) (fun q => by have := hk.1; have := q.2; omega)))
    have RG10 : Hid (Boxed w10 w5.heap.size 28 (.slice p5 rs.length q5)) := (hblk _ (by omega) (fun h => by have := h.2; omega)).trans (unhide RG9)
    have RW10 : Hid (Boxed w10 w3.heap.size 28 (.slice p3 rs.length q3)) := (hblk _ (by omega) (fun h => by have := h.1; omega)).trans (unhide RW9)
    have RA10 := hide ((unhide RA9).blk (hblk _ (by omega) (fun q => by have := q.1; omega)))
    have hen := endE_bd 1 xs
    generalize endE 1 xs = K9 at *
    have hK9 : ¬ K9 < 0 := by omega
    have cg := (unhide RG10).cell
    have cw := (unhide RW10).cell
    clear hbW hcW hblk X9 G9 RA9 RX9 RG9 RW9 hen x0 x1 x2 hzW hzW2 hB39
    go_wp2_with fail
    refine (eqQuery_w _ _ rs _ ((unhide G10).all (by omega)) ((unhide S3).below hB310 (Nat.le_refl _))).mono ?_
    rintro e w11 ⟨rfl, hb11⟩
    have hz11 := hb11.size
    have G11 := hide ((unhide G10).keep hb11 (by omega))
    have RG11 := hide (Boxed.below' (unhide RG10) hb11 (by omega))
    have RA11 := hide ((unhide RA10).below hb11 (by omega))
    have RW11 := hide (Boxed.below' (unhide RW10) hb11 (by omega))
    have hB311 : Below w3.heap.size w3 w11 := hB310.trans (hb11.mono (by omega))
    clear cg cw
    have cg := (unhide RG11).cell
    clear hb11 G10 RG10 RA10 RW10 hB310
    go_wp2_with fail
    refine (markQuery_w _ rs 1 (Rng V4.heap.size w5.heap.size) _ (unhide G11) (fun j hj => by unfold Rng at hj; omega) (by omega) (by omega) (by omega)).mono ?_
    rintro e w12 ⟨rfl, hs12, hz12, hblk, ho1, ho2, ho3⟩
    have hB12 : Below V4.heap.size w11 w12 := ⟨ho1, ho2, ho3, hz12, fun k hk => hblk k (by omega) (fun h => by unfold Rng at h; omega)⟩
    have G12 := hide (hs12.all (by omega))
    have RG12 : Hid (Boxed w12 w5.heap.size 28 (.slice p5 rs.length q5)) := (hblk _ (by omega) (fun h => by unfold Rng at h; omega)).trans (unhide RG11)
    have RA12 := hide ((unhide RA11).below hB12 (by omega))
    have RW12 := hide (Boxed.below' (unhide RW11) hB12 (by omega))
    have hB312 : Below w3.heap.size w3 w12 := hB311.trans (hB12.mono (by omega))
    clear cg
    have cg := (unhide RG12).cell
    clear hB12 hblk ho1 ho2 ho3 G11 RG11 RA11 RW11 hB311 hs12
    go_wp2_with fail
    refine (heldQuery_w _ rs 1 _ (unhide G12) (by omega) (by omega) (by omega)).mono ?_
    rintro e w13 ⟨rfl, hb13⟩
    have hz13 := hb13.size
    have RA13 := hide ((unhide RA12).below hb13 (by omega))
    have RW13 := hide (Boxed.below' (unhide RW12) hb13 (by omega))
    have hB313 : Below w3.heap.size w3 w13 := hB312.trans (hb13.mono (by omega))
    have hW13 : Below w.heap.size w w13 := hB3.trans (hB313.mono (by omega))
    have hk2 : ¬ (1 : Int) + (tot rs : Int) < 0 := by omega
    obtain ⟨k0, k1, k2⟩ := (unhide RA13).facts
    clear hb13 G12 RG12 RA12 RW12 hB312 cg
    go_wp2_with fail
    refine (toPattern_w l r _ xs _ ((unhide Hv).below hW13 (Nat.le_refl _)) hxl (unhide Hset)).mono ?_
    rintro e w14 ⟨z0, rfl, hz0, hb14⟩
    obtain ⟨a14, c14, rfl⟩ := el_is hz0
    have hz14 := hb14.size
    have Z14 := hide (hz0.at (N := w14.heap.size) (fun k hk => hk.2) (unhide HN))
    have RW14 := hide (Boxed.below' (unhide RW13) hb14 (by omega))
    have hB314 : Below w3.heap.size w3 w14 := hB313.trans (hb14.mono (by omega))
    clear hz0 hb14 hB313 hW13 RA13 RW13 k0 k1 k2
    go_wp2_with fail
    refine (implQ_any l r _ xs _ (unhide Z14)).mono ?_
    rintro e w15 ⟨v15, ps', rfl, hans15, -, hll15, hb15⟩
    have hz15 := hb15.size
    have hs15 := hll15.footQ
    rw [← (unhide Hans).one hans15] at hs15
    obtain ⟨p15, q15, rfl, -⟩ := id hs15
    have S15 := hide (hs15.all (Nat.le_refl _))
    have RW15 := hide (Boxed.below' (unhide RW14) hb15 (by omega))
    have hB315 : Below w3.heap.size w3 w15 := hB314.trans (hb15.mono (by omega))
    have cw : ∀ o : Obj, (w15.alloc o).cell? ⟨w3.heap.size, 0, none⟩ = some (.slice p3 rs.length q3) := fun o => ((unhide RW15).alloc o).cell
    clear hb15 hans15 hll15 hs15 RW14 hB314 Z14
    go_wp2_with fail
    have hV15 := below1 w15 (.cells #[.slice p15 rs.length q15] 28)
    refine (eqQuery_w _ _ rs _ ((unhide S15).below hV15 (Nat.le_refl _)) ((unhide S3).below (hB315.trans (hV15.mono (by omega))) (Nat.le_refl _))).mono ?_
    rintro e w16 ⟨rfl, hb16⟩
    have hB16 : Below w.heap.size w w16 := hB3.trans ((hB315.trans ((hV15.mono (by omega)).trans (hb16.mono (by rw [sz_alloc]; omega)))).mono (by omega))
    clear hb16 hV15
    go_wp2
    go_ret
    exact ⟨rfl, hB16⟩

end Go.Proofs.YtjefklagedidmaaGreat
