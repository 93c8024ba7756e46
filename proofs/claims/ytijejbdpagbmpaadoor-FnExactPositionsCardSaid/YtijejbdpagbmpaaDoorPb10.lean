import Derived.Test.YtijejbdpagbmpaaDoorPb8
import Derived.Test.YtijejbdpagbmpaaDoorPb9
import Derived.Test.YtijejbdpagbmpaaDoorVP
import Derived.Test.YtijejbdpagbmpaaDoorVE
import Derived.Test.YtijejbdpagbmpaaDoorA2
import Derived.Test.YtijejbdpagbmpaaDoorA5
import Derived.Deep.RegionHeld3
namespace Go.Proofs.YtijejbdpagbmpaaDoor
open Go.RowKit

theorem AutoV.form {w : World} {v : Value} {S W : List (List Int)} {b : Bool} {F L : List Int} (h : AutoV w v S b F L W) : ∃ p1 pc1 p2 pc2 p3 pc3 p4 pc4, v = .agg #[.slice p1 S.length pc1, .bool b, .slice p2 F.length pc2, .slice p3 L.length pc3, .slice p4 W.length pc4] := by
  obtain ⟨sv, fv, lv, wv, rfl, ⟨p1, pc1, rfl, -, -⟩, ⟨p2, pc2, rfl, -, -⟩, ⟨p3, pc3, rfl, -, -⟩, ⟨p4, pc4, rfl, -, -⟩⟩ := h
  exact ⟨p1, pc1, p2, pc2, p3, pc3, p4, pc4, rfl⟩

set_option maxHeartbeats 8000000 in
set_option maxRecDepth 100000 in
theorem lawPos_any (l r : Bool) (v : Value) (xs : List El) (w : World) (hv : ElsAt 0 w.heap.size w v xs) (htz : TZ w) (hlt : Tryd.laysTZ_ren.g 1 < w.heap.size) :
    Calls Tryd.prog 3 #[.agg #[.bool l, .bool r, v]] w fun e w' => e = .returned (.bool true) ∧ Below w.heap.size w w' := by
  obtain ⟨a, cp, rfl, -, -⟩ := id hv
  have HN := hide (num_of hv)
  have Hv := hide hv
  have HTZ : Hid (∀ W, Below w.heap.size w W → TZ W ∧ Tryd.laysTZ_ren.g 1 < W.heap.size) := fun W hW => ⟨htz.below hW hlt, by have := hW.size; omega⟩
  clear hv htz hlt
  go_enter Tryd.func3, Tryd.ntmps3
  go_wp2_with fail
  refine (szPattern_any l r _ xs _ (by exact (unhide Hv).below (below1 w _) (Nat.le_refl _))).mono ?_
  rintro e w1 ⟨⟨q, rfl, hq⟩, hb1⟩
  have hz1 := hb1.size
  rw [sz_alloc] at hz1
  have hB1 : Below w.heap.size w w1 := (below1 w _).trans (hb1.mono (by rw [sz_alloc]; omega))
  have RA1 := hide ((Bx3.new w 24 (.bool l) (.bool r) (.slice a xs.length cp)).below hb1 (by rw [sz_alloc]; omega))
  clear hb1
  rcases hq with rfl | ⟨hq0, hq1⟩
  · go_wp2
    go_ret
    exact ⟨rfl, hB1⟩
  · have hsum : xs.length + bulk xs ≤ 1048576 := by omega
    have Hset := hide (set_le (xs := xs) (m := 1048576) (by omega))
    have hxl : xs.length ≤ 1048576 := by omega
    obtain ⟨k0, k1, k2⟩ := (unhide RA1).facts
    clear hq1
    go_wp2_with fail
    refine (toPattern_w l r _ xs _ ((unhide Hv).below hB1 (Nat.le_refl _)) hxl (unhide Hset)).mono ?_
    rintro e w2 ⟨v2, rfl, h2, hb2⟩
    obtain ⟨a2, c2, rfl⟩ := el_is h2
    have hz2 := hb2.size
    have hB2 : Below w.heap.size w w2 := hB1.trans (hb2.mono (by omega))
    have RA2 := hide ((unhide RA1).below hb2 (by omega))
    have E2 := hide (h2.at (N := w2.heap.size) (fun k hk => hk.2) (unhide HN))
    clear h2 hb2 RA1 k0 k1 k2
    go_wp2_with fail
    refine (specPos_any l r _ xs _ (unhide E2)).mono ?_
    rintro e w3' ⟨s0, S, b, F, L, W, rfl, hans, hs0, hb3⟩
    obtain ⟨p1, pc1, p2, pc2, p3, pc3, p4, pc4, rfl⟩ := hs0.form
    have hz3 := hb3.size
    have hRS := Row5.new w3' (.slice p1 S.length pc1) b (.slice p2 F.length pc2) (.slice p3 L.length pc3) (.slice p4 W.length pc4)
    have hV3 := below1 w3' (.cells #[.slice p1 S.length pc1, .bool b, .slice p2 F.length pc2, .slice p3 L.length pc3, .slice p4 W.length pc4] 29)
    obtain ⟨w3, hw3⟩ : ∃ w3, w3 = w3'.alloc (.cells #[.slice p1 S.length pc1, .bool b, .slice p2 F.length pc2, .slice p3 L.length pc3, .slice p4 W.length pc4] 29) := ⟨_, rfl⟩
    have S3 : Hid (AutoV w3 (.agg #[.slice p1 S.length pc1, .bool b, .slice p2 F.length pc2, .slice p3 L.length pc3, .slice p4 W.length pc4]) S b F L W) := by rw [hw3]; exact hs0.below hV3
    have RA3 : Hid (Bx3 w3 w.heap.size 24 (.bool l) (.bool r) (.slice a xs.length cp)) := by rw [hw3]; exact ((unhide RA2).below hb3 (by omega)).below hV3 (by omega)
    have RS3 : Hid (Row5 w3 w3'.heap.size (.slice p1 S.length pc1) b (.slice p2 F.length pc2) (.slice p3 L.length pc3) (.slice p4 W.length pc4)) := by rw [hw3]; exact hRS
    have hz3' : w3.heap.size = w3'.heap.size + 1 := by rw [hw3, sz_alloc]
    have hB3 : Below w.heap.size w w3 := by rw [hw3]; exact (hB2.trans (hb3.mono (by omega))).trans (hV3.mono (by omega))
    have Hans := hide hans
    obtain ⟨k0, k1, k2⟩ := (unhide RA3).facts
    rw [hw3] at k0 k1 k2
    have HW3 := hide hw3
    clear hs0 hans E2 hb3 RA2 hRS hV3 hw3
    go_wp2_with fail
    rw [← unhide HW3]
    clear HW3
    refine (toPattern_w l r _ xs _ ((unhide Hv).below hB3 (Nat.le_refl _)) hxl (unhide Hset)).mono ?_
    rintro e w4 ⟨x0, rfl, hx0, hb4⟩
    obtain ⟨a4, c4, rfl⟩ := el_is hx0
    have hz4 := hb4.size
    have hB4 : Below w.heap.size w w4 := hB3.trans (hb4.mono (by omega))
    have RA4 := hide ((unhide RA3).below hb4 (by omega))
    have RS4 := hide ((unhide RS3).on (hb4.block _ (by omega)))
    have hB34 : Below w3.heap.size w3 w4 := hb4
    have X4 := hide hx0
    clear hx0 hb4 RA3 k0 k1 k2 RS3
    go_wp2_with fail
    have hV4 := below1 w4 (.cells #[.bool l, .bool r, .slice a4 xs.length c4] 33)
    have RX := Bx3.new w4 33 (.bool l) (.bool r) (.slice a4 xs.length c4)
    have hzV : (w4.alloc (.cells #[.bool l, .bool r, .slice a4 xs.length c4] 33)).heap.size = w4.heap.size + 1 := sz_alloc _ _
    generalize w4.alloc (.cells #[.bool l, .bool r, .slice a4 xs.length c4] 33) = V4 at *
    have hzV' : w4.heap.size + 1 ≤ V4.heap.size := by omega
    clear hzV
    have hWV4 : Below w.heap.size w V4 := hB4.trans (hV4.mono (by omega))
    refine (implPos_any l r _ xs _ (((unhide X4).at (fun k hk => hk.2) (unhide HN)).below hV4 (Nat.le_refl _)) (unhide HTZ _ hWV4).1 (unhide HTZ _ hWV4).2).mono ?_
    rintro e w5' ⟨sv, fv, lv, wv, S', b', F', L', W', T1, T2, T3, T4, rfl, hans', hAF, hT, d1, d2, d3, t1, t2, t3, t4, hb5⟩
    obtain ⟨rfl, rfl, rfl, rfl, rfl⟩ := (unhide Hans).one hans'
    obtain ⟨g1, gc1, rfl, -, -⟩ := id hAF.s
    obtain ⟨lo2, n2, ⟨g2, gc2, rfl, -, -⟩, -⟩ := id hAF.f
    obtain ⟨lo3, n3, ⟨g3, gc3, rfl, -, -⟩, -⟩ := id hAF.l
    obtain ⟨g4, gc4, rfl, -, -⟩ := id hAF.k
    have hz5 := hb5.size
    obtain ⟨w5, hw5⟩ : ∃ w5, w5 = w5'.alloc (.cells #[.slice g1 S.length gc1, .bool b, .slice g2 F.length gc2, .slice g3 L.length gc3, .slice g4 W.length gc4] 29) := ⟨_, rfl⟩
    have hV5 : Below w5'.heap.size w5' w5 := by rw [hw5]; exact below1 w5' _
    have hz5' : w5.heap.size = w5'.heap.size + 1 := by rw [hw5, sz_alloc]
    have RG5 : Hid (Row5 w5 w5'.heap.size (.slice g1 S.length gc1) b (.slice g2 F.length gc2) (.slice g3 L.length gc3) (.slice g4 W.length gc4)) := by rw [hw5]; exact Row5.new w5' _ _ _ _ _
    have hB45 : Below w4.heap.size w4 w5 := (hV4.trans (hb5.mono (by omega))).trans (hV5.mono (by omega))
    have hB35 : Below w3.heap.size w3 w5 := hB34.trans (hB45.mono (by omega))
    have hB5 : Below w.heap.size w w5 := hB4.trans (hB45.mono (by omega))
    have RA5 := hide ((unhide RA4).below hB45 (by omega))
    have RS5 := hide ((unhide RS4).on (hB45.block _ (by omega)))
    have RX5 := hide ((RX.below hb5 (by omega)).below hV5 (by omega))
    have X5 := hide ((unhide X4).keep hB45 (fun k hk => hk.2))
    have HT := hide hT
    have HD1 := hide d1
    have HD2 := hide d2
    have HD3 := hide d3
    have G5 := hide (hAF.same (w' := w5) (fun k hk => hV5.block k (hT k hk).2))
    have hTl : ∀ k, T1 k ∨ T2 k ∨ T3 k ∨ T4 k → k < w5.heap.size := fun k hk => by have := (hT k hk).2; omega
    have HTL := hide hTl
    obtain ⟨y0, y1, y2, y3, y4⟩ := (unhide RS5).facts
    rw [hw5] at y0 y1 y2 y3 y4
    have HW5 := hide hw5
    clear hAF hb5 X4 hans' RA4 RX hV4 hB34 hT d1 d2 d3 hTl RS4 hV5 hw5
    go_wp2_with fail
    rw [← unhide HW5]
    clear HW5 y0 y1 y2 y3 y4
    refine (eqAuto_w _ _ S W b F L _ ((unhide G5).at (unhide HTL) b) ((unhide S3).below hB35)).mono ?_
    rintro e w6 ⟨rfl, hb6⟩
    have hz6 := hb6.size
    have hW6 : Below w.heap.size w w6 := hB5.trans (hb6.mono (by omega))
    have hB36 : Below w3.heap.size w3 w6 := hB35.trans (hb6.mono (by omega))
    have RA6 := hide ((unhide RA5).below hb6 (by omega))
    have RX6 := hide ((unhide RX5).below hb6 (by omega))
    have RS6 := hide ((unhide RS5).on (hb6.block _ (by omega)))
    have RG6 := hide ((unhide RG5).on (hb6.block _ (by omega)))
    have X6 := hide ((unhide X5).keep hb6 (fun k hk => by have := hk.2; omega))
    have G6 := hide ((unhide G5).same (w' := w6) (fun k hk => hb6.block k (unhide HTL k hk)))
    have hS : Hid (∀ W' : World, Below w6.heap.size w6 W' → (W'.cell? ⟨w4.heap.size, 0, none⟩ = some (.bool l) ∧ W'.cell? ⟨w4.heap.size, 1, none⟩ = some (.bool r) ∧ W'.cell? ⟨w4.heap.size, 2, none⟩ = some (.slice a4 xs.length c4)) ∧ W'.cell? ⟨w.heap.size, 0, none⟩ = some (.bool l) ∧ W'.cell? ⟨w.heap.size, 1, none⟩ = some (.bool r) ∧ W'.cell? ⟨w.heap.size, 2, none⟩ = some (.slice a xs.length cp)) := fun W' hW => ⟨((unhide RX6).below hW (by omega)).facts, ((unhide RA6).below hW (by omega)).facts⟩
    obtain ⟨k0, k1, k2⟩ := (unhide RA6).facts
    obtain ⟨x0, x1, x2⟩ := (unhide RX6).facts
    clear hb6 X5 G5 RA5 RX5 RS5 RG5 hB5 hB35
    go_wp2_with fail
    go_region_held3 (fun W' => (W'.cell? ⟨w4.heap.size, 0, none⟩ = some (.bool l) ∧ W'.cell? ⟨w4.heap.size, 1, none⟩ = some (.bool r) ∧ W'.cell? ⟨w4.heap.size, 2, none⟩ = some (.slice a4 xs.length c4)) ∧ W'.cell? ⟨w.heap.size, 0, none⟩ = some (.bool l) ∧ W'.cell? ⟨w.heap.size, 1, none⟩ = some (.bool r) ∧ W'.cell? ⟨w.heap.size, 2, none⟩ = some (.slice a xs.length cp))
      (first | go_keep | exact unhide hS _ hB9 | exact unhide hS _ hB8)
      (first
        | (go_at_call 6; refine (toPattern_w l r _ xs _ (by exact (unhide Hv).below hW6.drew (Nat.le_refl _)) hxl (unhide Hset)).mono ?_; rintro e w8 ⟨u8, rfl, hs8, hb8⟩; have hB8 : Below w6.heap.size w6 w8 := ⟨hb8.os, hb8.tape, hb8.output, hb8.size, hb8.block⟩; have S8 := hide (hs8.at (N := w8.heap.size) (fun k hk => hk.2) (unhide HN)); obtain ⟨p8, q8, rfl⟩ := el_is hs8; clear hb8 hs8)
        | (go_at_call 9; refine (eqPattern_same l r _ _ xs _ (by exact ((unhide X6).keep hB8 (fun k hk => by have := hk.2; omega)).at (fun k hk => by have := hk.2; have := hB8.size; show k < w8.heap.size; omega) (unhide HN)) (by exact unhide S8)).mono ?_; rintro e w9 ⟨rfl, hb9⟩; have hB9 : Below w6.heap.size w6 w9 := hB8.trans (hb9.mono hB8.size); clear hb9))
    have hz9 := hB9.size
    have RA9 := hide ((unhide RA6).below hB9 (by omega))
    have RX9 := hide ((unhide RX6).below hB9 (by omega))
    have RS9 := hide ((unhide RS6).on (hB9.block _ (by omega)))
    have RG9 := hide ((unhide RG6).on (hB9.block _ (by omega)))
    have X9 := hide ((unhide X6).keep hB9 (fun k hk => by have := hk.2; omega))
    have G9 := hide ((unhide G6).same (w' := w9) (fun k hk => hB9.block k (by have := unhide HTL k hk; omega)))
    have hB39 : Below w3.heap.size w3 w9 := hB36.trans (hB9.mono (by omega))
    have hW9 : Below w.heap.size w w9 := hW6.trans (hB9.mono (by omega))
    clear k0 k1 k2 x0 x1 x2
    obtain ⟨x0, x1, x2⟩ := (unhide RX9).facts
    clear hB8 S8 hS hB9 X6 G6 RA6 RX6 RS6 RG6 hB36
    go_wp2_with fail
    refine (markPattern_f l r _ xs 1 (Rng w3.heap.size w4.heap.size) _ (unhide X9) (by omega) (by omega) hsum (unhide Hset) (fun j hj => by have := hj.2; omega)).mono ?_
    rintro e w10 ⟨rfl, WW, hbW, hcW⟩
    have hzW := hbW.size
    have hzW2 := hcW.size
    have hblk : ∀ k, k < w9.heap.size → ¬ Rng w3.heap.size w4.heap.size k → w10.heap[k]? = w9.heap[k]? := fun k h1 h2 => (hcW.block k h2).trans (hbW.block k h1)
    have hz10 : w9.heap.size ≤ w10.heap.size := by omega
    have hB310 : Below w3.heap.size w3 w10 := hB39.trans ((hbW.mono (by omega)).trans ((hcW.below (lo := w3.heap.size) (fun k hk => hk.1)).mono (by omega)))
    have hW10 : Below w.heap.size w w10 := hW9.trans ((hbW.mono (by omega)).trans ((hcW.below (lo := w3.heap.size) (fun k hk => hk.1)).mono (by omega)))
    have G10 := hide ((unhide G9).same (w' := w10) (fun k hk => hblk k (by have := unhide HTL k hk; omega) (fun q => by have := q.2; have := (unhide HT k hk).1; omega)))
    have RA10 := hide ((unhide RA9).blk (hblk _ (by omega) (fun q => by have := q.1; omega)))
    have RS10 := hide ((unhide RS9).on (hblk _ (by omega) (fun q => by have := q.1; omega)))
    have RG10 := hide ((unhide RG9).on (hblk _ (by omega) (fun q => by have := q.2; omega)))
    have hen := endE_bd 1 xs
    generalize endE 1 xs = K9 at *
    have hK9 : ¬ K9 < 0 := by omega
    obtain ⟨y0, y1, y2, y3, y4⟩ := (unhide RS10).facts
    obtain ⟨z0, z1, z2, z3, z4⟩ := (unhide RG10).facts
    clear hbW hcW hblk X9 G9 RA9 RX9 RS9 RG9 hen x0 x1 x2 hzW hzW2 hB39
    go_wp2_with fail
    refine (eqAuto_w _ _ S W b F L _ ((unhide G10).at (fun k hk => by have := unhide HTL k hk; omega) b) ((unhide S3).below hB310)).mono ?_
    rintro e w11 ⟨rfl, hb11⟩
    have hz11 := hb11.size
    have hW11 : Below w.heap.size w w11 := hW10.trans (hb11.mono (by omega))
    have hB311 : Below w3.heap.size w3 w11 := hB310.trans (hb11.mono (by omega))
    have G11 := hide ((unhide G10).same (w' := w11) (fun k hk => hb11.block k (by have := unhide HTL k hk; omega)))
    have RA11 := hide ((unhide RA10).below hb11 (by omega))
    have RS11 := hide ((unhide RS10).on (hb11.block _ (by omega)))
    have RG11 := hide ((unhide RG10).on (hb11.block _ (by omega)))
    clear y0 y1 y2 y3 y4 z0 z1 z2 z3 z4
    obtain ⟨z0, z1, z2, z3, z4⟩ := (unhide RG11).facts
    clear hb11 G10 RA10 RS10 RG10 hB310
    go_wp2_with fail
    refine (markAuto_w T1 T2 T3 T4 _ _ _ _ S W b F L 1 _ (unhide G11) (fun k hk => by have := unhide HTL k hk; omega) (unhide HD1) (unhide HD2) (unhide HD3) (by omega) (by omega) t1 t2 t3 t4).mono ?_
    rintro e w12 ⟨rfl, hm12, hz12, hfr12, o1, o2, o3⟩
    have hno : ∀ j, j < V4.heap.size ∨ w5'.heap.size ≤ j → j < w11.heap.size → w12.heap[j]? = w11.heap[j]? := fun j h1 h2 => hfr12 j h2 (fun q => by have := unhide HT j (Or.inl q); omega) (fun q => by have := unhide HT j (Or.inr (Or.inl q)); omega) (fun q => by have := unhide HT j (Or.inr (Or.inr (Or.inl q))); omega) (fun q => by have := unhide HT j (Or.inr (Or.inr (Or.inr q))); omega)
    have hb12 : Below V4.heap.size w11 w12 := ⟨o1, o2, o3, hz12, fun k hk => hno k (Or.inl hk) (by omega)⟩
    have hW12 : Below w.heap.size w w12 := hW11.trans (hb12.mono (by omega))
    have hB312 : Below w3.heap.size w3 w12 := hB311.trans (hb12.mono (by omega))
    have HM12 := hide (hm12.at (fun k hk => by have := unhide HTL k hk; omega) b)
    have RA12 := hide ((unhide RA11).below hb12 (by omega))
    have RS12 := hide ((unhide RS11).on (hb12.block _ (by omega)))
    have RG12 := hide ((unhide RG11).on (hno _ (Or.inr (Nat.le_refl _)) (by omega)))
    clear z0 z1 z2 z3 z4
    obtain ⟨z0, z1, z2, z3, z4⟩ := (unhide RG12).facts
    have hk2 : ¬ (1 : Int) + tot S + F.length + L.length + tot W < 0 := by omega
    clear hm12 hfr12 hno G11 RA11 RS11 RG11 hb12 hB311 o1 o2 o3
    obtain ⟨KK, hKK⟩ : ∃ KK : Int, KK = (1 : Int) + tot S + F.length + L.length + tot W := ⟨_, rfl⟩
    have hHE := heldAuto_w _ _ _ _ S W b F L 1 w12 (unhide HM12) (by omega) (by omega) t1 t2 t3 t4
    rw [← hKK] at hHE hk2
    have HHE := hide hHE
    rw [← hKK]
    clear hHE hKK HM12
    go_wp2_with fail
    refine (unhide HHE).mono ?_
    rintro e w13 ⟨rfl, hb13⟩
    have hz13 := hb13.size
    have hW13 : Below w.heap.size w w13 := hW12.trans (hb13.mono (by omega))
    have hB313 : Below w3.heap.size w3 w13 := hB312.trans (hb13.mono (by omega))
    have RA13 := hide ((unhide RA12).below hb13 (by omega))
    have RS13 := hide ((unhide RS12).on (hb13.block _ (by omega)))
    obtain ⟨k0, k1, k2⟩ := (unhide RA13).facts
    clear hb13 RA12 RS12 RG12 HHE z0 z1 z2 z3 z4 hB312
    go_wp2_with fail
    refine (toPattern_w l r _ xs _ ((unhide Hv).below hW13 (Nat.le_refl _)) hxl (unhide Hset)).mono ?_
    rintro e w14 ⟨u0, rfl, hu0, hb14⟩
    obtain ⟨a14, c14, rfl⟩ := el_is hu0
    have hz14 := hb14.size
    have hW14 : Below w.heap.size w w14 := hW13.trans (hb14.mono (by omega))
    have hB314 : Below w3.heap.size w3 w14 := hB313.trans (hb14.mono (by omega))
    have Z14 := hide (hu0.at (N := w14.heap.size) (fun k hk => hk.2) (unhide HN))
    have RS14 := hide ((unhide RS13).on (hb14.block _ (by omega)))
    clear hu0 hb14 RA13 k0 k1 k2 hB313 RS13
    go_wp2_with fail
    refine (implPos_any l r _ xs _ (unhide Z14) (unhide HTZ _ hW14).1 (unhide HTZ _ hW14).2).mono ?_
    rintro e w15' ⟨sv, fv, lv, wv, S', b', F', L', W', U1, U2, U3, U4, rfl, hans', hAF, hT, -, -, -, -, -, -, -, hb15⟩
    obtain ⟨rfl, rfl, rfl, rfl, rfl⟩ := (unhide Hans).one hans'
    have hAV := hAF.at (fun k hk => (hT k hk).2) b
    obtain ⟨m1, mc1, rfl, -, -⟩ := id hAF.s
    obtain ⟨lo5, n5, ⟨m2, mc2, rfl, -, -⟩, -⟩ := id hAF.f
    obtain ⟨lo6, n6, ⟨m3, mc3, rfl, -, -⟩, -⟩ := id hAF.l
    obtain ⟨m4, mc4, rfl, -, -⟩ := id hAF.k
    have hz15 := hb15.size
    have hV15 := below1 w15' (.cells #[.slice m1 S.length mc1, .bool b, .slice m2 F.length mc2, .slice m3 L.length mc3, .slice m4 W.length mc4] 29)
    have hW15 : Below w.heap.size w (w15'.alloc (.cells #[.slice m1 S.length mc1, .bool b, .slice m2 F.length mc2, .slice m3 L.length mc3, .slice m4 W.length mc4] 29)) := (hW14.trans (hb15.mono (by omega))).trans (hV15.mono (by omega))
    have hB315 : Below w3.heap.size w3 (w15'.alloc (.cells #[.slice m1 S.length mc1, .bool b, .slice m2 F.length mc2, .slice m3 L.length mc3, .slice m4 W.length mc4] 29)) := (hB314.trans (hb15.mono (by omega))).trans (hV15.mono (by omega))
    have HE15 := hide (eqAuto_w _ _ S W b F L _ (hAV.below hV15) ((unhide S3).below hB315))
    obtain ⟨y0, y1, y2, y3, y4⟩ := (((unhide RS14).on (hb15.block _ (by omega))).on (hV15.block _ (by omega))).facts
    have hz16 : w.heap.size ≤ (w15'.alloc (.cells #[.slice m1 S.length mc1, .bool b, .slice m2 F.length mc2, .slice m3 L.length mc3, .slice m4 W.length mc4] 29)).heap.size := hW15.size
    clear hAF hAV hb15 hans' Z14 hB314 hT RS14 hV15 hB315
    go_wp2_with fail
    refine (unhide HE15).mono ?_
    rintro e w16 ⟨rfl, hb16⟩
    have hW16 : Below w.heap.size w w16 := hW15.trans (hb16.mono hz16)
    clear hb16 y0 y1 y2 y3 y4
    go_wp2
    go_ret
    exact ⟨rfl, hW16⟩

end Go.Proofs.YtijejbdpagbmpaaDoor
