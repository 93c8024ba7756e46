import Derived.Test.YtmhafibngbojcaaDoorPp16
import Derived.Test.YtmhafibngbojcaaDoorVP
import Derived.Test.YtmhafibngbojcaaDoorVE
import Derived.Test.YtmhafibngbojcaaDoorA2
import Derived.Test.YtmhafibngbojcaaDoorA5
import Derived.Test.YtmhafibngbojcaaDoorMb
import Derived.Deep.RegionHeld3
namespace Go.Proofs.YtmhafibngbojcaaDoor
open Go.RowKit

theorem own_slwP {base n : Nat} {w : World} {v : Value} {xs : List Int} (h : w.ownsRow base 5 1 v n (xs.map mB)) (hn : n ≤ maxLen) : SlW mB 0 base w.heap.size w v xs := by
  have hlen := h.1
  rw [List.length_map, Nat.mul_one] at hlen
  rcases h.2 with ⟨rfl, hz⟩ | ⟨g, cap, cur, rfl, hbg, hg, hnc, hcm, hcs, htake⟩
  · exact ⟨none, 0, by rw [hlen, hz], by omega, fun hp => by omega⟩
  · refine ⟨_, cap, by rw [hlen], by omega, fun hp => ⟨g, 0, rfl, hbg, (h.lt g rfl).2, ⟨cur, _, hg⟩, fun i hi => ?_⟩⟩
    rw [Nat.zero_add, h.cellAt i (by omega), List.getElem?_map, getD_of_lt hi]
    rfl
theorem own_sameP {base n : Nat} {w w' : World} {v : Value} {xs : List Value} (h : w.ownsRow base 5 1 v n xs) (hs : ∀ k, base ≤ k → k < w.heap.size → w'.heap[k]? = w.heap[k]?) : w'.ownsRow base 5 1 v n xs := by
  refine ⟨h.1, ?_⟩
  rcases h.2 with hn | ⟨g, cap, cur, rfl, hb, hg, rest⟩
  · exact .inl hn
  · exact .inr ⟨g, cap, cur, rfl, hb, (hs g hb (Array.getElem?_eq_some_iff.1 hg).1).trans hg, rest⟩
theorem drewP (w : World) (n : Nat) : Below w.heap.size w (w.drewN n) := below_drewN (Below.refl _ _) n

set_option maxHeartbeats 8000000 in
set_option maxRecDepth 100000 in
theorem lawP_any (l r : Bool) (v : Value) (xs : List El) (w : World) (hv : ElsAt 0 w.heap.size w v xs) (htb : TB w.heap.size w) :
    Calls Tryd.prog 3 #[.agg #[.bool l, .bool r, v]] w fun e w' => e = .returned (.bool true) ∧ Below w.heap.size w w' := by
  obtain ⟨a, cp, rfl, -, -⟩ := id hv
  have HN := hide (num_of hv)
  have Hv := hide hv
  have HTB : Hid (∀ W, Below w.heap.size w W → TB W.heap.size W) := fun W hW w' h => htb w' (hW.trans (h.mono hW.size))
  clear hv htb
  go_enter Tryd.func3, Tryd.ntmps3
  go_wp2_with fail
  refine (szPattern_any l r _ xs _ (by exact (unhide Hv).below (below1 w _) (Nat.le_refl _))).mono ?_
  rintro e w1 ⟨⟨q, rfl, hq⟩, hb1⟩
  have hz1 := hb1.size
  rw [sz_alloc] at hz1
  have hB1 : Below w.heap.size w w1 := (below1 w _).trans (hb1.mono (by rw [sz_alloc]; omega))
  have RA1 := hide ((Bx3.new w 24 (.bool l) (.bool r) (.slice a xs.length cp)).below hb1 (by rw [sz_alloc]; omega))
  clear hb1
  rcases hq with rfl | ⟨hq0, hq1⟩
  · go_wp2
    go_ret
    exact ⟨rfl, hB1⟩
  · have hsum : xs.length + bulk xs ≤ 1048576 := by omega
    have Hset := hide (set_le (xs := xs) (m := 1048576) (by omega))
    have hxl : xs.length ≤ 1048576 := by omega
    obtain ⟨k0, k1, k2⟩ := (unhide RA1).facts
    clear hq1
    go_wp2_with fail
    refine (toPattern_w l r _ xs _ ((unhide Hv).below hB1 (Nat.le_refl _)) hxl (unhide Hset)).mono ?_
    rintro e w2 ⟨v2, rfl, h2, hb2⟩
    obtain ⟨a2, c2, rfl⟩ := el_is h2
    have hz2 := hb2.size
    have hB2 : Below w.heap.size w w2 := hB1.trans (hb2.mono (by omega))
    have RA2 := hide ((unhide RA1).below hb2 (by omega))
    have E2 := hide (h2.at (N := w2.heap.size) (fun k hk => hk.2) (unhide HN))
    clear h2 hb2 RA1 k0 k1 k2
    go_wp2_with fail
    refine (specPr_any l r _ xs _ (unhide E2)).mono ?_
    rintro e w3 ⟨s0, T, rfl, hans, hs0, hb3⟩
    have S3 := hide hs0
    obtain ⟨a3, c3, rfl, -, -⟩ := id hs0
    have hz3 := hb3.size
    have hB3 : Below w.heap.size w w3 := hB2.trans (hb3.mono (by omega))
    have RA3 := hide ((unhide RA2).below hb3 (by omega))
    have Hans := hide hans
    obtain ⟨k0, k1, k2⟩ := (unhide RA3).facts
    clear hs0 hans E2 hb3 RA2
    go_wp2_with fail
    refine (toPattern_w l r _ xs _ ((unhide Hv).below hB3 (Nat.le_refl _)) hxl (unhide Hset)).mono ?_
    rintro e w4 ⟨x0, rfl, hx0, hb4⟩
    obtain ⟨a4, c4, rfl⟩ := el_is hx0
    have hz4 := hb4.size
    have hB34 : Below w3.heap.size w3 w4 := hb4
    have hB4 : Below w.heap.size w w4 := hB3.trans (hb4.mono (by omega))
    have RA4 := hide ((unhide RA3).below hb4 (by omega))
    have X4 := hide hx0
    clear hx0 hb4 RA3 k0 k1 k2
    go_wp2_with fail
    have hV4 := below1 w4 (.cells #[.bool l, .bool r, .slice a4 xs.length c4] 30)
    have RX := Bx3.new w4 30 (.bool l) (.bool r) (.slice a4 xs.length c4)
    have hzV : (w4.alloc (.cells #[.bool l, .bool r, .slice a4 xs.length c4] 30)).heap.size = w4.heap.size + 1 := sz_alloc _ _
    generalize w4.alloc (.cells #[.bool l, .bool r, .slice a4 xs.length c4] 30) = V4 at *
    have hzV' : w4.heap.size + 1 ≤ V4.heap.size := by omega
    clear hzV
    refine (implPr_any l r _ xs _ (((unhide X4).at (fun k hk => hk.2) (unhide HN)).below hV4 (Nat.le_refl _)) (unhide HTB _ (hB4.trans (hV4.mono (by omega))))).mono ?_
    rintro e w5 ⟨g0, T', rfl, hans', htl, hg0, hb5⟩
    obtain rfl := (unhide Hans).one hans'
    have hz5 := hb5.size
    have hB45 : Below w4.heap.size w4 w5 := hV4.trans (hb5.mono (by omega))
    have hB35 : Below w3.heap.size w3 w5 := hB34.trans (hB45.mono (by omega))
    have hB5 : Below w.heap.size w w5 := hB4.trans (hB45.mono (by omega))
    have RA5 := hide ((unhide RA4).below hB45 (by omega))
    have RX5 := hide (RX.below hb5 (by omega))
    have X5 := hide ((unhide X4).keep hB45 (fun k hk => hk.2))
    have G5 := hide hg0
    obtain ⟨a5, c5, rfl⟩ := own_is hg0
    clear hg0 hb5 X4 hans' hB45 RA4 RX hV4 hB34
    go_wp2_with fail
    refine (eqByteS_w _ _ T _ (own_rdB (unhide G5) (by unfold maxLen; omega)) ((unhide S3).below hB35 (Nat.le_refl _))).mono ?_
    rintro e w6 ⟨rfl, n6, hw6⟩
    have hb6 : Below w5.heap.size w5 w6 := by rw [hw6]; exact drewP _ _
    have hz6 := hb6.size
    have hW6 : Below w.heap.size w w6 := hB5.trans (hb6.mono (by omega))
    have hB36 : Below w3.heap.size w3 w6 := hB35.trans (hb6.mono (by omega))
    have RA6 := hide ((unhide RA5).below hb6 (by omega))
    have RX6 := hide ((unhide RX5).below hb6 (by omega))
    have X6 := hide ((unhide X5).keep hb6 (fun k hk => by have := hk.2; omega))
    have G6 := hide (own_keep (unhide G5) hb6 (Nat.le_refl _))
    have hS : Hid (∀ W' : World, Below w6.heap.size w6 W' → (W'.cell? ⟨w4.heap.size, 0, none⟩ = some (.bool l) ∧ W'.cell? ⟨w4.heap.size, 1, none⟩ = some (.bool r) ∧ W'.cell? ⟨w4.heap.size, 2, none⟩ = some (.slice a4 xs.length c4)) ∧ W'.cell? ⟨w.heap.size, 0, none⟩ = some (.bool l) ∧ W'.cell? ⟨w.heap.size, 1, none⟩ = some (.bool r) ∧ W'.cell? ⟨w.heap.size, 2, none⟩ = some (.slice a xs.length cp)) := fun W' hW => ⟨((unhide RX6).below hW (by omega)).facts, ((unhide RA6).below hW (by omega)).facts⟩
    obtain ⟨k0, k1, k2⟩ := (unhide RA6).facts
    obtain ⟨x0, x1, x2⟩ := (unhide RX6).facts
    clear hb6 X5 G5 RA5 RX5 hB5 hB35 hw6
    go_wp2_with fail
    go_region_held3 (fun W' => (W'.cell? ⟨w4.heap.size, 0, none⟩ = some (.bool l) ∧ W'.cell? ⟨w4.heap.size, 1, none⟩ = some (.bool r) ∧ W'.cell? ⟨w4.heap.size, 2, none⟩ = some (.slice a4 xs.length c4)) ∧ W'.cell? ⟨w.heap.size, 0, none⟩ = some (.bool l) ∧ W'.cell? ⟨w.heap.size, 1, none⟩ = some (.bool r) ∧ W'.cell? ⟨w.heap.size, 2, none⟩ = some (.slice a xs.length cp))
      (first | go_keep | exact unhide hS _ hB9 | exact unhide hS _ hB8)
      (first
        | (go_at_call 6; refine (toPattern_w l r _ xs _ (by exact (unhide Hv).below hW6.drew (Nat.le_refl _)) hxl (unhide Hset)).mono ?_; rintro e w8 ⟨u8, rfl, hs8, hb8⟩; have hB8 : Below w6.heap.size w6 w8 := ⟨hb8.os, hb8.tape, hb8.output, hb8.size, hb8.block⟩; have S8 := hide (hs8.at (N := w8.heap.size) (fun k hk => hk.2) (unhide HN)); obtain ⟨p8, q8, rfl⟩ := el_is hs8; clear hb8 hs8)
        | (go_at_call 9; refine (eqPattern_same l r _ _ xs _ (by exact ((unhide X6).keep hB8 (fun k hk => by have := hk.2; omega)).at (fun k hk => by have := hk.2; have := hB8.size; show k < w8.heap.size; omega) (unhide HN)) (by exact unhide S8)).mono ?_; rintro e w9 ⟨rfl, hb9⟩; have hB9 : Below w6.heap.size w6 w9 := hB8.trans (hb9.mono hB8.size); clear hb9))
    have hz9 := hB9.size
    have RA9 := hide ((unhide RA6).below hB9 (by omega))
    have RX9 := hide ((unhide RX6).below hB9 (by omega))
    have X9 := hide ((unhide X6).keep hB9 (fun k hk => by have := hk.2; omega))
    have G9 := hide (own_keep (unhide G6) hB9 (Nat.le_refl _))
    have hB39 : Below w3.heap.size w3 w9 := hB36.trans (hB9.mono (by omega))
    have hW9 : Below w.heap.size w w9 := hW6.trans (hB9.mono (by omega))
    clear k0 k1 k2 x0 x1 x2
    obtain ⟨x0, x1, x2⟩ := (unhide RX9).facts
    clear hB8 S8 hS hB9 X6 G6 RA6 RX6 hB36
    go_wp2_with fail
    refine (markPattern_f l r _ xs 1 (Rng w3.heap.size w4.heap.size) _ (unhide X9) (by omega) (by omega) hsum (unhide Hset) (fun j hj => by have := hj.2; omega)).mono ?_
    rintro e w10 ⟨rfl, WW, hbW, hcW⟩
    have hzW := hbW.size
    have hzW2 := hcW.size
    have hblk : ∀ k, k < w9.heap.size → ¬ Rng w3.heap.size w4.heap.size k → w10.heap[k]? = w9.heap[k]? := fun k h1 h2 => (hcW.block k h2).trans (hbW.block k h1)
    have hz10 : w9.heap.size ≤ w10.heap.size := by omega
    have hB310 : Below w3.heap.size w3 w10 := hB39.trans ((hbW.mono (by omega)).trans ((hcW.below (lo := w3.heap.size) (fun k hk => hk.1)).mono (by omega)))
    have hW10 : Below w.heap.size w w10 := hW9.trans ((hbW.mono (by omega)).trans ((hcW.below (lo := w3.heap.size) (fun k hk => hk.1)).mono (by omega)))
    have G10 := hide (own_sameP (unhide G9) (w' := w10) (fun k k1 k2 => hblk k k2 (fun q => by have := q.2; omega)))
    have RA10 := hide ((unhide RA9).blk (hblk _ (by omega) (fun q => by have := q.1; omega)))
    have hen := endE_bd 1 xs
    generalize endE 1 xs = K9 at *
    have hK9 : ¬ K9 < 0 := by omega
    clear hbW hcW hblk X9 G9 RA9 RX9 hen x0 x1 x2 hzW hzW2 hB39
    go_wp2_with fail
    refine (eqByteS_w _ _ T _ (own_rdB (unhide G10) (by unfold maxLen; omega)) ((unhide S3).below hB310 (Nat.le_refl _))).mono ?_
    rintro e w11 ⟨rfl, n11, hw11⟩
    have hb11 : Below w10.heap.size w10 w11 := by rw [hw11]; exact drewP _ _
    have hz11 := hb11.size
    have hW11 : Below w.heap.size w w11 := hW10.trans (hb11.mono (by omega))
    have hB311 : Below w3.heap.size w3 w11 := hB310.trans (hb11.mono (by omega))
    have G11 := hide (own_keep (unhide G10) hb11 (Nat.le_refl _))
    have RA11 := hide ((unhide RA10).below hb11 (by omega))
    clear hb11 G10 RA10 hw11 hB310
    go_wp2_with fail
    refine (markByteS_big _ T 1 V4.heap.size w11.heap.size _ (own_slwP (unhide G11) (by unfold maxLen; omega)) (by omega) (by omega) (by omega)).mono ?_
    rintro e w12 ⟨rfl, hmk, hch⟩
    have hb12 : Below V4.heap.size w11 w12 := hch.below
    have hz12 := hb12.size
    have hW12 : Below w.heap.size w w12 := hW11.trans (hb12.mono (by omega))
    have hB312 : Below w3.heap.size w3 w12 := hB311.trans (hb12.mono (by omega))
    have HM12 := hide hmk.at
    have RA12 := hide ((unhide RA11).below hb12 (by omega))
    clear hmk hch G11 RA11 hb12 hB311
    go_wp2_with fail
    refine (heldByteS_big _ T.length 1 V4.heap.size w11.heap.size w12 (unhide HM12) (by omega) (by omega) (by omega)).mono ?_
    rintro e w13 ⟨rfl, hw13⟩
    have hk2 : ¬ (1 : Int) + (T.length : Int) < 0 := by omega
    subst hw13
    obtain ⟨k0, k1, k2⟩ := (unhide RA12).facts
    clear HM12
    go_wp2_with fail
    refine (toPattern_w l r _ xs _ ((unhide Hv).below hW12 (Nat.le_refl _)) hxl (unhide Hset)).mono ?_
    rintro e w14 ⟨z0, rfl, hz0, hb14⟩
    obtain ⟨a14, c14, rfl⟩ := el_is hz0
    have hz14 := hb14.size
    have hW14 : Below w.heap.size w w14 := hW12.trans (hb14.mono (by omega))
    have hB314 : Below w3.heap.size w3 w14 := hB312.trans (hb14.mono (by omega))
    have Z14 := hide (hz0.at (N := w14.heap.size) (fun k hk => hk.2) (unhide HN))
    clear hz0 hb14 RA12 k0 k1 k2 hB312
    go_wp2_with fail
    refine (implPr_any l r _ xs _ (unhide Z14) (unhide HTB _ hW14)).mono ?_
    rintro e w15 ⟨h0, T2, rfl, hans2, -, hh0, hb15⟩
    obtain rfl := (unhide Hans).one hans2
    have hz15 := hb15.size
    have hW15 : Below w.heap.size w w15 := hW14.trans (hb15.mono (by omega))
    have hB315 : Below w3.heap.size w3 w15 := hB314.trans (hb15.mono (by omega))
    have H15 := hide hh0
    obtain ⟨a15, c15, rfl⟩ := own_is hh0
    clear hh0 hb15 hans2 Z14 hB314
    go_wp2_with fail
    refine (eqByteS_w _ _ T _ (own_rdB (unhide H15) (by unfold maxLen; omega)) ((unhide S3).below hB315 (Nat.le_refl _))).mono ?_
    rintro e w16 ⟨rfl, n16, hw16⟩
    have hW16 : Below w.heap.size w w16 := hW15.trans (Below.mono (by rw [hw16]; exact drewP _ _) (show w.heap.size ≤ w15.heap.size by omega))
    clear hw16
    go_wp2
    go_ret
    exact ⟨rfl, hW16⟩

end Go.Proofs.YtmhafibngbojcaaDoor
