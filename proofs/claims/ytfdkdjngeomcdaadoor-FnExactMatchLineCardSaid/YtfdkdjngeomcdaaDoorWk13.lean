import Derived.Test.YtfdkdjngeomcdaaDoorWk12
import Derived.Test.YtfdkdjngeomcdaaDoorPk8
import Derived.Test.YtfdkdjngeomcdaaDoorPk9
import Derived.Test.YtfdkdjngeomcdaaDoorP1
import Derived.Deep.RegionHeld3
namespace Go.Proofs.YtfdkdjngeomcdaaDoor
open Go.RowKit

set_option maxHeartbeats 8000000 in
set_option maxRecDepth 100000 in
theorem lawMatch_any (l r : Bool) (v lv : Value) (xs : List El) (bs : List Int) (w : World) (hv : ElsAt 0 w.heap.size w v xs) (hlv : SlAt mB 0 0 w.heap.size w lv bs) (hbs : ∀ x ∈ bs, 0 ≤ x ∧ x ≤ 255) (htz : TZ w) (hlt : Tryd.laysTZ_ren.g 1 < w.heap.size) :
    Calls Tryd.prog 3 #[.agg #[.bool l, .bool r, v], lv] w fun e w' => e = .returned (.bool true) ∧ Below w.heap.size w w' := by
  obtain ⟨a, cp, rfl, -, -⟩ := id hv
  obtain ⟨la, lc, rfl, -, -⟩ := id hlv
  have HN := hide (num_of hv)
  have Hv := hide hv
  have Hlv := hide hlv
  have HBS := hide hbs
  have HTZ : Hid (∀ W, Below w.heap.size w W → TZ W ∧ Tryd.laysTZ_ren.g 1 < W.heap.size) := fun W hW => ⟨htz.below hW hlt, by have := hW.size; omega⟩
  clear hv hlv htz hlt hbs
  by_cases hll : bs.length ≤ 1048576
  · have hll' : (bs.length : Int) ≤ 1048576 := by omega
    have hll2 : ¬ (1048576 : Int) < (bs.length : Int) := by omega
    go_enter Tryd.func3, Tryd.ntmps3
    go_wp2_with fail
    refine (szPattern_any l r _ xs _ (by exact (unhide Hv).below (below1 w _) (Nat.le_refl _))).mono ?_
    rintro e w1 ⟨⟨q, rfl, hq⟩, hb1⟩
    have hz1 := hb1.size
    rw [sz_alloc] at hz1
    have hB1 : Below w.heap.size w w1 := (below1 w _).trans (hb1.mono (by rw [sz_alloc]; omega))
    have RA1 := hide ((Bx3.new w 24 (.bool l) (.bool r) (.slice a xs.length cp)).below hb1 (by rw [sz_alloc]; omega))
    clear hb1
    rcases hq with rfl | ⟨hq0, hq1⟩
    · go_wp2
      go_ret
      exact ⟨rfl, hB1⟩
    · have hsum : xs.length + bulk xs ≤ 1048576 := by omega
      have Hset := hide (set_le (xs := xs) (m := 1048576) (by omega))
      have hxl : xs.length ≤ 1048576 := by omega
      obtain ⟨k0, k1, k2⟩ := (unhide RA1).facts
      clear hq1
      go_wp2_with fail
      refine (toPattern_w l r _ xs _ ((unhide Hv).below hB1 (Nat.le_refl _)) hxl (unhide Hset)).mono ?_
      rintro e w2 ⟨v2, rfl, h2, hb2⟩
      obtain ⟨a2, c2, rfl⟩ := el_is h2
      have hz2 := hb2.size
      have hB2 : Below w.heap.size w w2 := hB1.trans (hb2.mono (by omega))
      have RA2 := hide ((unhide RA1).below hb2 (by omega))
      have E2 := hide (h2.at (N := w2.heap.size) (fun k hk => hk.2) (unhide HN))
      clear h2 hb2 RA1 k0 k1 k2
      go_wp2_with fail
      refine (toByteS_w _ bs _ ((unhide Hlv).below hB2 (Nat.le_refl _)) hll).mono ?_
      rintro e w3 ⟨u3, rfl, hu3, hb3⟩
      obtain ⟨ua3, uc3, rfl, -, -⟩ := id hu3
      have hz3 := hb3.size
      have hB3 : Below w.heap.size w w3 := hB2.trans (hb3.mono (by omega))
      have RA3 := hide ((unhide RA2).below hb3 (by omega))
      have E3 := hide ((unhide E2).below hb3 (Nat.le_refl _))
      have U3 := hide (hu3.at.mono (Nat.zero_le _) (Nat.le_refl _))
      clear hu3 hb3 RA2 E2
      go_wp2_with fail
      refine (specMatch_any l r _ _ xs bs _ (unhide E3) (unhide U3) (unhide HBS) hll).mono ?_
      rintro e w4 ⟨⟨y, rfl, hy⟩, hb4⟩
      have hz4 := hb4.size
      have hB4 : Below w.heap.size w w4 := hB3.trans (hb4.mono (by omega))
      have RA4 := hide ((unhide RA3).below hb4 (by omega))
      obtain ⟨k0, k1, k2⟩ := (unhide RA4).facts
      have HY := hide hy
      clear hb4 RA3 E3 U3 hy
      go_wp2_with fail
      refine (toPattern_w l r _ xs _ ((unhide Hv).below hB4 (Nat.le_refl _)) hxl (unhide Hset)).mono ?_
      rintro e w5 ⟨v5, rfl, h5, hb5⟩
      obtain ⟨a5, c5, rfl⟩ := el_is h5
      have hz5 := hb5.size
      have hB5 : Below w.heap.size w w5 := hB4.trans (hb5.mono (by omega))
      obtain ⟨W5, hW5⟩ : ∃ W5, W5 = w5.alloc (.cells #[.bool l, .bool r, .slice a5 xs.length c5] 30) := ⟨_, rfl⟩
      have hV5 : Below w5.heap.size w5 W5 := by rw [hW5]; exact below1 w5 _
      have hzW5 : w5.heap.size + 1 ≤ W5.heap.size := by rw [hW5, sz_alloc]; omega
      have RX5 : Hid (Bx3 W5 w5.heap.size 30 (.bool l) (.bool r) (.slice a5 xs.length c5)) := by rw [hW5]; exact Bx3.new w5 _ _ _ _
      have RA5 := hide (((unhide RA4).below hb5 (by omega)).below hV5 (by omega))
      have X5 := hide (h5.keep hV5 (fun k hk => hk.2))
      have hBW5 : Below w.heap.size w W5 := hB5.trans (hV5.mono (by omega))
      have HW5 := hide hW5
      clear h5 hb5 RA4 k0 k1 k2 hV5 hW5
      go_wp2_with fail
      rw [← unhide HW5]
      refine (toByteS_w _ bs _ ((unhide Hlv).below hBW5 (Nat.le_refl _)) hll).mono ?_
      rintro e w6 ⟨u6, rfl, hu6, hb6⟩
      obtain ⟨ua6, uc6, rfl, -, -⟩ := id hu6
      have hz6 := hb6.size
      have hB6 : Below w.heap.size w w6 := hBW5.trans (hb6.mono (by omega))
      have RA6 := hide ((unhide RA5).below hb6 (by omega))
      have RX6 := hide ((unhide RX5).below hb6 (by omega))
      have X6 := hide ((unhide X5).keep hb6 (fun k hk => by have := hk.2; omega))
      have U6 := hide (hu6.at.mono (Nat.zero_le _) (Nat.le_refl _))
      have XA6 := hide ((unhide X6).at (N := w6.heap.size) (fun k hk => by have := hk.2; omega) (unhide HN))
      obtain ⟨x0, x1, x2⟩ := (unhide RX6).facts
      clear hu6 hb6 RA5 RX5 X5 HW5
      go_wp2_with fail
      refine (implMatch_any l r _ _ xs bs _ (unhide XA6) (unhide U6) (unhide HBS) hll (unhide HTZ _ hB6).1 (unhide HTZ _ hB6).2).mono ?_
      rintro e w7 ⟨⟨y', rfl, hy'⟩, hb7⟩
      obtain rfl : y' = y := by rw [Bool.eq_iff_iff, hy', unhide HY]
      have hz7 := hb7.size
      have hB7 : Below w.heap.size w w7 := hB6.trans (hb7.mono (by omega))
      have RA7 := hide ((unhide RA6).below hb7 (by omega))
      have RX7 := hide ((unhide RX6).below hb7 (by omega))
      have X7 := hide ((unhide X6).keep hb7 (fun k hk => by have := hk.2; omega))
      have U7 := hide ((unhide U6).below hb7 (Nat.le_refl _))
      have hS : Hid (∀ W' : World, Below w7.heap.size w7 W' → (W'.cell? ⟨w5.heap.size, 0, none⟩ = some (.bool l) ∧ W'.cell? ⟨w5.heap.size, 1, none⟩ = some (.bool r) ∧ W'.cell? ⟨w5.heap.size, 2, none⟩ = some (.slice a5 xs.length c5)) ∧ W'.cell? ⟨w.heap.size, 0, none⟩ = some (.bool l) ∧ W'.cell? ⟨w.heap.size, 1, none⟩ = some (.bool r) ∧ W'.cell? ⟨w.heap.size, 2, none⟩ = some (.slice a xs.length cp)) := fun W' hW => ⟨((unhide RX7).below hW (by omega)).facts, ((unhide RA7).below hW (by omega)).facts⟩
      clear x0 x1 x2
      obtain ⟨⟨x0, x1, x2⟩, k0, k1, k2⟩ := unhide hS w7 (Below.refl _ _)
      have hyy : (y' != y') = false := by simp
      clear hb7 RA6 RX6 X6 U6 XA6 hy' HY
      go_wp2_with fail
      go_region_held3 (fun W' => (W'.cell? ⟨w5.heap.size, 0, none⟩ = some (.bool l) ∧ W'.cell? ⟨w5.heap.size, 1, none⟩ = some (.bool r) ∧ W'.cell? ⟨w5.heap.size, 2, none⟩ = some (.slice a5 xs.length c5)) ∧ W'.cell? ⟨w.heap.size, 0, none⟩ = some (.bool l) ∧ W'.cell? ⟨w.heap.size, 1, none⟩ = some (.bool r) ∧ W'.cell? ⟨w.heap.size, 2, none⟩ = some (.slice a xs.length cp))
        (first | go_keep | exact unhide hS _ hB9 | exact unhide hS _ hB8)
        (first
          | (go_at_call 6; refine (toPattern_w l r _ xs _ (by exact (unhide Hv).below hB7.drew (Nat.le_refl _)) hxl (unhide Hset)).mono ?_; rintro e w8 ⟨u8, rfl, hs8, hb8⟩; have hB8 : Below w7.heap.size w7 w8 := ⟨hb8.os, hb8.tape, hb8.output, hb8.size, hb8.block⟩; have S8 := hide (hs8.at (N := w8.heap.size) (fun k hk => hk.2) (unhide HN)); obtain ⟨p8, q8, rfl⟩ := el_is hs8; clear hb8 hs8)
          | (go_at_call 9; refine (eqPattern_same l r _ _ xs _ (by exact ((unhide X7).keep hB8 (fun k hk => by have := hk.2; omega)).at (fun k hk => by have := hk.2; have := hB8.size; show k < w8.heap.size; omega) (unhide HN)) (by exact unhide S8)).mono ?_; rintro e w9 ⟨rfl, hb9⟩; have hB9 : Below w7.heap.size w7 w9 := hB8.trans (hb9.mono hB8.size); clear hb9))
      have hz9 := hB9.size
      have hW9 : Below w.heap.size w w9 := hB7.trans (hB9.mono (by omega))
      have U9 := hide ((unhide U7).below hB9 (Nat.le_refl _))
      clear k0 k1 k2 x0 x1 x2 hS hB8 S8 hB9 RA7 RX7 X7 U7
      go_wp2_with fail
      refine (toByteS_w _ bs _ ((unhide Hlv).below hW9 (Nat.le_refl _)) hll).mono ?_
      rintro e w10 ⟨u10, rfl, hu10, hb10⟩
      obtain ⟨ua10, uc10, rfl, -, -⟩ := id hu10
      have U10 := hide (hu10.at.mono (Nat.zero_le _) (Nat.le_refl _))
      have V10 := hide ((unhide U9).below hb10 (Nat.le_refl _))
      have hW10 : Below w.heap.size w w10 := hW9.trans (hb10.mono (by omega))
      clear hu10 hb10 U9
      go_wp2_with fail
      refine (eqByteS_w _ _ bs _ (unhide V10) (unhide U10)).mono ?_
      rintro e w11 ⟨rfl, n11, rfl⟩
      have HF := hide (below_drewN hW10 n11)
      clear U10 V10
      go_wp2
      go_ret
      exact ⟨rfl, unhide HF⟩
  · have hll' : (1048576 : Int) < (bs.length : Int) := by omega
    have hB := below1 w (.cells #[.bool l, .bool r, .slice a xs.length cp] 24)
    go_enter Tryd.func3, Tryd.ntmps3
    go_wp2
    go_ret
    exact ⟨rfl, hB⟩

end Go.Proofs.YtfdkdjngeomcdaaDoor
