import Derived.Test.YtjoaapoppcibdaaJ23
import Derived.Test.YtjoaapoppcibdaaVE
import Derived.Test.YtjoaapoppcibdaaA2
import Derived.Test.YtjoaapoppcibdaaA5
import Derived.Test.YtjoaapoppcibdaaP4
import Derived.Deep.RegionHeld3
namespace Go.Proofs.Ytjoaapoppcibdaa
open Go.RowKit

/-- A box of three cells. -/
def Bx3 (w : World) (b : Nat) (t : TypeId) (c0 c1 c2 : Value) : Prop := w.rowIs b t 3 (fun j => [c0, c1, c2].getD j undef)
theorem Bx3.new (w : World) (t : TypeId) (c0 c1 c2 : Value) : Bx3 (w.alloc (.cells #[c0, c1, c2] t)) w.heap.size t c0 c1 c2 :=
  World.rowIs_alloc w #[c0, c1, c2] t _ (fun i hi => by
    match i, hi with
    | 0, _ => rfl
    | 1, _ => rfl
    | 2, _ => rfl)
theorem Bx3.below {w w' : World} {b m : Nat} {t : TypeId} {c0 c1 c2 : Value} (h : Bx3 w b t c0 c1 c2) (hb : Below m w w') (hm : b < m) : Bx3 w' b t c0 c1 c2 := World.rowIs.of_block h (hb.block b hm)
theorem Bx3.blk {w w' : World} {b : Nat} {t : TypeId} {c0 c1 c2 : Value} (h : Bx3 w b t c0 c1 c2) (e : w'.heap[b]? = w.heap[b]?) : Bx3 w' b t c0 c1 c2 := World.rowIs.of_block h e
theorem Bx3.facts {w : World} {b : Nat} {t : TypeId} {c0 c1 c2 : Value} (h : Bx3 w b t c0 c1 c2) : w.cell? ⟨b, 0, none⟩ = some c0 ∧ w.cell? ⟨b, 1, none⟩ = some c1 ∧ w.cell? ⟨b, 2, none⟩ = some c2 :=
  ⟨World.rowIs.cell h (i := 0) (by omega), World.rowIs.cell h (i := 1) (by omega), World.rowIs.cell h (i := 2) (by omega)⟩
theorem KRet.foot {w : World} {xs : List El} {e : Ending} {w' : World} (h : KRet w xs e w') : ∃ v rs, e = .returned v ∧ AnsK xs rs ∧ SsF mI 0 (Rng w.heap.size w'.heap.size) w' v rs ∧ Below w.heap.size w w' := by
  obtain ⟨v, ps, h1, h2, h3, h4⟩ := h
  refine ⟨v, _, h1, h2, h3.foot (by decide) ?_, h4⟩
  have := h2.sm.1
  rw [List.length_map] at this
  unfold maxLen
  omega
theorem ss_is {S : Nat → Prop} {w : World} {v : Value} {rs : List (List Int)} (h : SsF mI 0 S w v rs) : ∃ a c, v = .slice a rs.length c := by obtain ⟨a, c, e, -⟩ := h; exact ⟨a, c, e⟩
theorem el_is {S : Nat → Prop} {w : World} {v : Value} {xs : List El} (h : ElsF S w v xs) : ∃ a c, v = .slice a xs.length c := by obtain ⟨a, c, e, -⟩ := h; exact ⟨a, c, e⟩

set_option maxHeartbeats 8000000 in
set_option maxRecDepth 100000 in
theorem lawK_any (l r : Bool) (v : Value) (xs : List El) (w : World) (hv : ElsAt 0 w.heap.size w v xs) :
    Calls Try.prog 3 #[.agg #[.bool l, .bool r, v]] w fun e w' => e = .returned (.bool true) ∧ Below w.heap.size w w' := by
  obtain ⟨a, cp, rfl, -, -⟩ := id hv
  have HN := hide (num_of hv)
  have Hv := hide hv
  clear hv
  go_enter Try.func3, Try.ntmps3
  go_wp2_with fail
  refine (szPattern_any l r _ xs _ (by exact (unhide Hv).below (below1 w _) (Nat.le_refl _))).mono ?_
  rintro e w1 ⟨⟨q, rfl, hq⟩, hb1⟩
  have hz1 := hb1.size
  rw [sz_alloc] at hz1
  have hB1 : Below w.heap.size w w1 := (below1 w _).trans (hb1.mono (by rw [sz_alloc]; omega))
  have RA1 := hide ((Bx3.new w 24 (.bool l) (.bool r) (.slice a xs.length cp)).below hb1 (by rw [sz_alloc]; omega))
  clear hb1
  rcases hq with rfl | ⟨hq0, hq1⟩
  · go_wp2
    go_ret
    exact ⟨rfl, hB1⟩
  · have hsum : xs.length + bulk xs ≤ 1048576 := by omega
    have Hset := hide (set_le (xs := xs) (m := 1048576) (by omega))
    have hxl : xs.length ≤ 1048576 := by omega
    obtain ⟨k0, k1, k2⟩ := (unhide RA1).facts
    clear hq1
    go_wp2_with fail
    refine (toPattern_w l r _ xs _ ((unhide Hv).below hB1 (Nat.le_refl _)) hxl (unhide Hset)).mono ?_
    rintro e w2 ⟨v2, rfl, h2, hb2⟩
    obtain ⟨a2, c2, rfl⟩ := el_is h2
    have hz2 := hb2.size
    have hB2 : Below w.heap.size w w2 := hB1.trans (hb2.mono (by omega))
    have RA2 := hide ((unhide RA1).below hb2 (by omega))
    have E2 := hide (h2.at (N := w2.heap.size) (fun k hk => hk.2) (unhide HN))
    clear h2 hb2 RA1 k0 k1 k2
    go_wp2_with fail
    refine (specK_any l r _ xs _ (unhide E2)).mono ?_
    rintro e w3 hret
    obtain ⟨s0, rs, rfl, hans, hs0, hb3⟩ := hret.foot
    obtain ⟨a3, c3, rfl⟩ := ss_is hs0
    have hz3 := hb3.size
    have hB3 : Below w.heap.size w w3 := hB2.trans (hb3.mono (by omega))
    have RA3 := hide ((unhide RA2).below hb3 (by omega))
    have Hans := hide hans
    have htot : tot rs ≤ 3000 := hans.sm.tot
    have S3 := hide hs0
    obtain ⟨k0, k1, k2⟩ := (unhide RA3).facts
    clear hs0 hans E2 hb3 hret RA2
    go_wp2_with fail
    refine (toPattern_w l r _ xs _ ((unhide Hv).below hB3 (Nat.le_refl _)) hxl (unhide Hset)).mono ?_
    rintro e w4 ⟨x0, rfl, hx0, hb4⟩
    obtain ⟨a4, c4, rfl⟩ := el_is hx0
    have hz4 := hb4.size
    have hB4 : Below w.heap.size w w4 := hB3.trans (hb4.mono (by omega))
    have RA4 := hide ((unhide RA3).below hb4 (by omega))
    have S4 := hide ((unhide S3).keep hb4 (Nat.le_refl _))
    have X4 := hide hx0
    clear hx0 hb4 S3 RA3 k0 k1 k2
    go_wp2_with fail
    have hV4 := below1 w4 (.cells #[.bool l, .bool r, .slice a4 xs.length c4] 30)
    have RX := Bx3.new w4 30 (.bool l) (.bool r) (.slice a4 xs.length c4)
    have hzV : (w4.alloc (.cells #[.bool l, .bool r, .slice a4 xs.length c4] 30)).heap.size = w4.heap.size + 1 := sz_alloc _ _
    generalize w4.alloc (.cells #[.bool l, .bool r, .slice a4 xs.length c4] 30) = V4 at *
    have hzV' : w4.heap.size + 1 ≤ V4.heap.size := by omega
    clear hzV
    refine (implK_any l r _ xs _ (((unhide X4).at (fun k hk => hk.2) (unhide HN)).below hV4 (Nat.le_refl _))).mono ?_
    rintro e w5 hret
    obtain ⟨g0, rs', rfl, hans', hg0, hb5⟩ := hret.foot
    obtain rfl := (unhide Hans).one hans'
    obtain ⟨a5, c5, rfl⟩ := ss_is hg0
    have hz5 := hb5.size
    have hB45 : Below w4.heap.size w4 w5 := hV4.trans (hb5.mono (by omega))
    have hB5 : Below w.heap.size w w5 := hB4.trans (hB45.mono (by omega))
    have RA5 := hide ((unhide RA4).below hB45 (by omega))
    have RX5 := hide (RX.below hb5 (by omega))
    have S5 := hide ((unhide S4).keep hB45 (by omega))
    have X5 := hide ((unhide X4).keep hB45 (fun k hk => hk.2))
    have G5 := hide hg0
    clear hg0 hb5 S4 X4 hans' hret hB45 RA4 RX hV4
    go_wp2_with fail
    refine (eqIntSS_w _ _ rs _ ((unhide G5).all (Nat.le_refl _)) ((unhide S5).all (by omega))).mono ?_
    rintro e w6 ⟨rfl, hb6⟩
    have hz6 := hb6.size
    have hW6 : Below w.heap.size w w6 := hB5.trans (hb6.mono (by omega))
    have RA6 := hide ((unhide RA5).below hb6 (by omega))
    have RX6 := hide ((unhide RX5).below hb6 (by omega))
    have S6 := hide ((unhide S5).keep hb6 (by omega))
    have X6 := hide ((unhide X5).keep hb6 (fun k hk => by have := hk.2; omega))
    have G6 := hide ((unhide G5).keep hb6 (by omega))
    have hS : Hid (∀ W' : World, Below w6.heap.size w6 W' → (W'.cell? ⟨w4.heap.size, 0, none⟩ = some (.bool l) ∧ W'.cell? ⟨w4.heap.size, 1, none⟩ = some (.bool r) ∧ W'.cell? ⟨w4.heap.size, 2, none⟩ = some (.slice a4 xs.length c4)) ∧ W'.cell? ⟨w.heap.size, 0, none⟩ = some (.bool l) ∧ W'.cell? ⟨w.heap.size, 1, none⟩ = some (.bool r) ∧ W'.cell? ⟨w.heap.size, 2, none⟩ = some (.slice a xs.length cp)) := fun W' hW => ⟨((unhide RX6).below hW (by omega)).facts, ((unhide RA6).below hW (by omega)).facts⟩
    obtain ⟨k0, k1, k2⟩ := (unhide RA6).facts
    obtain ⟨x0, x1, x2⟩ := (unhide RX6).facts
    clear hb6 S5 X5 G5 RA5 RX5 hB5
    go_wp2_with fail
    go_region_held3 (fun W' => (W'.cell? ⟨w4.heap.size, 0, none⟩ = some (.bool l) ∧ W'.cell? ⟨w4.heap.size, 1, none⟩ = some (.bool r) ∧ W'.cell? ⟨w4.heap.size, 2, none⟩ = some (.slice a4 xs.length c4)) ∧ W'.cell? ⟨w.heap.size, 0, none⟩ = some (.bool l) ∧ W'.cell? ⟨w.heap.size, 1, none⟩ = some (.bool r) ∧ W'.cell? ⟨w.heap.size, 2, none⟩ = some (.slice a xs.length cp))
      (first | go_keep | exact unhide hS _ hB9 | exact unhide hS _ hB8)
      (first
        | (go_at_call 6; refine (toPattern_w l r _ xs _ (by exact (unhide Hv).below hW6.drew (Nat.le_refl _)) hxl (unhide Hset)).mono ?_; rintro e w8 ⟨u8, rfl, hs8, hb8⟩; have hB8 : Below w6.heap.size w6 w8 := ⟨hb8.os, hb8.tape, hb8.output, hb8.size, hb8.block⟩; have S8 := hide (hs8.at (N := w8.heap.size) (fun k hk => hk.2) (unhide HN)); obtain ⟨p8, q8, rfl⟩ := el_is hs8; clear hb8 hs8)
        | (go_at_call 9; refine (eqPattern_same l r _ _ xs _ (by exact ((unhide X6).keep hB8 (fun k hk => by have := hk.2; omega)).at (fun k hk => by have := hk.2; have := hB8.size; show k < w8.heap.size; omega) (unhide HN)) (by exact unhide S8)).mono ?_; rintro e w9 ⟨rfl, hb9⟩; have hB9 : Below w6.heap.size w6 w9 := hB8.trans (hb9.mono hB8.size); clear hb9))
    have hz9 := hB9.size
    have RA9 := hide ((unhide RA6).below hB9 (by omega))
    have RX9 := hide ((unhide RX6).below hB9 (by omega))
    have S9 := hide ((unhide S6).keep hB9 (by omega))
    have X9 := hide ((unhide X6).keep hB9 (fun k hk => by have := hk.2; omega))
    have G9 := hide ((unhide G6).keep hB9 (by omega))
    have hW9 : Below w.heap.size w w9 := hW6.trans (hB9.mono (by omega))
    clear k0 k1 k2 x0 x1 x2
    obtain ⟨x0, x1, x2⟩ := (unhide RX9).facts
    clear hB8 S8 hS hB9 S6 X6 G6 RA6 RX6
    go_wp2_with fail
    refine (markPattern_f l r _ xs 1 (Rng w3.heap.size w4.heap.size) _ (unhide X9) (by omega) (by omega) hsum (unhide Hset) (fun j hj => by have := hj.2; omega)).mono ?_
    rintro e w10 ⟨rfl, WW, hbW, hcW⟩
    have hzW := hbW.size
    have hzW2 := hcW.size
    have hblk : ∀ k, k < w9.heap.size → ¬ Rng w3.heap.size w4.heap.size k → w10.heap[k]? = w9.heap[k]? := fun k h1 h2 => (hcW.block k h2).trans (hbW.block k h1)
    have hz10 : w9.heap.size ≤ w10.heap.size := by omega
    have hW10 : Below w.heap.size w w10 := hW9.trans ((hbW.mono (by omega)).trans ((hcW.below (lo := w3.heap.size) (fun k hk => hk.1)).mono (by omega)))
    have S10 := hide ((unhide S9).same (w' := w10) (fun k hk => hblk k (by have := hk.2; omega) (fun q => by have := hk.2; have := q.1; omega)))
    have G10 := hide ((unhide G9).same (w' := w10) (fun k hk => hblk k (by have := hk.2; omega) (fun q => by have := hk.1; have := q.2; omega)))
    have RA10 := hide ((unhide RA9).blk (hblk _ (by omega) (fun q => by have := q.1; omega)))
    have hen := endE_bd 1 xs
    generalize endE 1 xs = K9 at *
    have hK9 : ¬ K9 < 0 := by omega
    clear hbW hcW hblk S9 X9 G9 RA9 RX9 hen x0 x1 x2 hzW hzW2
    go_wp2_with fail
    refine (eqIntSS_w _ _ rs _ ((unhide G10).all (by omega)) ((unhide S10).all (by omega))).mono ?_
    rintro e w11 ⟨rfl, hb11⟩
    have hz11 := hb11.size
    have hW11 : Below w.heap.size w w11 := hW10.trans (hb11.mono (by omega))
    have S11 := hide ((unhide S10).keep hb11 (by omega))
    have G11 := hide ((unhide G10).keep hb11 (by omega))
    have RA11 := hide ((unhide RA10).below hb11 (by omega))
    clear hb11 S10 G10 RA10
    go_wp2_with fail
    refine (markIntSS_w _ rs 1 (Rng V4.heap.size w5.heap.size) _ (unhide G11) (by omega) (by omega) (by omega)).mono ?_
    rintro e w12 ⟨rfl, hg12, hc12⟩
    have hz12 := hc12.size
    have hW12 : Below w.heap.size w w12 := hW11.trans ((hc12.below (lo := V4.heap.size) (fun k hk => hk.1)).mono (by omega))
    have S12 := hide ((unhide S11).same (w' := w12) (fun k hk => hc12.block k (fun q => by have := hk.2; have := q.1; omega)))
    have G12 := hide (hg12.all (by omega))
    have RA12 := hide ((unhide RA11).blk (hc12.block _ (fun q => by have := q.1; omega)))
    have hz12' : w11.heap.size ≤ w12.heap.size := by omega
    clear hc12 hg12 S11 G11 RA11 hz12
    go_wp2_with fail
    refine (heldIntSS_w _ rs 1 _ (unhide G12) (by omega) (by omega) (by omega)).mono ?_
    rintro e w13 ⟨rfl, rfl⟩
    have hk2 : ¬ (1 : Int) + (tot rs : Int) < 0 := by omega
    obtain ⟨k0, k1, k2⟩ := (unhide RA12).facts
    clear G12
    go_wp2_with fail
    refine (toPattern_w l r _ xs _ ((unhide Hv).below hW12 (Nat.le_refl _)) hxl (unhide Hset)).mono ?_
    rintro e w14 ⟨z0, rfl, hz0, hb14⟩
    obtain ⟨a14, c14, rfl⟩ := el_is hz0
    have hz14 := hb14.size
    have hW14 : Below w.heap.size w w14 := hW12.trans (hb14.mono (by omega))
    have S14 := hide ((unhide S12).keep hb14 (by omega))
    have Z14 := hide (hz0.at (N := w14.heap.size) (fun k hk => hk.2) (unhide HN))
    clear hz0 hb14 S12 RA12 k0 k1 k2
    go_wp2_with fail
    refine (implK_any l r _ xs _ (unhide Z14)).mono ?_
    rintro e w15 hret
    obtain ⟨h0, rs2, rfl, hans2, hh0, hb15⟩ := hret.foot
    obtain rfl := (unhide Hans).one hans2
    obtain ⟨a15, c15, rfl⟩ := ss_is hh0
    have hz15 := hb15.size
    have hW15 : Below w.heap.size w w15 := hW14.trans (hb15.mono (by omega))
    have S15 := hide ((unhide S14).keep hb15 (by omega))
    have H15 := hide (hh0.all (Nat.le_refl _))
    clear hh0 hb15 hans2 S14 Z14 hret
    go_wp2_with fail
    refine (eqIntSS_w _ _ rs _ (unhide H15) ((unhide S15).all (by omega))).mono ?_
    rintro e w16 ⟨rfl, hb16⟩
    have hW16 : Below w.heap.size w w16 := hW15.trans (hb16.mono (by omega))
    clear hb16
    go_wp2
    go_ret
    exact ⟨rfl, hW16⟩

end Go.Proofs.Ytjoaapoppcibdaa
