import Derived.Test.YtidjmaakhldpgaaI3
import Derived.Test.YtidjmaakhldpgaaU0
import Derived.Deep.RegionWith
namespace Go.Proofs.Ytidjmaakhldpgaa
open Go.RowKit

theorem LB.footR {base : Nat} {w : World} {v : Value} {ps : List (Cl Int)} (h : LB base w v ps) : SsF mB 0 (Rng base w.heap.size) w v (ps.map Cl.xs) := by
  refine h.foot (by decide) ?_
  have h1 := own_cap h.own
  obtain ⟨a, c, rfl⟩ := own_is h.own
  have := h1.le
  omega

set_option maxHeartbeats 4000000 in
set_option maxRecDepth 100000 in
theorem lawSplit_any (ln : Value) (bs : List Int) (w : World) (h4 : SlAt mB 0 0 w.heap.size w ln bs) (hbb : Bytes bs) :
    Calls Try.prog 3 #[ln] w fun e w' => e = .returned (.bool true) ∧ Below w.heap.size w w' := by
  obtain ⟨a4, c4, rfl, l4, -⟩ := id h4
  have l4' := l4
  unfold maxLen at l4'
  have HB := hide hbb
  have H4 := hide h4
  clear hbb h4
  by_cases hbig : 1048576 < bs.length
  · have hbig' : 1048576 < (bs.length : Int) := by omega
    go_enter Try.func3, Try.ntmps3
    go_wp2
    go_ret
    exact ⟨rfl, Below.refl _ _⟩
  · have hbig' : ¬ 1048576 < (bs.length : Int) := by omega
    have hl4 : bs.length ≤ 1048576 := by omega
    have hT : tot (lns bs) ≤ 1048576 := Nat.le_trans (lns_tot bs) hl4
    have hL : (lns bs).length ≤ 1048576 := Nat.le_trans (lns_len bs) hl4
    have Hgen : Hid (∀ ps : List (Cl Int), ps.map Cl.xs = lns bs → ps.map Cl.xs = lns bs) := fun _ h => h
    go_enter Try.func3, Try.ntmps3
    go_wp2_with fail
    refine (toByteS_w _ bs _ (unhide H4) hl4).mono ?_
    rintro e w1 ⟨u1, rfl, hu1, hb1⟩
    obtain ⟨b1, d1, rfl⟩ := hu1.val
    have hz1 := hb1.size
    have U1 := hide (hu1.all (Nat.le_refl _))
    clear hu1
    go_wp2_with fail
    refine (specSplit_any _ bs _ (unhide U1) hl4).mono ?_
    rintro e w2 ⟨v2, ps2, rfl, hp2, hll2, hb2⟩
    have hs2 := LB.footR hll2
    rw [hp2] at hs2
    have hz2 := hb2.size
    have hB2 : Below w.heap.size w w2 := hb1.trans (hb2.mono hz1)
    have VW := hide hs2
    obtain ⟨aw, cw, rfl, -⟩ := hs2
    clear hb1 hb2 U1 hll2 hp2
    go_wp2_with fail
    refine (toByteS_wc _ bs _ ((unhide H4).below hB2 (Nat.le_refl _)) hl4).mono ?_
    rintro e w3 ⟨u3, rfl, hu3, hcu3, hb3⟩
    obtain ⟨b3, d3, rfl⟩ := hu3.val
    have hz3 := hb3.size
    have U3 := hide hu3
    have CU3 := hide hcu3
    clear hu3 hcu3
    go_wp2_with fail
    refine (implSplit_any _ bs _ ((unhide U3).all (Nat.le_refl _)) (unhide CU3) (unhide HB) hl4).mono ?_
    rintro e w4 ⟨v4, ps4, rfl, hp4, hll4, hb4⟩
    have hs4 := LB.footR hll4
    rw [hp4] at hs4
    have hz4 := hb4.size
    have hB4 : Below w2.heap.size w2 w4 := hb3.trans (hb4.mono hz3)
    have VW4 := hide ((unhide VW).keep hB4 (Nat.le_refl _))
    have VG := hide hs4
    obtain ⟨ag, cg, rfl, -⟩ := hs4
    have U4 := hide ((unhide U3).keep hb4 (Nat.le_refl _))
    clear hll4 hp4 hb3 hb4 U3 VW
    go_wp2_with fail
    refine (eqByteSS_w _ _ (lns bs) _ ((unhide VG).all (Nat.le_refl _)) ((unhide VW4).all (by omega))).mono ?_
    rintro e w5 ⟨rfl, hB5⟩
    have hW5 : Below w.heap.size w w5 := hB2.trans ((hB4.trans (hB5.mono (by omega))).mono (by omega))
    go_wp2_with fail
    refine (toByteS_w _ bs _ ((unhide H4).below hW5 (Nat.le_refl _)) hl4).mono ?_
    rintro e w6 ⟨u6, rfl, hu6, hb6⟩
    obtain ⟨b6, d6, rfl⟩ := hu6.val
    have hz5 := hB5.size
    have hz6 := hb6.size
    have hB6 : Below w4.heap.size w4 w6 := hB5.trans (hb6.mono (by omega))
    have U6 := hide (hu6.all (Nat.le_refl _))
    clear hu6 hb6 hB5 hW5
    have hz46 := hB6.size
    go_wp2_with fail
    refine (eqByteS_w _ _ bs _ (((unhide U4).keep hB6 (by omega)).all (by omega)) (unhide U6)).mono ?_
    rintro e w7 ⟨rfl, n7, hw7⟩
    have hB7 : Below w4.heap.size w4 w7 := by rw [hw7]; exact below_drewN hB6 n7
    have hz7 : w6.heap.size = w7.heap.size := by rw [hw7]; rfl
    clear hw7 U6
    go_wp2_with fail
    refine (markByteS_any _ bs 1 w2.heap.size w3.heap.size _ ((unhide U4).keep hB7 (by omega)) (by omega) (by omega) (by omega)).mono ?_
    rintro e w8 ⟨rfl, -, hc8⟩
    have hz8 := hc8.size
    have VG8 := hide (((unhide VG).keep hB7 (Nat.le_refl _)).same (w' := w8) (fun k hk => hc8.block k (by unfold Rng at hk; omega)))
    have VW8 := hide (((unhide VW4).keep hB7 (by omega)).same (w' := w8) (fun k hk => hc8.block k (by unfold Rng at hk; omega)))
    have hB8 : Below w2.heap.size w2 w8 := hB4.trans ((hB7.mono (by omega)).trans hc8.below)
    have hk1 : ¬ (1 : Int) + (bs.length : Int) < 0 := by omega
    clear hc8 VG VW4 U4 hB7 hB6
    go_wp2_with fail
    refine (eqByteSS_w _ _ (lns bs) _ ((unhide VG8).all (by omega)) ((unhide VW8).all (by omega))).mono ?_
    rintro e w9 ⟨rfl, hb9⟩
    have hz9 := hb9.size
    have hB9 : Below w2.heap.size w2 w9 := hB8.trans (hb9.mono (by omega))
    have VG9 := hide ((unhide VG8).keep hb9 (by omega))
    have VW9 := hide ((unhide VW8).keep hb9 (by omega))
    clear hb9 VG8 VW8 hB8
    go_wp2_with fail
    refine (markByteSS_w _ (lns bs) 1 (Rng w3.heap.size w4.heap.size) _ (unhide VG9) (by omega) (by omega) (by omega)).mono ?_
    rintro e w10 ⟨rfl, hg10, hc10⟩
    have hz10 := hc10.size
    have HG10 := hide (hg10.all (by omega))
    have VW10 := hide ((unhide VW9).same (w' := w10) (fun k hk => hc10.block k (fun h => by unfold Rng at hk h; omega)))
    have hB10 : Below w2.heap.size w2 w10 := hB9.trans (hc10.below (fun k hk => by unfold Rng at hk; omega))
    clear hg10 hc10 VG9 VW9 hB9
    go_wp2_with fail
    refine (heldByteSS_w _ (lns bs) 1 _ (by have := unhide HG10; exact this) (by omega) (by omega) (by omega)).mono ?_
    rintro e w11 ⟨rfl, hw11⟩
    subst hw11
    have hk2 : ¬ (1 : Int) + (tot (lns bs) : Int) < 0 := by omega
    have hW11 : Below w.heap.size w w11 := hB2.trans (hB10.mono (by omega))
    clear HG10
    go_wp2_with fail
    refine (toByteS_wc _ bs _ ((unhide H4).below hW11 (Nat.le_refl _)) hl4).mono ?_
    rintro e w12 ⟨u12, rfl, hu12, hcu12, hb12⟩
    obtain ⟨b12, d12, rfl⟩ := hu12.val
    have hz12 := hb12.size
    have U12 := hide (hu12.all (Nat.le_refl _))
    have CU12 := hide hcu12
    have VW12 := hide ((unhide VW10).keep hb12 (by omega))
    have hW12 : Below w.heap.size w w12 := hW11.trans (hb12.mono (by omega))
    clear hu12 hb12 VW10 hcu12
    go_wp2_with fail
    refine (implSplit_any _ bs _ (unhide U12) (unhide CU12) (unhide HB) hl4).mono ?_
    rintro e w13 ⟨v13, ps13, rfl, hp13, hll13, hb13⟩
    have hs13 := LB.footR hll13
    rw [hp13] at hs13
    have hz13 := hb13.size
    have VH := hide (hs13.all (Nat.le_refl _))
    obtain ⟨ah, ch, rfl, -⟩ := hs13
    have VW13 := hide (((unhide VW12).keep hb13 (by omega)).all (by omega))
    have hW13 : Below w.heap.size w w13 := hW12.trans (hb13.mono (by omega))
    clear hp13 hll13 hb13 U12 VW12
    go_wp2_with fail
    refine (eqByteSS_w _ _ (lns bs) _ (unhide VH) (unhide VW13)).mono ?_
    rintro e w14 ⟨rfl, hb14⟩
    have hW14 : Below w.heap.size w w14 := hW13.trans (hb14.mono (by omega))
    clear hb14 VH VW13
    go_wp2
    go_ret
    exact ⟨rfl, hW14⟩

end Go.Proofs.Ytidjmaakhldpgaa
