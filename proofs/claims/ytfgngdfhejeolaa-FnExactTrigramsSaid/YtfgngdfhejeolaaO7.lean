import Derived.Test.YtfgngdfhejeolaaO6
import Derived.Test.YtfgngdfhejeolaaU0
import Derived.Deep.RegionWith
namespace Go.Proofs.Ytfgngdfhejeolaa
open Go.RowKit

set_option maxHeartbeats 4000000 in
set_option maxRecDepth 100000 in
theorem lawTri_any (ln : Value) (bs : List Int) (w : World) (h4 : SlAt mB 0 0 w.heap.size w ln bs) (hbb : Bytes bs) :
    Calls Try.prog 3 #[ln] w fun e w' => e = .returned (.bool true) ∧ Below w.heap.size w w' := by
  obtain ⟨a4, c4, rfl, l4, -⟩ := id h4
  have l4' := l4
  unfold maxLen at l4'
  have HB := hide hbb
  have H4 := hide h4
  clear hbb h4
  by_cases hbig : 1048576 < bs.length
  · have hbig' : 1048576 < (bs.length : Int) := by omega
    go_enter Try.func3, Try.ntmps3
    go_wp2
    go_ret
    exact ⟨rfl, Below.refl _ _⟩
  · have hbig' : ¬ 1048576 < (bs.length : Int) := by omega
    have hl4 : bs.length ≤ 1048576 := by omega
    have htl := tris_len bs (bs.length - 2)
    have HTL : Hid ((tris bs (bs.length - 2)).length ≤ 1048576) := by show (tris bs (bs.length - 2)).length ≤ 1048576; omega
    clear htl
    go_enter Try.func3, Try.ntmps3
    go_wp2_with fail
    refine (toByteS_w _ bs _ (unhide H4) hl4).mono ?_
    rintro e w1 ⟨u1, rfl, hu1, hb1⟩
    obtain ⟨b1, d1, rfl⟩ := hu1.val
    have hz1 := hb1.size
    have U1 := hide (hu1.all (Nat.le_refl _))
    clear hu1
    go_wp2_with fail
    refine (specTri_any _ bs _ (unhide U1) (unhide HB) hl4).mono ?_
    rintro e w2 ⟨⟨v2, tr, rfl, ho, hle, hs2⟩, hb2⟩
    obtain ⟨aw, cw, rfl⟩ := hs2.val
    have hz2 := hb2.size
    have hB2 : Below w.heap.size w w2 := hb1.trans (hb2.mono hz1)
    have htr : tr.length ≤ 1048576 := Nat.le_trans hle (unhide HTL)
    have HO := hide ho
    have VW := hide (hs2.mono (Nat.zero_le _) (Nat.le_refl _))
    clear hs2 ho hle hb1 hb2 U1
    go_wp2_with fail
    refine (toByteS_w _ bs _ ((unhide H4).below hB2 (Nat.le_refl _)) hl4).mono ?_
    rintro e w3 ⟨u3, rfl, hu3, hb3⟩
    obtain ⟨b3, d3, rfl⟩ := hu3.val
    have hz3 := hb3.size
    have U3 := hide hu3
    clear hu3
    go_wp2_with fail
    refine (implTri_any _ bs _ ((unhide U3).all (Nat.le_refl _)) (unhide HB) hl4).mono ?_
    rintro e w4 ⟨⟨v4, tr', rfl, ho', hle', hs4⟩, hb4⟩
    obtain rfl := (unhide HO).uniq ho'
    obtain ⟨ag, cg, rfl⟩ := hs4.val
    have hz4 := hb4.size
    have hB4 : Below w2.heap.size w2 w4 := hb3.trans (hb4.mono hz3)
    have VW4 := hide ((unhide VW).keep hB4 (Nat.le_refl _))
    have VG := hide hs4
    have U4 := hide ((unhide U3).keep hb4 (Nat.le_refl _))
    clear hs4 ho' hle' hb3 hb4 U3 VW
    go_wp2_with fail
    refine (eqIntS_w _ _ tr _ ((unhide VG).all (Nat.le_refl _)) ((unhide VW4).all (by omega))).mono ?_
    rintro e w5 ⟨rfl, n5, hw5⟩
    subst hw5
    have hB5 : Below w4.heap.size w4 (w4.drewN n5) := drewB n5
    have hW5 : Below w.heap.size w (w4.drewN n5) := hB2.trans ((hB4.trans (hB5.mono (by omega))).mono (by omega))
    go_wp2_with fail
    refine (toByteS_w _ bs _ ((unhide H4).below hW5 (Nat.le_refl _)) hl4).mono ?_
    rintro e w6 ⟨u6, rfl, hu6, hb6⟩
    obtain ⟨b6, d6, rfl⟩ := hu6.val
    have hz6 := hb6.size
    have hB6 : Below w4.heap.size w4 w6 := hB5.trans (hb6.mono (Nat.le_refl _))
    have U6 := hide (hu6.all (Nat.le_refl _))
    clear hu6 hb6 hB5 hW5
    have hz46 := hB6.size
    go_wp2_with fail
    refine (eqByteS_w _ _ bs _ (((unhide U4).keep hB6 (by omega)).all (by omega)) (unhide U6)).mono ?_
    rintro e w7 ⟨rfl, n7, hw7⟩
    have hB7 : Below w4.heap.size w4 w7 := by rw [hw7]; exact below_drewN hB6 n7
    have hz7 : w6.heap.size = w7.heap.size := by rw [hw7]; rfl
    clear hw7 U6
    go_wp2_with fail
    refine (markByteS_any _ bs 1 w2.heap.size w3.heap.size _ ((unhide U4).keep hB7 (by omega)) (by omega) (by omega) (by omega)).mono ?_
    rintro e w8 ⟨rfl, -, hc8⟩
    have hz8 := hc8.size
    have VG8 := hide (((unhide VG).keep hB7 (Nat.le_refl _)).same (SameB.of_chg hc8 (Or.inr (Nat.le_refl _))))
    have VW8 := hide (((unhide VW4).keep hB7 (by omega)).same (SameB.of_chg hc8 (Or.inl (Nat.le_refl _))))
    have hB8 : Below w2.heap.size w2 w8 := hB4.trans ((hB7.mono (by omega)).trans hc8.below)
    clear hc8 VG VW4 U4 hB7 hB6
    go_wp2_with fail
    refine (eqIntS_w _ _ tr _ ((unhide VG8).all (by omega)) ((unhide VW8).all (by omega))).mono ?_
    rintro e w9 ⟨rfl, n9, hw9⟩
    have hB9 : Below w2.heap.size w2 w9 := by rw [hw9]; exact below_drewN hB8 n9
    have VG9 : SlW mI 0 w3.heap.size w4.heap.size w9 (.slice ag tr.length cg) tr := by rw [hw9]; exact unhide VG8
    have VW9 : SlW mI 0 0 w2.heap.size w9 (.slice aw tr.length cw) tr := by rw [hw9]; exact unhide VW8
    have hz9 : w8.heap.size = w9.heap.size := by rw [hw9]; rfl
    have HVG9 := hide VG9
    have HVW9 := hide VW9
    clear hw9 VG8 VW8 VG9 VW9 hB8
    go_wp2_with fail
    refine (markIntS_any _ tr 1 w3.heap.size w4.heap.size _ (unhide HVG9) (by omega) (by omega) (by omega)).mono ?_
    rintro e w10 ⟨rfl, hg10, hc10⟩
    have hz10 := hc10.size
    have HG10 := hide hg10.at
    have VW10 := hide ((unhide HVW9).same (SameB.of_chg hc10 (Or.inl hz3)))
    have hB10 : Below w2.heap.size w2 w10 := hB9.trans (hc10.below.mono hz3)
    clear hg10 hc10 HVG9 HVW9 hB9
    go_wp2_with fail
    refine (heldIntS_any _ tr.length 1 _ _ _ (unhide HG10) (by omega) (by omega) (by omega)).mono ?_
    rintro e w11 ⟨rfl, hw11⟩
    subst hw11
    have hW11 : Below w.heap.size w w11 := hB2.trans (hB10.mono (by omega))
    clear HG10
    go_wp2_with fail
    refine (toByteS_w _ bs _ ((unhide H4).below hW11 (Nat.le_refl _)) hl4).mono ?_
    rintro e w12 ⟨u12, rfl, hu12, hb12⟩
    obtain ⟨b12, d12, rfl⟩ := hu12.val
    have hz12 := hb12.size
    have U12 := hide (hu12.all (Nat.le_refl _))
    have VW12 := hide ((unhide VW10).keep hb12 (by omega))
    have hW12 : Below w.heap.size w w12 := hW11.trans (hb12.mono (by omega))
    clear hu12 hb12 VW10
    go_wp2_with fail
    refine (implTri_any _ bs _ (unhide U12) (unhide HB) hl4).mono ?_
    rintro e w13 ⟨⟨v13, tr', rfl, ho', hle', hs13⟩, hb13⟩
    obtain rfl := (unhide HO).uniq ho'
    obtain ⟨ah, ch, rfl⟩ := hs13.val
    have hz13 := hb13.size
    have VH := hide (hs13.all (Nat.le_refl _))
    have VW13 := hide (((unhide VW12).keep hb13 (by omega)).all (by omega))
    have hW13 : Below w.heap.size w w13 := hW12.trans (hb13.mono (by omega))
    clear hs13 ho' hle' hb13 U12 VW12
    go_wp2_with fail
    refine (eqIntS_w _ _ tr _ (unhide VH) (unhide VW13)).mono ?_
    rintro e w14 ⟨rfl, n14, hw14⟩
    have hW14 : Below w.heap.size w w14 := by rw [hw14]; exact below_drewN hW13 n14
    clear hw14 VH VW13
    go_wp2
    go_ret
    exact ⟨rfl, hW14⟩

end Go.Proofs.Ytfgngdfhejeolaa
