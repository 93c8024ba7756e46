import Derived.Test.YtpkghafpelilfaaEn7
namespace Go.Proofs.Ytpkghafpelilfaa
open Go.RowKit

theorem own_slwB {base n : Nat} {w : World} {v : Value} {xs : List Int} (h : w.ownsRow base 5 1 v n (xs.map mB)) (hn : n ≤ maxLen) : SlW mB 0 base w.heap.size w v xs := by
  have hlen := h.1
  rw [List.length_map, Nat.mul_one] at hlen
  rcases h.2 with ⟨rfl, hz⟩ | ⟨g, cap, cur, rfl, hbg, hg, hnc, hcm, hcs, htake⟩
  · exact ⟨none, 0, by rw [hlen, hz], by omega, fun hp => by omega⟩
  · refine ⟨_, cap, by rw [hlen], by omega, fun hp => ⟨g, 0, rfl, hbg, (h.lt g rfl).2, ⟨cur, _, hg⟩, fun i hi => ?_⟩⟩
    rw [Nat.zero_add, h.cellAt i (by omega), List.getElem?_map, getD_of_lt hi]
    rfl

theorem Out.same {lo : Nat} {w w' : World} {ov : Value} {ts : List Int} (h : Out lo w ov ts) (hs : ∀ k, lo ≤ k → k < w.heap.size → w'.heap[k]? = w.heap[k]?) : Out lo w' ov ts := by
  refine ⟨h.1, ?_⟩
  rcases h.2 with hn | ⟨g, cap, cur, rfl, hb, hg, rest⟩
  · exact .inl hn
  · exact .inr ⟨g, cap, cur, rfl, hb, (hs g hb (Array.getElem?_eq_some_iff.1 hg).1).trans hg, rest⟩

set_option maxHeartbeats 16000000 in
set_option maxRecDepth 100000 in
theorem lawEncode_any (u : Value) (base : Int) (xss pss : List (List Int)) (ks : List Int) (w : World) (hu : SegRd w u base xss ks pss) (hbb : ∀ x ∈ xss, Bytes x) (hr0 : -9223372036854775808 ≤ base ∧ base ≤ 9223372036854775807) :
    Calls Try.prog 3 #[u] w fun e w' => e = .returned (.bool true) ∧ Below w.heap.size w w' := by
  have HU := hide hu
  have HBx := hide hbb
  have H64 := hide hr0
  obtain ⟨a1, c1, a2, c2, a3, c3, rfl, -⟩ := hu.parts
  have hb0 := below1 w (.cells #[.int .i64 base, .slice a1 xss.length c1, .slice a2 ks.length c2, .slice a3 pss.length c3] 26)
  have RA := Row4.new w 26 (.int .i64 base) (.slice a1 xss.length c1) (.slice a2 ks.length c2) (.slice a3 pss.length c3)
  have hzV : (w.alloc (.cells #[.int .i64 base, .slice a1 xss.length c1, .slice a2 ks.length c2, .slice a3 pss.length c3] 26)).heap.size = w.heap.size + 1 := sz_alloc _ _
  clear hu hbb hr0
  go_enter Try.func3, Try.ntmps3
  go_wp2_with fail
  generalize w.alloc (.cells #[.int .i64 base, .slice a1 xss.length c1, .slice a2 ks.length c2, .slice a3 pss.length c3] 26) = V at *
  refine (szSegment_w _ base 1048576 xss pss ks _ ((unhide HU).below hb0 (Nat.le_refl _)) (by omega) (by omega)).mono ?_
  rintro e w2 ⟨⟨r, rfl, hr⟩, hb1⟩
  have hz1 := hb1.size
  have RA2 := hide (RA.below hb1 (by omega))
  have hB2 : Below w.heap.size w w2 := hb0.trans (hb1.mono (by omega))
  clear RA hb0 hb1
  by_cases hn : r < 0
  · clear hr
    go_wp2
    go_ret
    exact ⟨rfl, hB2⟩
  have hr' := hr.resolve_left hn
  have i1 : tot xss ≤ 1048576 := by omega
  have i2 : xss.length ≤ 1048576 := by omega
  have i3 : ks.length ≤ 1048576 := by omega
  have i4 : tot pss ≤ 1048576 := by omega
  have i5 : pss.length ≤ 1048576 := by omega
  have hnx : 0 ≤ segN xss ks pss ∧ segN xss ks pss ≤ 3145728 := by unfold segN; omega
  have IX : Hid (SegIn base xss ks pss) := ⟨unhide HBx, (unhide H64).1, (unhide H64).2, i1, i2, i3, i4, i5⟩
  clear hr hr'
  obtain ⟨f0, f1, f2, f3, -⟩ := (unhide RA2).facts
  go_wp2_with fail
  refine (toSegment_w _ base xss pss ks w2 ((unhide HU).below hB2 (Nat.le_refl _)) i1 i2 i3 i4 i5).mono ?_
  rintro e w3 ⟨u3, rfl, hF3, hb3⟩
  have hz3 := hb3.size
  have S3 := hide (hF3.rd (Nat.le_refl _))
  obtain ⟨s1a, s1c, s2a, s2c, s3a, s3c, rfl, -⟩ := (unhide S3).parts
  clear hF3 f0 f1 f2 f3
  go_wp2_with fail
  refine (specEncode_any _ base xss pss ks w3 (unhide S3) (unhide IX)).mono ?_
  rintro e w4 ⟨⟨vw, bs, rfl, his, hout, hbl⟩, hb4⟩
  have hz4 := hb4.size
  have hE4 : Below w2.heap.size w2 w4 := hb3.trans (hb4.mono (by omega))
  have HIS := hide his
  have SW := hide (own_rdB hout (by unfold maxLen; omega))
  obtain ⟨wa, wc, rfl⟩ := hout.is
  clear his hout hb3 hb4 S3
  obtain ⟨f0, f1, f2, f3, -⟩ := ((unhide RA2).below hE4 (by omega)).facts
  go_wp2_with fail
  refine (toSegment_w _ base xss pss ks w4 ((unhide HU).below (hB2.trans (hE4.mono (by omega))) (Nat.le_refl _)) i1 i2 i3 i4 i5).mono ?_
  rintro e w5 ⟨u5, rfl, hF5, hb5⟩
  have hz5 := hb5.size
  have HF5 := hide hF5
  obtain ⟨x1a, x1c, x2a, x2c, x3a, x3c, rfl, -⟩ := (hF5.rd (Nat.le_refl _)).parts
  have hE5 : Below w2.heap.size w2 w5 := hE4.trans (hb5.mono (by omega))
  have hD5 : Below w4.heap.size w4 w5 := hb5
  clear hF5 hb5 f0 f1 f2 f3
  have hV5 := below1 w5 (.cells #[.int .i64 base, .slice x1a xss.length x1c, .slice x2a ks.length x2c, .slice x3a pss.length x3c] 30)
  have BX := Row4.new w5 30 (.int .i64 base) (.slice x1a xss.length x1c) (.slice x2a ks.length x2c) (.slice x3a pss.length x3c)
  have hzV5 : (w5.alloc (.cells #[.int .i64 base, .slice x1a xss.length x1c, .slice x2a ks.length x2c, .slice x3a pss.length x3c] 30)).heap.size = w5.heap.size + 1 := sz_alloc _ _
  obtain ⟨f0, f1, f2, f3, -⟩ := BX.facts
  go_wp2_with fail
  generalize w5.alloc (.cells #[.int .i64 base, .slice x1a xss.length x1c, .slice x2a ks.length x2c, .slice x3a pss.length x3c] 30) = V5 at *
  refine (implEncode_any _ base xss pss ks V5 (((unhide HF5).rd (Nat.le_refl _)).below hV5 (Nat.le_refl _)) (unhide IX)).mono ?_
  rintro e w6 ⟨⟨vg, bs', rfl, hig, hog, -⟩, hb6⟩
  obtain rfl := (unhide HIS).uniq hig
  have hz6 := hb6.size
  have HOG := hide hog
  obtain ⟨ga, gc, rfl⟩ := hog.is
  have hB56 : Below w5.heap.size w5 w6 := hV5.trans (hb6.mono (by omega))
  have hE6 : Below w2.heap.size w2 w6 := hE5.trans (hB56.mono (by omega))
  have hD6 : Below w4.heap.size w4 w6 := hD5.trans (hB56.mono (by omega))
  have BX6 := hide (BX.below hb6 (by omega))
  have HF56 := hide ((unhide HF5).keep hB56 (Nat.le_refl _))
  clear hog hig hb6 hV5 BX HF5 f0 f1 f2 f3
  go_wp2_with fail
  refine (eqByteS_w _ _ bs w6 (own_rdB (unhide HOG) (by unfold maxLen; omega)) ((unhide SW).below hD6 (Nat.le_refl _))).mono ?_
  rintro e w7 ⟨rfl, n7, hw7⟩
  have hB67 : Below w6.heap.size w6 w7 := by rw [hw7]; exact drewB n7
  have hz7 := hB67.size
  have hE7 : Below w2.heap.size w2 w7 := hE6.trans (hB67.mono (by omega))
  have hD7 : Below w4.heap.size w4 w7 := hD6.trans (hB67.mono (by omega))
  have BX7 := hide ((unhide BX6).below hB67 (by omega))
  have HF57 := hide ((unhide HF56).keep hB67 (by omega))
  have HOG7 := hide ((unhide HOG).keep hB67 (Nat.le_refl _))
  clear hw7 BX6 HF56 HOG
  have hS : Hid (∀ W' : World, Below w7.heap.size w7 W' → (W'.cell? ⟨w5.heap.size, 0, none⟩ = some (.int .i64 base) ∧ W'.cell? ⟨w5.heap.size, 1, none⟩ = some (.slice x1a xss.length x1c) ∧ W'.cell? ⟨w5.heap.size, 2, none⟩ = some (.slice x2a ks.length x2c) ∧ W'.cell? ⟨w5.heap.size, 3, none⟩ = some (.slice x3a pss.length x3c)) ∧ W'.cell? ⟨w.heap.size, 0, none⟩ = some (.int .i64 base) ∧ W'.cell? ⟨w.heap.size, 1, none⟩ = some (.slice a1 xss.length c1) ∧ W'.cell? ⟨w.heap.size, 2, none⟩ = some (.slice a2 ks.length c2) ∧ W'.cell? ⟨w.heap.size, 3, none⟩ = some (.slice a3 pss.length c3)) := fun W' hW => by
    have h1 := ((unhide BX7).below hW (by omega)).facts
    have h2 := (((unhide RA2).below hE7 (by omega)).below hW (by omega)).facts
    exact ⟨⟨h1.1, h1.2.1, h1.2.2.1, h1.2.2.2.1⟩, ⟨h2.1, h2.2.1, h2.2.2.1, h2.2.2.2.1⟩⟩
  obtain ⟨⟨f0, f1, f2, f3⟩, g0, g1, g2, g3⟩ := unhide hS w7 (Below.refl _ _)
  go_wp2_with fail
  go_region_held3 (fun W' => (W'.cell? ⟨w5.heap.size, 0, none⟩ = some (.int .i64 base) ∧ W'.cell? ⟨w5.heap.size, 1, none⟩ = some (.slice x1a xss.length x1c) ∧ W'.cell? ⟨w5.heap.size, 2, none⟩ = some (.slice x2a ks.length x2c) ∧ W'.cell? ⟨w5.heap.size, 3, none⟩ = some (.slice x3a pss.length x3c)) ∧ W'.cell? ⟨w.heap.size, 0, none⟩ = some (.int .i64 base) ∧ W'.cell? ⟨w.heap.size, 1, none⟩ = some (.slice a1 xss.length c1) ∧ W'.cell? ⟨w.heap.size, 2, none⟩ = some (.slice a2 ks.length c2) ∧ W'.cell? ⟨w.heap.size, 3, none⟩ = some (.slice a3 pss.length c3))
    (first | (with_reducible exact unhide hS _ hB9) | (with_reducible exact unhide hS _ hB8) | go_keep)
    (first
      | (go_at_call 7; refine (toSegment_w _ base xss pss ks _ (by exact (unhide HU).below ((hB2.trans (hE7.mono (by omega))).drew) (Nat.le_refl _)) i1 i2 i3 i4 i5).mono ?_; rintro e w8 ⟨u8, rfl, hF8, hb8⟩; have hB8 : Below w7.heap.size w7 w8 := ⟨hb8.os, hb8.tape, hb8.output, hb8.size, hb8.block⟩; have S8 := hide (hF8.rd (Nat.le_refl _)); obtain ⟨s1a, s1c, s2a, s2c, s3a, s3c, rfl, -⟩ := (unhide S8).parts; clear hF8 hb8)
      | (go_at_call 10; refine (eqSegment_w _ _ base xss pss ks _ (by exact ((unhide HF57).rd (by omega)).below hB8 (Nat.le_refl _)) (by exact unhide S8)).mono ?_; rintro e w9 ⟨rfl, hb9⟩; have hB9 : Below w7.heap.size w7 w9 := hB8.trans (hb9.mono hB8.size); clear hb9))
  have hz9 := hB9.size
  have hE9 : Below w2.heap.size w2 w9 := hE7.trans (hB9.mono (by omega))
  have hD9 : Below w4.heap.size w4 w9 := hD7.trans (hB9.mono (by omega))
  have BX9 := hide ((unhide BX7).below hB9 (by omega))
  have HF59 := hide ((unhide HF57).keep hB9 (by omega))
  have HOG9 := hide ((unhide HOG7).keep hB9 (Nat.le_refl _))
  clear hB8 hB9 S8 hS BX7 HF57 HOG7 f0 f1 f2 f3 g0 g1 g2 g3
  obtain ⟨f0, f1, f2, f3, -⟩ := (unhide BX9).facts
  go_wp2_with fail
  refine (markSegment_w _ base 1 xss pss ks w4.heap.size w5.heap.size w9 (unhide HF59) (by omega) (by omega) (by omega) (by omega) i1 i3 i4).mono ?_
  rintro e w10 ⟨rfl, -, hb10, hhi10⟩
  have hz10 := hb10.size
  have hE10 : Below w2.heap.size w2 w10 := hE9.trans (hb10.mono (by omega))
  have hD10 : Below w4.heap.size w4 w10 := hD9.trans hb10
  have HOG10 := hide ((unhide HOG9).same (w' := w10) (fun k k1 k2 => hhi10 k k2 (by omega)))
  have hk1 : ¬ (1 : Int) + segN xss ks pss < 0 := by omega
  clear hb10 hhi10 BX9 HF59 HOG9 f0 f1 f2 f3
  go_wp2_with fail
  refine (eqByteS_w _ _ bs w10 (own_rdB (unhide HOG10) (by unfold maxLen; omega)) ((unhide SW).below hD10 (Nat.le_refl _))).mono ?_
  rintro e w11 ⟨rfl, n11, hw11⟩
  have hB1011 : Below w10.heap.size w10 w11 := by rw [hw11]; exact drewB n11
  have hz11 := hB1011.size
  have hE11 : Below w2.heap.size w2 w11 := hE10.trans (hB1011.mono (by omega))
  have hD11 : Below w4.heap.size w4 w11 := hD10.trans (hB1011.mono (by omega))
  have HOG11 := hide ((unhide HOG10).keep hB1011 (Nat.le_refl _))
  clear hw11 hB1011 HOG10
  go_wp2_with fail
  refine (markByteS_big _ bs 1 V5.heap.size w11.heap.size w11 (own_slwB (unhide HOG11) (by unfold maxLen; omega)) (by omega) (by omega) (by omega)).mono ?_
  rintro e w12 ⟨rfl, hmk, hch⟩
  have hb12 : Below V5.heap.size w11 w12 := hch.below
  have hz12 := hb12.size
  have hE12 : Below w2.heap.size w2 w12 := hE11.trans (hb12.mono (by omega))
  have hD12 : Below w4.heap.size w4 w12 := hD11.trans (hb12.mono (by omega))
  have HM12 := hide hmk.at
  clear hmk hch HOG11 hb12
  go_wp2_with fail
  refine (heldByteS_big _ bs.length 1 V5.heap.size w11.heap.size w12 (unhide HM12) (by omega) (by omega) (by omega)).mono ?_
  rintro e w13 ⟨rfl, hw13⟩
  have hk2 : ¬ (1 : Int) + (bs.length : Int) < 0 := by omega
  obtain ⟨f0, f1, f2, f3, -⟩ := ((unhide RA2).below hE12 (by omega)).facts
  subst hw13
  clear HM12
  go_wp2_with fail
  refine (toSegment_w _ base xss pss ks w13 ((unhide HU).below (hB2.trans (hE12.mono (by omega))) (Nat.le_refl _)) i1 i2 i3 i4 i5).mono ?_
  rintro e w14 ⟨u14, rfl, hF14, hb14⟩
  have hz14 := hb14.size
  have S14 := hide (hF14.rd (Nat.le_refl _))
  obtain ⟨s1a, s1c, s2a, s2c, s3a, s3c, rfl, -⟩ := (unhide S14).parts
  clear hF14 f0 f1 f2 f3
  go_wp2_with fail
  refine (implEncode_any _ base xss pss ks w14 (unhide S14) (unhide IX)).mono ?_
  rintro e w15 ⟨⟨vh, bh, rfl, hih, hoh, -⟩, hb15⟩
  obtain rfl := (unhide HIS).uniq hih
  have hz15 := hb15.size
  have hE15 : Below w2.heap.size w2 w15 := hE12.trans ((hb14.trans (hb15.mono (by omega))).mono (by omega))
  have hD15 : Below w4.heap.size w4 w15 := hD12.trans ((hb14.trans (hb15.mono (by omega))).mono (by omega))
  have HOH := hide hoh
  obtain ⟨ha, hc, rfl⟩ := hoh.is
  clear hoh hih hb14 hb15 S14
  go_wp2_with fail
  refine (eqByteS_w _ _ bs w15 (own_rdB (unhide HOH) (by unfold maxLen; omega)) ((unhide SW).below hD15 (Nat.le_refl _))).mono ?_
  rintro e w16 ⟨rfl, n16, hw16⟩
  have hBf : Below w.heap.size w w16 := by rw [hw16]; exact hB2.trans ((hE15.mono (by omega)).trans (drewB n16))
  clear hw16
  go_wp2
  go_ret
  exact ⟨rfl, hBf⟩

end Go.Proofs.Ytpkghafpelilfaa
