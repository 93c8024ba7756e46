import Derived.Test.YtbgjgaejfkdceaaGreatMg5
import Derived.Test.YtbgjgaejfkdceaaGreatSt3
namespace Go.Proofs.YtbgjgaejfkdceaaGreat
open Go.RowKit

/-- How long an encoded segment can be. -/
theorem encL_smallM {base : Int} {xss pss : List (List Int)} {ks : List Int} (h : EncIn base xss ks pss) (hf : Fits base xss) (hs : SegR base xss ks pss) : (encL base xss ks pss).length ≤ 1048576 := by
  obtain ⟨f0, f1, f2, f3, f4⟩ := id hf
  have h1 := lnL_len xss h.t1
  have h2 := kyL_len base h.b ks pss 0 (Int.le_refl _) h.k h.p h.t3
  have h3 := vi_len9 (n := base) (by omega)
  have h4 := vi_len9 (n := (xss.length : Int)) (by omega)
  have h5 := vi_len9 (n := (ks.length : Int)) (by have := h.l2; omega)
  have h6 := segR_len hs (by omega)
  have e : (encL base xss ks pss).length = (bodL base xss ks pss).length + 4 := by unfold encL; rw [List.length_append]; rfl
  rw [e]
  unfold bodL
  simp only [List.length_append, List.length_cons, List.length_nil]
  omega
theorem MergeIs.small {bss oss b o : List (List Int)} {k c : Int} (h : MergeIs bss oss k b o c) (hby : ∀ x ∈ bss, Bytes x) (t1 : tot bss ≤ 1048576) (t2 : tot oss ≤ 1048576) : tot b ≤ 2097152 ∧ tot o ≤ 2097152 := by
  rcases h with ⟨-, rfl, rfl, -⟩ | ⟨gs, -, -, rfl, rfl, -⟩ | ⟨gs, g, g', ks, pss, h0, h1, h2, h3, h4, rfl, rfl, -⟩
  · simp [Go.Proofs.YtbgjgaejfkdceaaGreat.tot]
  · exact ⟨by omega, by omega⟩
  · obtain ⟨q, q', e1, e2, -, -, -, hF, hB, hl, -⟩ := pair_ok h0 hby (k := k.toNat) (by omega)
    rw [h2] at e1
    rw [h3] at e2
    cases e1
    cases e2
    have hf := hF.2.2.2.2
    have hl2 := segR_len h4 (by omega)
    have he := encL_smallM (built_enc hF h4 hB (by omega) (by omega)) hF h4
    have hgl : gs.length = bss.length := by rw [← (stO_all h0 hby).1, List.length_map]
    refine ⟨?_, by omega⟩
    rw [outK_all _ _ bss (by omega), tot_app, tot_app]
    have e : ∀ x : List Int, tot [x] = x.length := fun x => by simp [Go.Proofs.YtbgjgaejfkdceaaGreat.tot]
    rw [e]
    have a1 := tot_app (bss.take (k.toNat + 2)) (bss.drop (k.toNat + 2))
    have a2 := tot_app (bss.take k.toNat) ((bss.take (k.toNat + 2)).drop k.toNat)
    rw [List.take_append_drop] at a1
    rw [show bss.take k.toNat = (bss.take (k.toNat + 2)).take k.toNat by rw [List.take_take, Nat.min_eq_left (by omega)], List.take_append_drop] at a2
    have a3 : bss.take k.toNat = (bss.take (k.toNat + 2)).take k.toNat := by rw [List.take_take, Nat.min_eq_left (by omega)]
    rw [a3]
    omega

set_option maxHeartbeats 16000000 in
set_option maxRecDepth 100000 in
theorem lawMerge_any (u : Value) (kq : Int) (bss oss : List (List Int)) (w : World) (hu : StRd w u bss oss) (hby : ∀ x ∈ bss, Bytes x) (hbo : ∀ x ∈ oss, Bytes x) (hq1 : -9223372036854775808 ≤ kq) (hq2 : kq ≤ 9223372036854775807) :
    Calls Tryz.prog 4 #[u, .int .i64 kq] w fun e w' => e = .returned (.bool true) ∧ Below w.heap.size w w' := by
  have HU := hide hu
  have HB := hide hby
  have HBO := hide hbo
  obtain ⟨a1, c1, a2, c2, rfl⟩ := hu.val
  have hb0 := below1 w (.cells #[.slice a1 bss.length c1, .slice a2 oss.length c2] 24)
  have RA := Row2.new w 24 (.slice a1 bss.length c1) (.slice a2 oss.length c2)
  have hzV : (w.alloc (.cells #[.slice a1 bss.length c1, .slice a2 oss.length c2] 24)).heap.size = w.heap.size + 1 := sz_alloc _ _
  clear hu hby hbo
  go_enter Tryz.func4, Tryz.ntmps4
  go_wp2_with fail
  generalize w.alloc (.cells #[.slice a1 bss.length c1, .slice a2 oss.length c2] 24) = V at *
  refine (szState_w _ 1048576 bss oss _ ((unhide HU).below hb0 (Nat.le_refl _)) (by omega) (by omega)).mono ?_
  rintro e w2 ⟨⟨r, rfl, hr⟩, hb1⟩
  have hz1 := hb1.size
  have RA2 := hide (RA.below hb1 (by omega))
  have hB2 : Below w.heap.size w w2 := hb0.trans (hb1.mono (by omega))
  clear RA hb0 hb1
  by_cases hn : r < 0
  · clear hr
    go_wp2
    go_ret
    exact ⟨rfl, hB2⟩
  have hr' := hr.resolve_left hn
  have i1 : tot bss ≤ 1048576 := by omega
  have i2 : bss.length ≤ 1048576 := by omega
  have i3 : tot oss ≤ 1048576 := by omega
  have i4 : oss.length ≤ 1048576 := by omega
  clear hr hr'
  obtain ⟨f0, f1, -⟩ := (unhide RA2).facts4
  go_wp2_with fail
  refine (toState_w _ bss oss w2 ((unhide HU).below hB2 (Nat.le_refl _)) i1 i2 i3 i4).mono ?_
  rintro e w3 ⟨u3, rfl, hF3, hb3⟩
  have hz3 := hb3.size
  have S3 := hide (hF3.rd (Nat.le_refl _))
  obtain ⟨s1a, s1c, s2a, s2c, rfl⟩ := (unhide S3).val
  clear hF3 f0 f1
  go_wp2_with fail
  refine (specMergeSt_any _ kq bss oss w3 (unhide S3) (unhide HB) i1 i2 i3 i4 hq1 hq2).mono ?_
  rintro e w4 ⟨⟨vw, b, o, c, rfl, his, hrw⟩, hb4⟩
  have hz4 := hb4.size
  have hE4 : Below w2.heap.size w2 w4 := hb3.trans (hb4.mono (by omega))
  have HIS := hide his
  have hsm := his.small (unhide HB) i1 i3
  have RW := hide hrw
  obtain ⟨wa1, wc1, wa2, wc2, rfl⟩ := hrw.val
  clear his hrw hb3 hb4 S3
  obtain ⟨f0, f1, -⟩ := (((unhide RA2).below hE4 (by omega)).alloc (.cells #[.slice wa1 b.length wc1, .slice wa2 o.length wc2] 27)).facts4
  have hV4 := below1 w4 (.cells #[.slice wa1 b.length wc1, .slice wa2 o.length wc2] 27)
  have BW := Row2.new w4 27 (.slice wa1 b.length wc1) (.slice wa2 o.length wc2)
  have hzV4 : (w4.alloc (.cells #[.slice wa1 b.length wc1, .slice wa2 o.length wc2] 27)).heap.size = w4.heap.size + 1 := sz_alloc _ _
  go_wp2_with fail
  generalize w4.alloc (.cells #[.slice wa1 b.length wc1, .slice wa2 o.length wc2] 27) = V4 at *
  have hzV4' : w4.heap.size + 1 ≤ V4.heap.size := by omega
  clear hzV4
  refine (toState_w _ bss oss V4 ((unhide HU).below (hB2.trans ((hE4.trans (hV4.mono (by omega))).mono (by omega))) (Nat.le_refl _)) i1 i2 i3 i4).mono ?_
  rintro e w5 ⟨u5, rfl, hF5, hb5⟩
  have hz5 := hb5.size
  have HF5 := hide hF5
  obtain ⟨x1a, x1c, x2a, x2c, rfl⟩ := (hF5.rd (Nat.le_refl _)).val
  have hD5 : Below w4.heap.size w4 w5 := hV4.trans (hb5.mono (by omega))
  have hE5 : Below w2.heap.size w2 w5 := hE4.trans (hD5.mono (by omega))
  have BW5 := hide (BW.below hb5 (by omega))
  clear hF5 hb5 hV4 BW f0 f1
  have hV5 := below1 w5 (.cells #[.slice x1a bss.length x1c, .slice x2a oss.length x2c] 27)
  have BX := Row2.new w5 27 (.slice x1a bss.length x1c) (.slice x2a oss.length x2c)
  have hzV5 : (w5.alloc (.cells #[.slice x1a bss.length x1c, .slice x2a oss.length x2c] 27)).heap.size = w5.heap.size + 1 := sz_alloc _ _
  obtain ⟨f0, f1, -⟩ := BX.facts4
  go_wp2_with fail
  generalize w5.alloc (.cells #[.slice x1a bss.length x1c, .slice x2a oss.length x2c] 27) = V5 at *
  have hzV5' : w5.heap.size + 1 ≤ V5.heap.size := by omega
  clear hzV5
  refine (implMergeSt_any _ kq bss oss V5 (((unhide HF5).rd (Nat.le_refl _)).below hV5 (Nat.le_refl _)) (unhide HB) (unhide HBO) i1 i2 i3 i4 hq1 hq2).mono ?_
  rintro e w6 ⟨⟨vg, b', o', c', rfl, hig, hFG⟩, hb6⟩
  obtain ⟨rfl, rfl, rfl⟩ := (unhide HIS).uniq hig
  have hz6 := hb6.size
  have HFG := hide hFG
  obtain ⟨ga1, gc1, ga2, gc2, rfl⟩ := (hFG.rd (Nat.le_refl _)).val
  have hB56 : Below w5.heap.size w5 w6 := hV5.trans (hb6.mono (by omega))
  have hE6 : Below w2.heap.size w2 w6 := hE5.trans (hB56.mono (by omega))
  have hD6 : Below w4.heap.size w4 w6 := hD5.trans (hB56.mono (by omega))
  have BX6 := hide (BX.below hb6 (by omega))
  have BW6 := hide ((unhide BW5).below hB56 (by omega))
  have HF56 := hide ((unhide HF5).keep hB56 (Nat.le_refl _))
  clear hig hFG hb6 hV5 BX HF5 BW5 f0 f1
  have hV6 := below1 w6 (.cells #[.slice ga1 b.length gc1, .slice ga2 o.length gc2] 27)
  have BG := Row2.new w6 27 (.slice ga1 b.length gc1) (.slice ga2 o.length gc2)
  have hzV6 : (w6.alloc (.cells #[.slice ga1 b.length gc1, .slice ga2 o.length gc2] 27)).heap.size = w6.heap.size + 1 := sz_alloc _ _
  obtain ⟨g0, g1, -⟩ := BG.facts4
  obtain ⟨y0, y1, -⟩ := ((unhide BW6).alloc (.cells #[.slice ga1 b.length gc1, .slice ga2 o.length gc2] 27)).facts4
  go_wp2_with fail
  generalize w6.alloc (.cells #[.slice ga1 b.length gc1, .slice ga2 o.length gc2] 27) = V6 at *
  have hzV6' : w6.heap.size + 1 ≤ V6.heap.size := by omega
  clear hzV6
  have hE6' : Below w2.heap.size w2 V6 := hE6.trans (hV6.mono (by omega))
  have hD6' : Below w4.heap.size w4 V6 := hD6.trans (hV6.mono (by omega))
  refine (eqState_w _ _ b o V6 (((unhide HFG).rd (Nat.le_refl _)).below hV6 (Nat.le_refl _)) ((unhide RW).below hD6' (Nat.le_refl _))).mono ?_
  rintro e w7 ⟨rfl, hb7⟩
  have hz7 := hb7.size
  have hE7 : Below w2.heap.size w2 w7 := hE6'.trans (hb7.mono (by omega))
  have hD7 : Below w4.heap.size w4 w7 := hD6'.trans (hb7.mono (by omega))
  have h67 : Below w6.heap.size w6 w7 := hV6.trans (hb7.mono (by omega))
  have BX7 := hide ((unhide BX6).below h67 (by omega))
  have BW7 := hide ((unhide BW6).below h67 (by omega))
  have BG7 := hide (BG.below hb7 (by omega))
  have HF57 := hide ((unhide HF56).keep h67 (by omega))
  have HG7 := hide ((unhide HFG).keep h67 (Nat.le_refl _))
  clear hb7 hV6 h67 BX6 BW6 BG HF56 HFG g0 g1 y0 y1 hE6 hE6' hD6 hD6'
  have hS : Hid (∀ W' : World, Below w7.heap.size w7 W' → (W'.cell? ⟨w5.heap.size, 0, none⟩ = some (.slice x1a bss.length x1c) ∧ W'.cell? ⟨w5.heap.size, 1, none⟩ = some (.slice x2a oss.length x2c)) ∧ W'.cell? ⟨w.heap.size, 0, none⟩ = some (.slice a1 bss.length c1) ∧ W'.cell? ⟨w.heap.size, 1, none⟩ = some (.slice a2 oss.length c2)) := fun W' hW => by
    have h1 := ((unhide BX7).below hW (by omega)).facts4
    have h2 := (((unhide RA2).below hE7 (by omega)).below hW (by omega)).facts4
    exact ⟨⟨h1.1, h1.2.1⟩, h2.1, h2.2.1⟩
  obtain ⟨⟨f0, f1⟩, g0, g1⟩ := unhide hS w7 (Below.refl _ _)
  go_wp2_with fail
  go_region_held3 (fun W' => (W'.cell? ⟨w5.heap.size, 0, none⟩ = some (.slice x1a bss.length x1c) ∧ W'.cell? ⟨w5.heap.size, 1, none⟩ = some (.slice x2a oss.length x2c)) ∧ W'.cell? ⟨w.heap.size, 0, none⟩ = some (.slice a1 bss.length c1) ∧ W'.cell? ⟨w.heap.size, 1, none⟩ = some (.slice a2 oss.length c2))
    (first | (with_reducible exact unhide hS _ hB9) | (with_reducible exact unhide hS _ hB8) | go_keep)
    (first
      | (go_at_call 7; refine (toState_w _ bss oss _ (by exact (unhide HU).below ((hB2.trans (hE7.mono (by omega))).drew) (Nat.le_refl _)) i1 i2 i3 i4).mono ?_; rintro e w8 ⟨u8, rfl, hF8, hb8⟩; have hB8 : Below w7.heap.size w7 w8 := ⟨hb8.os, hb8.tape, hb8.output, hb8.size, hb8.block⟩; have S8 := hide (hF8.rd (Nat.le_refl _)); obtain ⟨s1a, s1c, s2a, s2c, rfl⟩ := (unhide S8).val; clear hF8 hb8)
      | (go_at_call 10; refine (eqState_w _ _ bss oss _ (by exact ((unhide HF57).rd (by omega)).below hB8 (Nat.le_refl _)) (by exact unhide S8)).mono ?_; rintro e w9 ⟨rfl, hb9⟩; have hB9 : Below w7.heap.size w7 w9 := hB8.trans (hb9.mono hB8.size); clear hb9))
  have hz9 := hB9.size
  have hE9 : Below w2.heap.size w2 w9 := hE7.trans (hB9.mono (by omega))
  have hD9 : Below w4.heap.size w4 w9 := hD7.trans (hB9.mono (by omega))
  have BX9 := hide ((unhide BX7).below hB9 (by omega))
  have BW9 := hide ((unhide BW7).below hB9 (by omega))
  have BG9 := hide ((unhide BG7).below hB9 (by omega))
  have HF59 := hide ((unhide HF57).keep hB9 (by omega))
  have HG9 := hide ((unhide HG7).keep hB9 (by omega))
  clear hB8 hB9 S8 hS BX7 BW7 BG7 HF57 HG7 f0 f1 g0 g1 hE7 hD7
  obtain ⟨f0, f1, -⟩ := (unhide BX9).facts4
  go_wp2_with fail
  refine (markState_w _ 1 bss oss V4.heap.size w5.heap.size w9 (unhide HF59) (by omega) (by omega) (by omega) (by omega) (by omega) (by omega)).mono ?_
  rintro e w10 ⟨rfl, -, hb10, hhi10⟩
  have hz10 := hb10.size
  have hE10 : Below w2.heap.size w2 w10 := hE9.trans (hb10.mono (by omega))
  have hD10 : Below w4.heap.size w4 w10 := hD9.trans (hb10.mono (by omega))
  have BW10 := hide ((unhide BW9).below hb10 (by omega))
  have BG10 := hide (World.rowIs.of_block (unhide BG9) (hhi10 _ (by omega) (by omega)))
  have HG10 := hide ((unhide HG9).same (w' := w10) (fun k k1 k2 => hhi10 k (by omega) (by omega)))
  have hk1 : ¬ (1 : Int) + (tot bss : Int) + (tot oss : Int) < 0 := by omega
  obtain ⟨y0, y1, -⟩ := Row2.facts4 (unhide BW10)
  obtain ⟨g0, g1, -⟩ := Row2.facts4 (unhide BG10)
  clear hb10 hhi10 BX9 BW9 BG9 HF59 HG9 f0 f1 hE9 hD9
  go_wp2_with fail
  refine (eqState_w _ _ b o w10 ((unhide HG10).rd (by omega)) ((unhide RW).below hD10 (Nat.le_refl _))).mono ?_
  rintro e w11 ⟨rfl, hb11⟩
  have hz11 := hb11.size
  have hE11 : Below w2.heap.size w2 w11 := hE10.trans (hb11.mono (by omega))
  have hD11 : Below w4.heap.size w4 w11 := hD10.trans (hb11.mono (by omega))
  have BW11 := hide (Row2.below (unhide BW10) hb11 (by omega))
  have BG11 := hide (Row2.below (unhide BG10) hb11 (by omega))
  have HG11 := hide ((unhide HG10).keep hb11 (by omega))
  clear y0 y1 g0 g1
  obtain ⟨g0, g1, -⟩ := Row2.facts4 (unhide BG11)
  clear hb11 BW10 BG10 HG10 hE10 hD10
  go_wp2_with fail
  refine (markState_w _ 1 b o V5.heap.size w6.heap.size w11 (unhide HG11) (by omega) (by omega) (by omega) (by omega) hsm.1 hsm.2).mono ?_
  rintro e w12 ⟨rfl, hmk, hb12, hhi12⟩
  have hz12 := hb12.size
  have hE12 : Below w2.heap.size w2 w12 := hE11.trans (hb12.mono (by omega))
  have hD12 : Below w4.heap.size w4 w12 := hD11.trans (hb12.mono (by omega))
  have BW12 := hide (Row2.below (unhide BW11) hb12 (by omega))
  have BG12 := hide (World.rowIs.of_block (unhide BG11) (hhi12 _ (by omega) (by omega)))
  have HMK := hide hmk
  clear g0 g1
  obtain ⟨g0, g1, -⟩ := Row2.facts4 (unhide BG12)
  clear hmk hb12 hhi12 BW11 BG11 HG11 hE11 hD11
  go_wp2_with fail
  refine (heldState_w _ 1 b o w12 (unhide HMK) (by omega) (by omega) hsm.1 hsm.2).mono ?_
  rintro e w13 ⟨rfl, hb13⟩
  have hz13 := hb13.size
  have hE13 : Below w2.heap.size w2 w13 := hE12.trans (hb13.mono (by omega))
  have hD13 : Below w4.heap.size w4 w13 := hD12.trans (hb13.mono (by omega))
  have BW13 := hide (Row2.below (unhide BW12) hb13 (by omega))
  have hk2 : ¬ (1 : Int) + (tot b : Int) + (tot o : Int) < 0 := by omega
  obtain ⟨f0, f1, -⟩ := ((unhide RA2).below hE13 (by omega)).facts4
  clear hb13 BW12 BG12 HMK hE12 hD12 g0 g1
  go_wp2_with fail
  refine (toState_w _ bss oss w13 ((unhide HU).below (hB2.trans (hE13.mono (by omega))) (Nat.le_refl _)) i1 i2 i3 i4).mono ?_
  rintro e w14 ⟨u14, rfl, hF14, hb14⟩
  have hz14 := hb14.size
  have S14 := hide (hF14.rd (Nat.le_refl _))
  obtain ⟨s1a, s1c, s2a, s2c, rfl⟩ := (unhide S14).val
  clear hF14 f0 f1
  go_wp2_with fail
  refine (implMergeSt_any _ kq bss oss w14 (unhide S14) (unhide HB) (unhide HBO) i1 i2 i3 i4 hq1 hq2).mono ?_
  rintro e w15 ⟨⟨vh, bh, oh, ch, rfl, hih, hFH⟩, hb15⟩
  obtain ⟨rfl, rfl, rfl⟩ := (unhide HIS).uniq hih
  have hz15 := hb15.size
  have hB1315 : Below w13.heap.size w13 w15 := hb14.trans (hb15.mono (by omega))
  have hD15 : Below w4.heap.size w4 w15 := hD13.trans (hB1315.mono (by omega))
  have hE15 : Below w2.heap.size w2 w15 := hE13.trans (hB1315.mono (by omega))
  have RH := hide (hFH.rd (Nat.le_refl _))
  have BW15 := hide (Row2.below (unhide BW13) hB1315 (by omega))
  obtain ⟨h1a, h1c, h2a, h2c, rfl⟩ := (unhide RH).val
  obtain ⟨y0, y1, -⟩ := (Row2.alloc (unhide BW15) (.cells #[.slice h1a b.length h1c, .slice h2a o.length h2c] 27)).facts4
  have hV15 := below1 w15 (.cells #[.slice h1a b.length h1c, .slice h2a o.length h2c] 27)
  clear hFH hih hb14 hb15 S14
  go_wp2_with fail
  refine (eqState_w _ _ b o _ ((unhide RH).below hV15 (Nat.le_refl _)) ((unhide RW).below (hD15.trans (hV15.mono (by omega))) (Nat.le_refl _))).mono ?_
  rintro e w16 ⟨rfl, hb16⟩
  have hBf : Below w.heap.size w w16 := hB2.trans ((hE15.trans ((hV15.trans (hb16.mono (by rw [sz_alloc]; omega))).mono (by omega))).mono (by omega))
  clear hb16 hV15 y0 y1
  go_wp2
  go_ret
  exact ⟨rfl, hBf⟩

end Go.Proofs.YtbgjgaejfkdceaaGreat
