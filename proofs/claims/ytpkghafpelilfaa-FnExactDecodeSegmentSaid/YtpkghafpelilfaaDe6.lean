import Derived.Test.YtpkghafpelilfaaDe5
import Derived.Test.YtpkghafpelilfaaI15
namespace Go.Proofs.Ytpkghafpelilfaa
open Go.RowKit

set_option maxHeartbeats 8000000 in
set_option maxRecDepth 100000 in
theorem lawDecode_any (u : Value) (bs : List Int) (w : World) (hu : SlAt mB 0 0 w.heap.size w u bs) (hbb : Bytes bs) :
    Calls Try.prog 4 #[u] w fun e w' => e = .returned (.bool true) ∧ Below w.heap.size w w' := by
  have Hu := hide hu
  have HB := hide hbb
  obtain ⟨a, cap, rfl, -, -⟩ := hu
  clear hbb
  by_cases hlen : 1048576 < bs.length
  · have hlen' : (1048576 : Int) < (bs.length : Int) := by omega
    go_enter Try.func4, Try.ntmps4
    go_wp2
    go_ret
    exact ⟨rfl, Below.refl _ _⟩
  · have hlen' : ¬ (1048576 : Int) < (bs.length : Int) := by omega
    have hL : bs.length ≤ 1048576 := by omega
    go_enter Try.func4, Try.ntmps4
    go_wp2_with fail
    refine (toByteS_wc _ bs _ (unhide Hu) hL).mono ?_
    rintro e w2 ⟨u2, rfl, hs2, hcp2, hb2⟩
    have hz2 := hb2.size
    have S2 := hide (hs2.all (Nat.le_refl _))
    have C2 := hide hcp2
    obtain ⟨p2, q2, rfl, -⟩ := hs2
    clear hcp2
    go_wp2_with fail
    refine (specDecode_any _ bs w2 (unhide S2) (unhide C2) (unhide HB) hL).mono ?_
    rintro e w3 ⟨⟨vw, b, xs, ks, pss, c, rfl, his, hsat⟩, hb3⟩
    have hrd := hsat.rd
    clear hsat
    have hz3 := hb3.size
    have HI := hide his
    have RW := hide hrd
    have hB3 : Below w.heap.size w w3 := hb2.trans (hb3.mono hz2)
    obtain ⟨a1, c1, a2, c2, a3, c3, rfl⟩ := hrd.val
    clear his hrd hb2 hb3 S2 C2
    go_wp2_with fail
    have hV3 := below1 w3 (.cells #[.int .i64 b, .slice a1 xs.length c1, .slice a2 ks.length c2, .slice a3 pss.length c3] 30)
    have BW := Row4.new w3 30 (.int .i64 b) (.slice a1 xs.length c1) (.slice a2 ks.length c2) (.slice a3 pss.length c3)
    have hzV : (w3.alloc (.cells #[.int .i64 b, .slice a1 xs.length c1, .slice a2 ks.length c2, .slice a3 pss.length c3] 30)).heap.size = w3.heap.size + 1 := sz_alloc _ _
    generalize w3.alloc (.cells #[.int .i64 b, .slice a1 xs.length c1, .slice a2 ks.length c2, .slice a3 pss.length c3] 30) = V3 at *
    have hzV3 : w3.heap.size + 1 ≤ V3.heap.size := by omega
    have HzV3 := hide hzV
    clear hzV
    refine (toByteS_wc _ bs _ ((unhide Hu).below (hB3.trans (hV3.mono (by omega))) (Nat.le_refl _)) hL).mono ?_
    rintro e w4 ⟨u4, rfl, hs4, hcp4, hb4⟩
    have hz4 := hb4.size
    have S4 := hide hs4
    have C4 := hide hcp4
    obtain ⟨p4, q4, rfl, -⟩ := hs4
    have BW4 := hide (BW.below hb4 (by omega))
    have hB4 : Below w3.heap.size w3 w4 := hV3.trans (hb4.mono (by omega))
    clear BW hV3 hb4 hcp4
    go_wp2_with fail
    refine (implDecode_any _ bs w4 ((unhide S4).all (Nat.le_refl _)) (unhide C4) (unhide HB) hL).mono ?_
    rintro e w5 ⟨⟨vg, b', xs', ks', pss', c', rfl, his, hbd, hF⟩, hb5⟩
    obtain ⟨rfl, rfl, rfl, rfl, rfl⟩ := (unhide HI).uniq his
    obtain ⟨hd1, hd2, hd3⟩ := hbd
    have hz5 := hb5.size
    have HF := hide hF
    have BW5 := hide ((unhide BW4).below hb5 (by omega))
    have S45 := hide ((unhide S4).keep hb5 (Nat.le_refl _))
    have hB35 : Below w3.heap.size w3 w5 := hB4.trans (hb5.mono (by omega))
    obtain ⟨g1, e1, g2, e2, g3, e3, rfl⟩ := (hF.rd (Nat.le_refl _)).val
    clear his hF hb5 BW4 S4 hB4
    obtain ⟨y0, y1, y2, y3, -⟩ := ((unhide BW5).alloc (.cells #[.int .i64 b, .slice g1 xs.length e1, .slice g2 ks.length e2, .slice g3 pss.length e3] 30)).facts
    go_wp2_with fail
    have hV5 := below1 w5 (.cells #[.int .i64 b, .slice g1 xs.length e1, .slice g2 ks.length e2, .slice g3 pss.length e3] 30)
    have BG := Row4.new w5 30 (.int .i64 b) (.slice g1 xs.length e1) (.slice g2 ks.length e2) (.slice g3 pss.length e3)
    have hzV : (w5.alloc (.cells #[.int .i64 b, .slice g1 xs.length e1, .slice g2 ks.length e2, .slice g3 pss.length e3] 30)).heap.size = w5.heap.size + 1 := sz_alloc _ _
    generalize w5.alloc (.cells #[.int .i64 b, .slice g1 xs.length e1, .slice g2 ks.length e2, .slice g3 pss.length e3] 30) = V5 at *
    have hzV5 : w5.heap.size + 1 ≤ V5.heap.size := by omega
    have HzV5 := hide hzV
    clear hzV y0 y1 y2 y3
    refine (eqSegment_w _ _ b xs pss ks _ (((unhide HF).rd (Nat.le_refl _)).below hV5 (Nat.le_refl _)) ((unhide RW).below (hB35.trans (hV5.mono (by omega))) (Nat.le_refl _))).mono ?_
    rintro e w6 ⟨rfl, hb6⟩
    have hz6 := hb6.size
    have hB6 : Below w5.heap.size w5 w6 := hV5.trans (hb6.mono (by omega))
    have BG6 := hide (BG.below hb6 (by omega))
    have BW6 := hide ((unhide BW5).below hB6 (by omega))
    have S46 := hide ((unhide S45).keep hB6 (by omega))
    have HF6 := hide ((unhide HF).keep hB6 (Nat.le_refl _))
    have hB36 : Below w3.heap.size w3 w6 := hB35.trans (hB6.mono (by omega))
    clear hb6 hV5 BG BW5 S45 HF hB35 hB6
    go_wp2_with fail
    refine (toByteS_wc _ bs _ ((unhide Hu).below (hB3.trans (hB36.mono (by omega))) (Nat.le_refl _)) hL).mono ?_
    rintro e w7 ⟨u7, rfl, hs7, -, hb7⟩
    have hz7 := hb7.size
    have S7 := hide (hs7.all (Nat.le_refl _))
    obtain ⟨p7, q7, rfl, -⟩ := hs7
    have S47 := hide ((unhide S46).keep hb7 (by omega))
    go_wp2_with fail
    refine (eqByteS_w _ _ bs _ ((unhide S47).all (by omega)) (unhide S7)).mono ?_
    rintro e w8 ⟨rfl, n8, hw8⟩
    have hb8 : Below w7.heap.size w7 w8 := by rw [hw8]; exact drewB n8
    have hz8 := hb8.size
    have hB8 : Below w6.heap.size w6 w8 := hb7.trans (hb8.mono (by omega))
    have S48 := hide ((unhide S47).keep hb8 (by omega))
    have BG8 := hide ((unhide BG6).below hB8 (by omega))
    have BW8 := hide ((unhide BW6).below hB8 (by omega))
    have HF8 := hide ((unhide HF6).keep hB8 (by omega))
    have hB38 : Below w3.heap.size w3 w8 := hB36.trans (hB8.mono (by omega))
    clear hb7 hb8 hB8 S7 S47 S46 BG6 BW6 HF6 hB36 hw8
    go_wp2_with fail
    refine (markByteS_any _ bs 1 V3.heap.size w4.heap.size w8 (unhide S48) (by omega) (by omega) (by omega)).mono ?_
    rintro e w9 ⟨rfl, -, hc9⟩
    have hz9 := hc9.size
    have hB39 : Below w3.heap.size w3 w9 := hB38.trans (hc9.below.mono (by omega))
    have BG9 := hide (World.rowIs.of_block (unhide BG8) (hc9.block _ (by omega)))
    have BW9 := hide (World.rowIs.of_block (unhide BW8) (hc9.block _ (by omega)))
    have HF9 := hide ((unhide HF8).same (w' := w9) (fun k k1 k2 => hc9.block k (by omega)))
    have hk1 : ¬ (1 : Int) + (bs.length : Int) < 0 := by omega
    obtain ⟨y0, y1, y2, y3, -⟩ := Row4.facts (unhide BW9)
    obtain ⟨z0, z1, z2, z3, -⟩ := Row4.facts (unhide BG9)
    have hz9' : w8.heap.size ≤ w9.heap.size := by omega
    clear hc9 hz9 BG8 BW8 HF8 hB38 S48
    go_wp2_with fail
    refine (eqSegment_w _ _ b xs pss ks _ ((unhide HF9).rd (by omega)) ((unhide RW).below hB39 (Nat.le_refl _))).mono ?_
    rintro e w10 ⟨rfl, hb10⟩
    have hz10 := hb10.size
    have hB310 : Below w3.heap.size w3 w10 := hB39.trans (hb10.mono (by omega))
    have BG10 := hide (Row4.below (unhide BG9) hb10 (by omega))
    have BW10 := hide (Row4.below (unhide BW9) hb10 (by omega))
    have HF10 := hide ((unhide HF9).keep hb10 (by omega))
    clear y0 y1 y2 y3 z0 z1 z2 z3
    obtain ⟨z0, z1, z2, z3, -⟩ := Row4.facts (unhide BG10)
    clear hb10 BG9 BW9 HF9 hB39
    go_wp2_with fail
    refine (markSegment_w _ b 1 xs pss ks w4.heap.size w5.heap.size _ (unhide HF10) (by omega) (by omega) (by omega) (by omega) hd1 hd2 hd3).mono ?_
    rintro e w11 ⟨rfl, hmk11, hb11, hhi11⟩
    have hz11 := hb11.size
    have hB311 : Below w3.heap.size w3 w11 := hB310.trans (hb11.mono (by omega))
    have BW11 := hide (Row4.below (unhide BW10) hb11 (by omega))
    have BG11 := hide (World.rowIs.of_block (unhide BG10) (hhi11 _ (by omega) (Nat.le_refl _)))
    have HM11 := hide hmk11
    clear z0 z1 z2 z3
    obtain ⟨z0, z1, z2, z3, -⟩ := Row4.facts (unhide BG11)
    have hN : 0 ≤ segN xs ks pss := by unfold segN; omega
    clear hmk11 hb11 hhi11 BG10 BW10 HF10 hB310
    go_wp2_with fail
    refine (heldSegment_w _ b 1 xs pss ks _ (unhide HM11) (by omega) (by omega) hd1 hd2 hd3).mono ?_
    rintro e w12 ⟨rfl, hb12⟩
    have hz12 := hb12.size
    have hB312 : Below w3.heap.size w3 w12 := hB311.trans (hb12.mono (by omega))
    have BW12 := hide (Row4.below (unhide BW11) hb12 (by omega))
    have hk2 : ¬ (1 : Int) + segN xs ks pss < 0 := by omega
    clear hb12 BW11 BG11 HM11 hB311 z0 z1 z2 z3
    go_wp2_with fail
    refine (toByteS_wc _ bs _ ((unhide Hu).below (hB3.trans (hB312.mono (by omega))) (Nat.le_refl _)) hL).mono ?_
    rintro e w13 ⟨u13, rfl, hs13, hcp13, hb13⟩
    have hz13 := hb13.size
    have S13 := hide (hs13.all (Nat.le_refl _))
    have C13 := hide hcp13
    obtain ⟨p13, q13, rfl, -⟩ := hs13
    have BW13 := hide (Row4.below (unhide BW12) hb13 (by omega))
    have hB313 : Below w3.heap.size w3 w13 := hB312.trans (hb13.mono (by omega))
    clear hb13 BW12 hB312 hcp13
    go_wp2_with fail
    refine (implDecode_any _ bs w13 (unhide S13) (unhide C13) (unhide HB) hL).mono ?_
    rintro e w14 ⟨⟨vh, b', xs', ks', pss', c', rfl, his, -, hF⟩, hb14⟩
    obtain ⟨rfl, rfl, rfl, rfl, rfl⟩ := (unhide HI).uniq his
    have hz14 := hb14.size
    have HR14 := hide (hF.rd (Nat.le_refl _))
    have BW14 := hide (Row4.below (unhide BW13) hb14 (by omega))
    have hB314 : Below w3.heap.size w3 w14 := hB313.trans (hb14.mono (by omega))
    obtain ⟨h1, k1, h2, k2, h3, k3, rfl⟩ := (unhide HR14).val
    obtain ⟨y0, y1, y2, y3, -⟩ := (Row4.alloc (unhide BW14) (.cells #[.int .i64 b, .slice h1 xs.length k1, .slice h2 ks.length k2, .slice h3 pss.length k3] 30)).facts
    clear his hF hb14 BW13 hB313 S13
    go_wp2_with fail
    have hV14 := below1 w14 (.cells #[.int .i64 b, .slice h1 xs.length k1, .slice h2 ks.length k2, .slice h3 pss.length k3] 30)
    refine (eqSegment_w _ _ b xs pss ks _ ((unhide HR14).below hV14 (Nat.le_refl _)) ((unhide RW).below (hB314.trans (hV14.mono (by omega))) (Nat.le_refl _))).mono ?_
    rintro e w15 ⟨rfl, hb15⟩
    have hBf : Below w.heap.size w w15 := hB3.trans ((hB314.trans ((hV14.trans (hb15.mono (by rw [sz_alloc]; omega))).mono (by omega))).mono (by omega))
    clear hb15 hV14 y0 y1 y2 y3
    go_wp2
    go_ret
    exact ⟨rfl, hBf⟩

end Go.Proofs.Ytpkghafpelilfaa
