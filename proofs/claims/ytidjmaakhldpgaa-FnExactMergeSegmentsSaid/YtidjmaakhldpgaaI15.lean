import Derived.Test.YtidjmaakhldpgaaI14
import Derived.Test.YtidjmaakhldpgaaU0
import Derived.Deep.RegionWith
import Derived.Deep.RegionHeld3
namespace Go.Proofs.Ytidjmaakhldpgaa
open Go.RowKit

/-- What both sides answer, as data. -/
def SegIs (base : Int) (xss : List (List Int)) (b : Int) (xs : List (List Int)) (ks : List Int) (pss : List (List Int)) (c : Int) : Prop :=
  (Fits base xss ∧ b = base ∧ xs = xss ∧ SegR base xss ks pss ∧ c = 0) ∨ (¬ Fits base xss ∧ b = 0 ∧ xs = [] ∧ ks = [] ∧ pss = [] ∧ c = 4)
theorem SegIs.uniq {base b b' c c' : Int} {xss xs xs' pss pss' : List (List Int)} {ks ks' : List Int} (h : SegIs base xss b xs ks pss c) (h' : SegIs base xss b' xs' ks' pss' c') : b = b' ∧ xs = xs' ∧ ks = ks' ∧ pss = pss' ∧ c = c' := by
  rcases h with ⟨hf, rfl, rfl, hs, rfl⟩ | ⟨hf, rfl, rfl, rfl, rfl, rfl⟩
  · rcases h' with ⟨_, rfl, rfl, hs', rfl⟩ | ⟨hf', _⟩
    · exact ⟨rfl, rfl, (hs.uniq hs').1, (hs.uniq hs').2, rfl⟩
    · exact absurd hf hf'
  · rcases h' with ⟨hf', _⟩ | ⟨_, rfl, rfl, rfl, rfl, rfl⟩
    · exact absurd hf' hf
    · exact ⟨rfl, rfl, rfl, rfl, rfl⟩
theorem BuildRet.is {e : Ending} {w w' : World} {base : Int} {xss : List (List Int)} (h : BuildRet e w w' base xss) : ∃ v b xs ks pss c, e = .returned (.tuple #[v, .int .i64 c]) ∧ SegIs base xss b xs ks pss c ∧ SegRd w' v b xs ks pss := by
  rcases h with ⟨hf, v, ks, pss, e1, hs, ha⟩ | ⟨hf, e1⟩
  · exact ⟨v, base, xss, ks, pss, 0, e1, Or.inl ⟨hf, rfl, rfl, hs, rfl⟩, ha.rd⟩
  · exact ⟨_, 0, [], [], [], 4, e1, Or.inr ⟨hf, rfl, rfl, rfl, rfl, rfl⟩, SegRd.zero w'⟩
theorem BuildGot.is {e : Ending} {w w' : World} {base : Int} {xss : List (List Int)} (hT : tot xss ≤ 1048576) (h : BuildGot e w w' base xss) : ∃ v b xs ks pss c, e = .returned (.tuple #[v, .int .i64 c]) ∧ SegIs base xss b xs ks pss c ∧ (tot xs ≤ 1048576 ∧ ks.length ≤ 1048576 ∧ tot pss ≤ 1048576) ∧ SegF w.heap.size w'.heap.size w' v b xs ks pss := by
  rcases h with ⟨hf, v, ks, pss, e1, hs, hc, ha⟩ | ⟨hf, e1⟩
  · exact ⟨v, base, xss, ks, pss, 0, e1, Or.inl ⟨hf, rfl, rfl, hs, rfl⟩, ⟨hT, hc.1, hc.2⟩, ha⟩
  · exact ⟨_, 0, [], [], [], 4, e1, Or.inr ⟨hf, rfl, rfl, rfl, rfl, rfl⟩, ⟨by simp [tot], by simp, by simp [tot]⟩, SegF.zero _ _ _⟩
theorem SegRd.val {w : World} {v : Value} {base : Int} {xss pss : List (List Int)} {ks : List Int} (h : SegRd w v base xss ks pss) : ∃ a1 c1 a2 c2 a3 c3, v = .agg #[.int .i64 base, .slice a1 xss.length c1, .slice a2 ks.length c2, .slice a3 pss.length c3] := by
  obtain ⟨lv, kv, pv, rfl, ⟨a1, c1, rfl, -⟩, ⟨a2, c2, rfl, -⟩, ⟨a3, c3, rfl, -⟩⟩ := h
  exact ⟨a1, c1, a2, c2, a3, c3, rfl⟩

set_option maxHeartbeats 8000000 in
set_option maxRecDepth 100000 in
theorem lawBuild_any (base : Int) (u : Value) (xss : List (List Int)) (w : World) (hu : SsAt mB 0 w.heap.size w u xss) (hbb : ∀ x ∈ xss, Bytes x) (hb0 : -9223372036854775808 ≤ base) (hb1 : base ≤ 9223372036854775807) :
    Calls Try.prog 4 #[.int .i64 base, u] w fun e w' => e = .returned (.bool true) ∧ Below w.heap.size w w' := by
  have Hu := hide hu
  have HB := hide hbb
  obtain ⟨a, cap, rfl, -, -⟩ := hu
  clear hbb
  go_enter Try.func4, Try.ntmps4
  go_wp2_with fail
  refine (szByteSS_w _ xss 1048576 _ (unhide Hu) (by omega) (by omega)).mono ?_
  rintro e w1 ⟨⟨r, rfl, hr⟩, hw1⟩
  subst hw1
  by_cases hn : r < 0
  · go_wp2
    go_ret
    exact ⟨rfl, Below.refl _ _⟩
  · have hT : tot xss ≤ 1048576 := by omega
    have hL : xss.length ≤ 1048576 := by omega
    clear hr
    go_wp2_with fail
    refine (toByteSS_w _ xss _ (unhide Hu) hL hT).mono ?_
    rintro e w2 ⟨u2, rfl, hs2, hb2⟩
    have hz2 := hb2.size
    have S2 := hide (hs2.all (Nat.le_refl _))
    obtain ⟨p2, q2, rfl, -⟩ := hs2
    go_wp2_with fail
    refine (specBuild_any base _ xss _ (unhide S2) (unhide HB) hT hL hb0 hb1).mono ?_
    rintro e w3 ⟨hret, hb3⟩
    obtain ⟨vw, b, xs, ks, pss, c, rfl, his, hrd⟩ := hret.is
    have hz3 := hb3.size
    have HI := hide his
    have RW := hide hrd
    have hB3 : Below w1.heap.size w1 w3 := hb2.trans (hb3.mono hz2)
    obtain ⟨a1, c1, a2, c2, a3, c3, rfl⟩ := hrd.val
    clear hret his hrd hb2 hb3 S2
    go_wp2_with fail
    have hV3 := below1 w3 (.cells #[.int .i64 b, .slice a1 xs.length c1, .slice a2 ks.length c2, .slice a3 pss.length c3] 34)
    have BW := Row4.new w3 34 (.int .i64 b) (.slice a1 xs.length c1) (.slice a2 ks.length c2) (.slice a3 pss.length c3)
    have hzV : (w3.alloc (.cells #[.int .i64 b, .slice a1 xs.length c1, .slice a2 ks.length c2, .slice a3 pss.length c3] 34)).heap.size = w3.heap.size + 1 := sz_alloc _ _
    generalize w3.alloc (.cells #[.int .i64 b, .slice a1 xs.length c1, .slice a2 ks.length c2, .slice a3 pss.length c3] 34) = V3 at *
    have hzV3 : w3.heap.size + 1 ≤ V3.heap.size := by omega
    have HzV3 := hide hzV
    clear hzV
    refine (toByteSS_w _ xss _ ((unhide Hu).below (hB3.trans (hV3.mono (by omega))) (Nat.le_refl _)) hL hT).mono ?_
    rintro e w4 ⟨u4, rfl, hs4, hb4⟩
    have hz4 := hb4.size
    have S4 := hide hs4
    obtain ⟨p4, q4, rfl, -⟩ := hs4
    have BW4 := hide (BW.below hb4 (by omega))
    have hB4 : Below w3.heap.size w3 w4 := hV3.trans (hb4.mono (by omega))
    clear BW hV3 hb4
    go_wp2_with fail
    refine (implBuild_any base _ xss _ ((unhide S4).all (Nat.le_refl _)) (unhide HB) hT hL hb0 hb1).mono ?_
    rintro e w5 ⟨hret, hb5⟩
    obtain ⟨vg, b', xs', ks', pss', c', rfl, his, hbd, hF⟩ := hret.is hT
    obtain ⟨rfl, rfl, rfl, rfl, rfl⟩ := (unhide HI).uniq his
    obtain ⟨hd1, hd2, hd3⟩ := hbd
    have hz5 := hb5.size
    have HF := hide hF
    have BW5 := hide ((unhide BW4).below hb5 (by omega))
    have S45 := hide ((unhide S4).keep hb5 (Nat.le_refl _))
    have hB35 : Below w3.heap.size w3 w5 := hB4.trans (hb5.mono (by omega))
    obtain ⟨g1, e1, g2, e2, g3, e3, rfl⟩ := (hF.rd (Nat.le_refl _)).val
    clear hret his hF hb5 BW4 S4 hB4
    obtain ⟨y0, y1, y2, y3, -⟩ := ((unhide BW5).alloc (.cells #[.int .i64 b, .slice g1 xs.length e1, .slice g2 ks.length e2, .slice g3 pss.length e3] 34)).facts
    go_wp2_with fail
    have hV5 := below1 w5 (.cells #[.int .i64 b, .slice g1 xs.length e1, .slice g2 ks.length e2, .slice g3 pss.length e3] 34)
    have BG := Row4.new w5 34 (.int .i64 b) (.slice g1 xs.length e1) (.slice g2 ks.length e2) (.slice g3 pss.length e3)
    have hzV : (w5.alloc (.cells #[.int .i64 b, .slice g1 xs.length e1, .slice g2 ks.length e2, .slice g3 pss.length e3] 34)).heap.size = w5.heap.size + 1 := sz_alloc _ _
    generalize w5.alloc (.cells #[.int .i64 b, .slice g1 xs.length e1, .slice g2 ks.length e2, .slice g3 pss.length e3] 34) = V5 at *
    have hzV5 : w5.heap.size + 1 ≤ V5.heap.size := by omega
    have HzV5 := hide hzV
    clear hzV y0 y1 y2 y3
    refine (eqSegment_w _ _ b xs pss ks _ (((unhide HF).rd (Nat.le_refl _)).below hV5 (Nat.le_refl _)) ((unhide RW).below (hB35.trans (hV5.mono (by omega))) (Nat.le_refl _))).mono ?_
    rintro e w6 ⟨rfl, hb6⟩
    have hz6 := hb6.size
    have hB6 : Below w5.heap.size w5 w6 := hV5.trans (hb6.mono (by omega))
    have BG6 := hide (BG.below hb6 (by omega))
    have BW6 := hide ((unhide BW5).below hB6 (by omega))
    have S46 := hide ((unhide S45).keep hB6 (by omega))
    have HF6 := hide ((unhide HF).keep hB6 (Nat.le_refl _))
    have hB36 : Below w3.heap.size w3 w6 := hB35.trans (hB6.mono (by omega))
    clear hb6 hV5 BG BW5 S45 HF hB35 hB6
    go_wp2_with fail
    refine (toByteSS_w _ xss _ ((unhide Hu).below (hB3.trans (hB36.mono (by omega))) (Nat.le_refl _)) hL hT).mono ?_
    rintro e w7 ⟨u7, rfl, hs7, hb7⟩
    have hz7 := hb7.size
    have S7 := hide (hs7.all (Nat.le_refl _))
    obtain ⟨p7, q7, rfl, -⟩ := hs7
    have S47 := hide ((unhide S46).keep hb7 (by omega))
    go_wp2_with fail
    refine (eqByteSS_w _ _ xss _ ((unhide S47).all (by omega)) (unhide S7)).mono ?_
    rintro e w8 ⟨rfl, hb8⟩
    have hz8 := hb8.size
    have hB8 : Below w6.heap.size w6 w8 := hb7.trans (hb8.mono (by omega))
    have S48 := hide ((unhide S47).keep hb8 (by omega))
    have BG8 := hide ((unhide BG6).below hB8 (by omega))
    have BW8 := hide ((unhide BW6).below hB8 (by omega))
    have HF8 := hide ((unhide HF6).keep hB8 (by omega))
    have hB38 : Below w3.heap.size w3 w8 := hB36.trans (hB8.mono (by omega))
    clear hb7 hb8 hB8 S7 S47 S46 BG6 BW6 HF6 hB36
    go_wp2_with fail
    refine (markByteSS_w _ xss 1 (Rng V3.heap.size w4.heap.size) _ (unhide S48) (by omega) (by omega) (by omega)).mono ?_
    rintro e w9 ⟨rfl, -, hc9⟩
    have hz9 := hc9.size
    have hB39 : Below w3.heap.size w3 w9 := hB38.trans (hc9.below (fun k hk => by unfold Rng at hk; omega))
    have BG9 := hide (World.rowIs.of_block (unhide BG8) (hc9.block _ (fun h => by unfold Rng at h; omega)))
    have BW9 := hide (World.rowIs.of_block (unhide BW8) (hc9.block _ (fun h => by unfold Rng at h; omega)))
    have HF9 := hide ((unhide HF8).same (w' := w9) (fun k k1 k2 => hc9.block k (fun h => by unfold Rng at h; omega)))
    have hk1 : ¬ (1 : Int) + (tot xss : Int) < 0 := by omega
    obtain ⟨y0, y1, y2, y3, -⟩ := Row4.facts (unhide BW9)
    obtain ⟨z0, z1, z2, z3, -⟩ := Row4.facts (unhide BG9)
    clear hc9 BG8 BW8 HF8 hB38 S48
    go_wp2_with fail
    refine (eqSegment_w _ _ b xs pss ks _ ((unhide HF9).rd (by omega)) ((unhide RW).below hB39 (Nat.le_refl _))).mono ?_
    rintro e w10 ⟨rfl, hb10⟩
    have hz10 := hb10.size
    have hB310 : Below w3.heap.size w3 w10 := hB39.trans (hb10.mono (by omega))
    have BG10 := hide (Row4.below (unhide BG9) hb10 (by omega))
    have BW10 := hide (Row4.below (unhide BW9) hb10 (by omega))
    have HF10 := hide ((unhide HF9).keep hb10 (by omega))
    clear y0 y1 y2 y3 z0 z1 z2 z3
    obtain ⟨z0, z1, z2, z3, -⟩ := Row4.facts (unhide BG10)
    clear hb10 BG9 BW9 HF9 hB39
    go_wp2_with fail
    refine (markSegment_w _ b 1 xs pss ks w4.heap.size w5.heap.size _ (unhide HF10) (by omega) (by omega) (by omega) (by omega) hd1 hd2 hd3).mono ?_
    rintro e w11 ⟨rfl, hmk11, hb11, hhi11⟩
    have hz11 := hb11.size
    have hB311 : Below w3.heap.size w3 w11 := hB310.trans (hb11.mono (by omega))
    have BW11 := hide (Row4.below (unhide BW10) hb11 (by omega))
    have BG11 := hide (World.rowIs.of_block (unhide BG10) (hhi11 _ (by omega) (Nat.le_refl _)))
    have HM11 := hide hmk11
    clear z0 z1 z2 z3
    obtain ⟨z0, z1, z2, z3, -⟩ := Row4.facts (unhide BG11)
    have hN : 0 ≤ segN xs ks pss := by unfold segN; omega
    clear hmk11 hb11 hhi11 BG10 BW10 HF10 hB310
    go_wp2_with fail
    refine (heldSegment_w _ b 1 xs pss ks _ (unhide HM11) (by omega) (by omega) hd1 hd2 hd3).mono ?_
    rintro e w12 ⟨rfl, hb12⟩
    have hz12 := hb12.size
    have hB312 : Below w3.heap.size w3 w12 := hB311.trans (hb12.mono (by omega))
    have BW12 := hide (Row4.below (unhide BW11) hb12 (by omega))
    have hk2 : ¬ (1 : Int) + segN xs ks pss < 0 := by omega
    clear hb12 BW11 BG11 HM11 hB311 z0 z1 z2 z3
    go_wp2_with fail
    refine (toByteSS_w _ xss _ ((unhide Hu).below (hB3.trans (hB312.mono (by omega))) (Nat.le_refl _)) hL hT).mono ?_
    rintro e w13 ⟨u13, rfl, hs13, hb13⟩
    have hz13 := hb13.size
    have S13 := hide (hs13.all (Nat.le_refl _))
    obtain ⟨p13, q13, rfl, -⟩ := hs13
    have BW13 := hide (Row4.below (unhide BW12) hb13 (by omega))
    have hB313 : Below w3.heap.size w3 w13 := hB312.trans (hb13.mono (by omega))
    clear hb13 BW12 hB312
    go_wp2_with fail
    refine (implBuild_any base _ xss _ (unhide S13) (unhide HB) hT hL hb0 hb1).mono ?_
    rintro e w14 ⟨hret, hb14⟩
    obtain ⟨vh, b', xs', ks', pss', c', rfl, his, -, hF⟩ := hret.is hT
    obtain ⟨rfl, rfl, rfl, rfl, rfl⟩ := (unhide HI).uniq his
    have hz14 := hb14.size
    have HR14 := hide (hF.rd (Nat.le_refl _))
    have BW14 := hide (Row4.below (unhide BW13) hb14 (by omega))
    have hB314 : Below w3.heap.size w3 w14 := hB313.trans (hb14.mono (by omega))
    obtain ⟨h1, k1, h2, k2, h3, k3, rfl⟩ := (unhide HR14).val
    obtain ⟨y0, y1, y2, y3, -⟩ := (Row4.alloc (unhide BW14) (.cells #[.int .i64 b, .slice h1 xs.length k1, .slice h2 ks.length k2, .slice h3 pss.length k3] 34)).facts
    clear hret his hF hb14 BW13 hB313 S13
    go_wp2_with fail
    have hV14 := below1 w14 (.cells #[.int .i64 b, .slice h1 xs.length k1, .slice h2 ks.length k2, .slice h3 pss.length k3] 34)
    refine (eqSegment_w _ _ b xs pss ks _ ((unhide HR14).below hV14 (Nat.le_refl _)) ((unhide RW).below (hB314.trans (hV14.mono (by omega))) (Nat.le_refl _))).mono ?_
    rintro e w15 ⟨rfl, hb15⟩
    have hBf : Below w1.heap.size w1 w15 := hB3.trans ((hB314.trans ((hV14.trans (hb15.mono (by rw [sz_alloc]; omega))).mono (by omega))).mono (by omega))
    clear hb15 hV14 y0 y1 y2 y3
    go_wp2
    go_ret
    exact ⟨rfl, hBf⟩

end Go.Proofs.Ytidjmaakhldpgaa
