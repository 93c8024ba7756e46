import Derived.Test.YtfgngdfhejeolaaQ4
import Derived.Deep.RegionWith
import Derived.Deep.RegionHeld3
namespace Go.Proofs.Ytfgngdfhejeolaa
open Go.RowKit

theorem Boxed.below {w w' : World} {B m : Nat} {t : TypeId} {v : Value} (h : Boxed w B t v) (hb : Below m w w') (hm : B < m) : Boxed w' B t v := (hb.block B hm).trans h

set_option maxHeartbeats 4000000 in
set_option maxRecDepth 100000 in
theorem lawEval_any (u v : Value) (xss : List (List Int)) (ts : List Int) (w : World) (hu : SsAt mI 0 w.heap.size w u xss) (hv : SlAt mI 0 0 w.heap.size w v ts) :
    Calls Try.prog 5 #[.agg #[u], v] w fun e w' => e = .returned (.bool true) ∧ Below w.heap.size w w' := by
  have Hu := hide hu
  have Hv := hide hv
  obtain ⟨a, cap, rfl, -, -⟩ := hu
  obtain ⟨a2, cap2, rfl, l2, -⟩ := hv
  unfold maxLen at l2
  by_cases hbig : 1048576 < ts.length
  · have hbig' : 1048576 < (ts.length : Int) := by omega
    go_enter Try.func5, Try.ntmps5
    go_wp2
    go_ret
    exact ⟨rfl, below1 w _⟩
  · have hbig' : ¬ 1048576 < (ts.length : Int) := by omega
    have hl : ts.length ≤ 1048576 := by omega
    go_enter Try.func5, Try.ntmps5
    go_wp2_with fail
    refine (szQuery_w _ xss 1048576 _ ((unhide Hu).below (below1 w _) (Nat.le_refl _)) (by omega) (by omega)).mono ?_
    rintro e w1 ⟨⟨r, rfl, hr⟩, hb1⟩
    have hz1 := hb1.size
    rw [sz_alloc] at hz1
    have hB1 : Below w.heap.size w w1 := (below1 w _).trans (hb1.mono (by rw [sz_alloc]; omega))
    have RA : Boxed w1 w.heap.size 33 (.slice a xss.length cap) := (hb1.block w.heap.size (by rw [sz_alloc]; omega)).trans (Boxed.new w _ _)
    have ca := RA.cell
    clear hb1
    by_cases hn : r < 0
    · go_wp2
      go_ret
      exact ⟨rfl, hB1⟩
    · have hT : tot xss ≤ 1048576 := by omega
      have hL : xss.length ≤ 1048576 := by omega
      clear hr
      go_wp2_with fail
      refine (toQuery_w _ xss _ ((unhide Hu).below hB1 (Nat.le_refl _)) hL hT).mono ?_
      rintro e w2 ⟨u2, rfl, hs2, hb2⟩
      have hz2 := hb2.size
      have hB2 : Below w.heap.size w w2 := hB1.trans (hb2.mono (by omega))
      have S2 := hide hs2
      obtain ⟨p2, q2, rfl, -⟩ := hs2
      have RA2 := hide (Boxed.below RA hb2 (by omega))
      clear hb2 ca
      go_wp2_with fail
      refine (toIntS_wc _ ts _ ((unhide Hv).below hB2 (Nat.le_refl _)) hl).mono ?_
      rintro e w3 ⟨u3, rfl, hs3, hc3, hb3⟩
      have hz3 := hb3.size
      have hB3 : Below w.heap.size w w3 := hB2.trans (hb3.mono (by omega))
      have S2' := hide (((unhide S2).keep hb3 (Nat.le_refl _)).all (by omega))
      have S3 := hide (hs3.all (Nat.le_refl _))
      have C3 := hide hc3
      obtain ⟨p3, q3, rfl⟩ := hs3.val
      have RA3 := hide (Boxed.below (unhide RA2) hb3 (by omega))
      clear hb3 hs3 hc3 S2 RA2
      go_wp2_with fail
      refine (specEval_any _ _ xss ts _ (unhide S2') (unhide S3) (unhide C3) hl).mono ?_
      rintro e w4 ⟨⟨g, rfl, hg⟩, hb4⟩
      have hz4 := hb4.size
      have hB4 : Below w.heap.size w w4 := hB3.trans (hb4.mono (by omega))
      have HG := hide hg
      have RA4 := hide (Boxed.below (unhide RA3) hb4 (by omega))
      have ca := (unhide RA4).cell
      clear hb4 hg RA3 S2' S3 C3
      go_wp2_with fail
      refine (toQuery_w _ xss _ ((unhide Hu).below hB4 (Nat.le_refl _)) hL hT).mono ?_
      rintro e w5 ⟨u5, rfl, hs5, hb5⟩
      have hz5 := hb5.size
      have hB5 : Below w.heap.size w w5 := hB4.trans (hb5.mono (by omega))
      have S5 := hide hs5
      obtain ⟨p5, q5, rfl, -⟩ := hs5
      have RA5 := hide (Boxed.below (unhide RA4) hb5 (by omega))
      clear hb5 ca RA4
      go_wp2_with fail
      have hB5a := below1 w5 (.cells #[.slice p5 xss.length q5] 35)
      refine (toIntS_wc _ ts _ ((unhide Hv).below (hB5.trans (hB5a.mono (by omega))) (Nat.le_refl _)) hl).mono ?_
      rintro e w6 ⟨u6, rfl, hs6, hc6, hb6⟩
      have hz6 := hb6.size
      rw [sz_alloc] at hz6
      have hB6 : Below w5.heap.size w5 w6 := hB5a.trans (hb6.mono (by rw [sz_alloc]; omega))
      have RX6 := hide (Boxed.below (Boxed.new w5 35 (.slice p5 xss.length q5)) hb6 (by rw [sz_alloc]; omega))
      have S6 := hide hs6
      obtain ⟨p6, q6, rfl⟩ := hs6.val
      have S5' := hide ((unhide S5).keep hB6 (Nat.le_refl _))
      have RA6 := hide (Boxed.below (unhide RA5) hB6 (by omega))
      have hW6 : Below w.heap.size w w6 := hB5.trans (hB6.mono (by omega))
      have cx := (unhide RX6).cell
      clear hb6 hs6 hc6 hB5a RA5 S5
      go_wp2_with fail
      refine (implEval_any _ _ xss ts _ ((unhide S5').all (by omega)) hT hL ((unhide S6).all (Nat.le_refl _)) hl).mono ?_
      rintro e w7 ⟨⟨g', rfl, hg'⟩, hb7⟩
      obtain rfl : g = g' := by
        have h1 := unhide HG
        rw [← hg'] at h1
        cases g <;> cases g' <;> simp_all
      have hz7 := hb7.size
      have hgg : (g != g) = false := by cases g <;> rfl
      have RX7 := hide (Boxed.below (unhide RX6) hb7 (by omega))
      have RA7 := hide (Boxed.below (unhide RA6) hb7 (by omega))
      have S57 := hide ((unhide S5').keep hb7 (by omega))
      have S67 := hide ((unhide S6).keep hb7 (Nat.le_refl _))
      have hW7 : Below w.heap.size w w7 := hW6.trans (hb7.mono (by omega))
      have cx := (unhide RX7).cell
      have ca := (unhide RA7).cell
      clear hb7 hg' RX6 RA6 S5' S6 HG
      have hS : Hid (∀ W' : World, Below w7.heap.size w7 W' → W'.cell? ⟨w5.heap.size, 0, none⟩ = some (.slice p5 xss.length q5) ∧ W'.cell? ⟨w.heap.size, 0, none⟩ = some (.slice a xss.length cap)) := fun W' hW => ⟨(Boxed.below (unhide RX7) hW (by omega)).cell, (Boxed.below (unhide RA7) hW (by omega)).cell⟩
      go_wp2_with fail
      go_region_held3 (fun W' => W'.cell? ⟨w5.heap.size, 0, none⟩ = some (.slice p5 xss.length q5) ∧ W'.cell? ⟨w.heap.size, 0, none⟩ = some (.slice a xss.length cap))
        (first | go_keep | exact unhide hS _ hB9 | exact unhide hS _ hB8)
        (first
          | (go_at_call 16; refine (toQuery_w _ xss _ (by exact (unhide Hu).below hW7.drew (Nat.le_refl _)) hL hT).mono ?_; rintro e w8 ⟨u8, rfl, hs8, hb8⟩; have hB8 : Below w7.heap.size w7 w8 := ⟨hb8.os, hb8.tape, hb8.output, hb8.size, hb8.block⟩; have S8 := hide hs8; obtain ⟨p8, q8, rfl, -⟩ := hs8; clear hb8)
          | (go_at_call 18; refine (eqQuery_w _ _ xss _ (by exact ((unhide S57).keep hB8 (by omega)).all (by have := hB8.size; omega)) (by exact (unhide S8).at (fun k hk => by unfold Rng at hk; omega))).mono ?_; rintro e w9 ⟨rfl, hb9⟩; have hB9 : Below w7.heap.size w7 w9 := hB8.trans (hb9.mono hB8.size); clear hb9))
      have hz9 := hB9.size
      have hW9 : Below w.heap.size w w9 := hW7.trans (hB9.mono (by omega))
      clear cx ca hB8 S8 hS
      go_wp2_with fail
      refine (toIntS_wc _ ts _ ((unhide Hv).below hW9 (Nat.le_refl _)) hl).mono ?_
      rintro e w10 ⟨u10, rfl, hs10, hc10, hb10⟩
      have hz10 := hb10.size
      have hB10 : Below w7.heap.size w7 w10 := hB9.trans (hb10.mono (by omega))
      have hW10 : Below w.heap.size w w10 := hW9.trans (hb10.mono (by omega))
      have S10 := hide (hs10.all (Nat.le_refl _))
      obtain ⟨p10, q10, rfl⟩ := hs10.val
      clear hb10 hs10 hc10
      go_wp2_with fail
      refine (eqIntS_w _ _ ts _ (((unhide S67).keep hB10 (by omega)).all (by omega)) (unhide S10)).mono ?_
      rintro e w11 ⟨rfl, n11, hw11⟩
      have hW11 : Below w.heap.size w w11 := by rw [hw11]; exact below_drewN hW10 n11
      clear hw11
      go_wp2
      go_ret
      exact ⟨rfl, hW11⟩

end Go.Proofs.Ytfgngdfhejeolaa
