import Derived.Test.YtkajdhliejjohaaFc16
namespace Go.Proofs.Ytkajdhliejjohaa
open Go.RowKit

set_option maxHeartbeats 4000000 in
set_option maxRecDepth 100000 in
theorem sameSegment_same (u v : Value) (base : Int) (xss pss : List (List Int)) (ks : List Int) (w : World) (hu : SegRd w u base xss ks pss) (hv : SegRd w v base xss ks pss) (hL : xss.length ≤ 1048576) (hP : pss.length ≤ 1048576) :
    Calls Try.prog 10 #[u, v] w fun e w' => e = .returned (.bool true) ∧ Below w.heap.size w w' := by
  obtain ⟨a1, c1, a2, c2, a3, c3, rfl, u1, u2, u3⟩ := hu.parts
  obtain ⟨b1, d1, b2, d2, b3, d3, rfl, v1, v2, v3⟩ := hv.parts
  have U1 := hide u1
  have U2 := hide u2
  have U3 := hide u3
  have V1 := hide v1
  have V2 := hide v2
  have V3 := hide v3
  have hb0 := below2 w (.cells #[.int .i64 base, .slice a1 xss.length c1, .slice a2 ks.length c2, .slice a3 pss.length c3] 28) (.cells #[.int .i64 base, .slice b1 xss.length d1, .slice b2 ks.length d2, .slice b3 pss.length d3] 28)
  have RA := (Row4.new w 28 (.int .i64 base) (.slice a1 xss.length c1) (.slice a2 ks.length c2) (.slice a3 pss.length c3)).alloc (.cells #[.int .i64 base, .slice b1 xss.length d1, .slice b2 ks.length d2, .slice b3 pss.length d3] 28)
  have RB := Row4.new (w.alloc (.cells #[.int .i64 base, .slice a1 xss.length c1, .slice a2 ks.length c2, .slice a3 pss.length c3] 28)) 28 (.int .i64 base) (.slice b1 xss.length d1) (.slice b2 ks.length d2) (.slice b3 pss.length d3)
  rw [sz_alloc] at RB
  clear hu hv u1 u2 u3 v1 v2 v3
  go_enter Try.func10, Try.ntmps10
  go_wp2_with fail
  obtain ⟨V, hV⟩ : ∃ V, V = (w.alloc (.cells #[.int .i64 base, .slice a1 xss.length c1, .slice a2 ks.length c2, .slice a3 pss.length c3] 28)).alloc (.cells #[.int .i64 base, .slice b1 xss.length d1, .slice b2 ks.length d2, .slice b3 pss.length d3] 28) := ⟨_, rfl⟩
  rw [← hV] at RA RB hb0 ⊢
  clear hV
  obtain ⟨f0, f1, f2, f3, -⟩ := RA.facts
  obtain ⟨g0, g1, g2, g3, -⟩ := RB.facts
  have HU2 := hide ((unhide U2).below hb0 (Nat.le_refl _))
  have HV2 := hide ((unhide V2).below hb0 (Nat.le_refl _))
  have HUP := hide ((unhide U3).below hb0 (Nat.le_refl _))
  have HVP := hide ((unhide V3).below hb0 (Nat.le_refl _))
  have f3V := f3
  have g3V := g3
  refine (sameTexts_same _ _ xss V ((unhide U1).below hb0 (Nat.le_refl _)) ((unhide V1).below hb0 (Nat.le_refl _)) hL).mono ?_
  rintro e w1 ⟨rfl, q1, rfl⟩
  clear U1 U2 U3 V1 V2 V3 RA RB
  go_wp2_with fail
  refine (sameInts_same _ _ ks V.heap.size _ (by exact unhide HU2) (by exact unhide HV2)).mono ?_
  rintro e w2 ⟨rfl, q2, rfl⟩
  go_wp2_with fail
  go_loopw [5] (fun iv wr => (∃ k : Nat, k ≤ pss.length ∧ iv = .int .i64 k) ∧ ∃ q, wr = V.drewN q) (fun iv _ => pss.length - (intOf iv).toNat)
  case atStart => exact ⟨⟨0, Nat.zero_le _, rfl⟩, _, rfl⟩
  case round =>
    obtain ⟨⟨k, hk, rfl⟩, q, hwq⟩ := hrel
    have HQ := hide hwq
    have f3 : wr.cell? ⟨w.heap.size, 3, none⟩ = some (.slice a3 pss.length c3) := by rw [hwq]; exact f3V
    have g3 : wr.cell? ⟨w.heap.size + 1, 3, none⟩ = some (.slice b3 pss.length d3) := by rw [hwq]; exact g3V
    have HUPr : Hid (SsAt mI 0 wr.heap.size wr (.slice a3 pss.length c3) pss) := by rw [hwq]; exact unhide HUP
    have HVPr : Hid (SsAt mI 0 wr.heap.size wr (.slice b3 pss.length d3) pss) := by rw [hwq]; exact unhide HVP
    have hbr : Below w.heap.size w wr := by rw [hwq]; exact below_drewN hb0 q
    clear hwq
    by_cases hlt : k < pss.length
    · have hlt' : (k : Int) < (pss.length : Int) := by omega
      obtain ⟨_, _, e1, -, hc⟩ := unhide HUPr
      cases e1
      obtain ⟨_, _, e2, -, hc'⟩ := unhide HVPr
      cases e2
      obtain ⟨b, off, rfl, -, hcell⟩ := hc (by omega)
      obtain ⟨s, hx, hs, -⟩ := hcell k hlt
      obtain ⟨b', off', rfl, -, hcell'⟩ := hc' (by omega)
      obtain ⟨s', hx', hs', -⟩ := hcell' k hlt
      have Hs := hide hs
      have Hs' := hide hs'
      obtain ⟨sa, sc, rfl, -, -⟩ := hs
      obtain ⟨sa', sc', rfl, -, -⟩ := hs'
      clear hcell hcell' hc hc'
      generalize pss[k]?.getD [] = x at *
      go_wp2_with fail
      go_quiet ((go_at_call 30; refine Calls.quiet_of (sameInts_same _ _ x _ _ (by exact unhide Hs) (by exact unhide Hs'))))
      go_wp2
      go_roundw
      case rel => exact ⟨⟨k + 1, by omega, by go_num⟩, q + nq, by rw [unhide HQ]; exact drew2 _ _ _⟩
      case measure => simp [intOf]; omega
    · obtain rfl : k = pss.length := by omega
      go_wp2
      go_ret
      exact ⟨rfl, hbr⟩

end Go.Proofs.Ytkajdhliejjohaa
