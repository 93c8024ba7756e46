import Derived.Test.YtkajdhliejjohaaL2
import Derived.Test.YtkajdhliejjohaaL3
namespace Go.Proofs.Ytkajdhliejjohaa
open Go.RowKit

set_option maxHeartbeats 4000000 in
set_option maxRecDepth 100000 in
theorem validSegment_any (v : Value) (base : Int) (xss pss : List (List Int)) (ks : List Int) (w : World) (hv : SegRd w v base xss ks pss) (hi : SegIn base xss ks pss) :
    Calls Try.prog 25 #[v] w fun e w' => RetB e (Valid base xss ks pss) ∧ Below w.heap.size w w' := by
  obtain ⟨a1, c1, a2, c2, a3, c3, rfl, u1, u2, u3⟩ := hv.parts
  have U1 := hide u1
  have U2 := hide u2
  have U3 := hide u3
  have hb0 := below1 w (.cells #[.int .i64 base, .slice a1 xss.length c1, .slice a2 ks.length c2, .slice a3 pss.length c3] 28)
  have RA := Row4.new w 28 (.int .i64 base) (.slice a1 xss.length c1) (.slice a2 ks.length c2) (.slice a3 pss.length c3)
  have hzV : (w.alloc (.cells #[.int .i64 base, .slice a1 xss.length c1, .slice a2 ks.length c2, .slice a3 pss.length c3] 28)).heap.size = w.heap.size + 1 := sz_alloc _ _
  obtain ⟨i1, i2, i3, i4, i5, i6, i7, i8⟩ := hi
  have I1 := hide i1
  clear hv u1 u2 u3 i1
  go_enter Try.func25, Try.ntmps25
  go_wp2_with fail
  generalize w.alloc (.cells #[.int .i64 base, .slice a1 xss.length c1, .slice a2 ks.length c2, .slice a3 pss.length c3] 28) = V at *
  have hVz : w.heap.size + 1 ≤ V.heap.size := by omega
  clear hzV
  refine (implBuild_any base _ xss _ ((unhide U1).below hb0 (Nat.le_refl _)) (unhide I1) i4 i5 i2 i3).mono ?_
  rintro e w1 ⟨hr, hb1⟩
  have hz1 := hb1.size
  have hB1 : Below w.heap.size w w1 := hb0.trans (hb1.mono (by omega))
  have RA1 := RA.below hb1 (by omega)
  have HR1 := hide RA1
  clear RA
  rcases hr with ⟨hf, vb, ks', pss', rfl, hsg, hcnt, hF⟩ | ⟨hf, rfl⟩
  · obtain ⟨b1, d1, b2, d2, b3, d3, rfl, -, k2, k3⟩ := (hF.rd (Nat.le_refl _)).parts
    have K2 := hide k2
    have K3 := hide k3
    have Hf := hide hf
    have Hsg := hide hsg
    have hiff : Valid base xss ks pss ↔ ks' = ks ∧ pss' = pss := ⟨fun h => by have := h.2.uniq hsg; exact ⟨this.1.symm, this.2.symm⟩, fun h => by rw [← h.1, ← h.2]; exact ⟨hf, hsg⟩⟩
    have HI := hide hiff
    have hb2 := below1 w1 (.cells #[.int .i64 base, .slice b1 xss.length d1, .slice b2 ks'.length d2, .slice b3 pss'.length d3] 28)
    have RB := Row4.new w1 28 (.int .i64 base) (.slice b1 xss.length d1) (.slice b2 ks'.length d2) (.slice b3 pss'.length d3)
    obtain ⟨f0, f1, f2, f3, -⟩ := (RA1.alloc (.cells #[.int .i64 base, .slice b1 xss.length d1, .slice b2 ks'.length d2, .slice b3 pss'.length d3] 28)).facts
    obtain ⟨g0, g1, g2, g3, -⟩ := RB.facts
    clear hF hf hsg hcnt hiff k2 k3
    go_wp2_with fail
    have hB2 : Below w.heap.size w (w1.alloc (.cells #[.int .i64 base, .slice b1 xss.length d1, .slice b2 ks'.length d2, .slice b3 pss'.length d3] 28)) := hB1.trans (hb2.mono (by omega))
    generalize w1.alloc (.cells #[.int .i64 base, .slice b1 xss.length d1, .slice b2 ks'.length d2, .slice b3 pss'.length d3] 28) = V2 at *
    clear RA1 RB
    refine (equal_any _ _ ks' ks _ ((unhide K2).below hb2 (Nat.le_refl _)) ((unhide U2).below hB2 (Nat.le_refl _))).mono ?_
    rintro e w2 ⟨hr2, q2, rfl⟩
    rcases hr2.cases with ⟨rfl, hm⟩ | ⟨rfl, hm⟩
    · have Hm := hide hm
      clear hm hr2
      go_wp2_with fail
      refine (equalFunc_any _ _ pss' pss (V2.drewN q2) ((unhide K3).below (below_drewN hb2 q2) (Nat.le_refl _)) ((unhide U3).below (below_drewN hB2 q2) (Nat.le_refl _))).mono ?_
      rintro e w3 ⟨hr3, q3, rfl⟩
      have HR : Hid (RetB e (Valid base xss ks pss)) := by
        rcases hr3.cases with ⟨rfl, h3⟩ | ⟨rfl, h3⟩
        · exact RetB.yes ((unhide HI).2 ⟨unhide Hm, h3⟩)
        · exact RetB.no (fun h => h3 ((unhide HI).1 h).2)
      rcases hr3.cases with ⟨rfl, h3⟩ | ⟨rfl, h3⟩
      · clear h3 hr3
        go_wp2_with fail
        go_ret
        exact ⟨unhide HR, below_drewN hB2 _⟩
      · clear h3 hr3
        go_wp2_with fail
        go_ret
        exact ⟨unhide HR, below_drewN hB2 _⟩
    · have HN : Hid (¬ Valid base xss ks pss) := fun h => hm ((unhide HI).1 h).1
      clear hm hr2
      go_wp2_with fail
      go_ret
      exact ⟨RetB.no (unhide HN), below_drewN hB2 q2⟩
  · have HN : Hid (¬ Valid base xss ks pss) := fun h => hf h.1
    clear hf
    go_wp2_with fail
    go_ret
    exact ⟨RetB.no (unhide HN), hB1.alloc (by omega) _⟩

end Go.Proofs.Ytkajdhliejjohaa
