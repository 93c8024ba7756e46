import Derived.Test.YtpkghafpelilfaaL1
import Derived.Deep.RegionHeld3
import Derived.Deep.RegionWith
namespace Go.Proofs.Ytpkghafpelilfaa
open Go.RowKit

/-- The segment is one that building made. -/
def Valid (base : Int) (xss : List (List Int)) (ks : List Int) (pss : List (List Int)) : Prop := Fits base xss ∧ SegR base xss ks pss
/-- What is asked of a segment that is handed in. -/
structure SegIn (base : Int) (xss : List (List Int)) (ks : List Int) (pss : List (List Int)) : Prop where
  bytes : ∀ x ∈ xss, Bytes x
  lo : -9223372036854775808 ≤ base
  hi : base ≤ 9223372036854775807
  t1 : tot xss ≤ 1048576
  l1 : xss.length ≤ 1048576
  l2 : ks.length ≤ 1048576
  t3 : tot pss ≤ 1048576
  l3 : pss.length ≤ 1048576

set_option maxHeartbeats 4000000 in
set_option maxRecDepth 100000 in
theorem l4valid_any (v : Value) (base : Int) (xss pss : List (List Int)) (ks : List Int) (w : World) (hv : SegRd w v base xss ks pss) (hi : SegIn base xss ks pss) :
    Calls Try.prog 21 #[v] w fun e w' => RetB e (Valid base xss ks pss) ∧ Below w.heap.size w w' := by
  have HV := hide hv
  obtain ⟨a1, c1, a2, c2, a3, c3, rfl, u1, u2, u3⟩ := hv.parts
  have U1 := hide u1
  have hb0 := below1 w (.cells #[.int .i64 base, .slice a1 xss.length c1, .slice a2 ks.length c2, .slice a3 pss.length c3] 30)
  have RA := Row4.new w 30 (.int .i64 base) (.slice a1 xss.length c1) (.slice a2 ks.length c2) (.slice a3 pss.length c3)
  have hzV : (w.alloc (.cells #[.int .i64 base, .slice a1 xss.length c1, .slice a2 ks.length c2, .slice a3 pss.length c3] 30)).heap.size = w.heap.size + 1 := sz_alloc _ _
  obtain ⟨i1, i2, i3, i4, i5, i6, i7, i8⟩ := hi
  have I1 := hide i1
  clear hv u1 u2 u3 i1
  go_enter Try.func21, Try.ntmps21
  go_wp2_with fail
  generalize w.alloc (.cells #[.int .i64 base, .slice a1 xss.length c1, .slice a2 ks.length c2, .slice a3 pss.length c3] 30) = V at *
  have hVz : w.heap.size + 1 ≤ V.heap.size := by omega
  clear hzV
  refine (l4fits_any base _ xss _ ((unhide U1).below hb0 (Nat.le_refl _)) i4 i5 i2 i3).mono ?_
  rintro e w1 ⟨hr, q1, hw1⟩
  have hB1 : Below w.heap.size w w1 := by rw [hw1]; exact below_drewN hb0 q1
  have RA1 : Row4 w1 w.heap.size 30 (.int .i64 base) (.slice a1 xss.length c1) (.slice a2 ks.length c2) (.slice a3 pss.length c3) := by rw [hw1]; exact RA
  have hz1 : w.heap.size + 1 ≤ w1.heap.size := by rw [hw1]; exact hVz
  have HR1 := hide RA1
  obtain ⟨f0, f1, f2, f3, -⟩ := RA1.facts
  clear hw1 RA RA1
  rcases hr.cases with ⟨rfl, hm⟩ | ⟨rfl, hm⟩
  · have Hm := hide hm
    have h0 := hm.1
    have h1 := hm.2.2.1
    clear hm hr
    have hS : Hid (∀ W' : World, Below w1.heap.size w1 W' → W'.cell? ⟨w.heap.size, 0, none⟩ = some (.int .i64 base) ∧ W'.cell? ⟨w.heap.size, 1, none⟩ = some (.slice a1 xss.length c1) ∧ W'.cell? ⟨w.heap.size, 2, none⟩ = some (.slice a2 ks.length c2) ∧ W'.cell? ⟨w.heap.size, 3, none⟩ = some (.slice a3 pss.length c3)) := fun W' hW => by
      have := ((unhide HR1).below hW (by omega)).facts
      exact ⟨this.1, this.2.1, this.2.2.1, this.2.2.2.1⟩
    by_cases hsv : SegR base xss ks pss
    · have HY : Hid (Valid base xss ks pss) := ⟨unhide Hm, hsv⟩
      have Hsv := hide hsv
      clear hsv
      go_wp2_with fail
      go_region_held3 (fun W' => W'.cell? ⟨w.heap.size, 0, none⟩ = some (.int .i64 base) ∧ W'.cell? ⟨w.heap.size, 1, none⟩ = some (.slice a1 xss.length c1) ∧ W'.cell? ⟨w.heap.size, 2, none⟩ = some (.slice a2 ks.length c2) ∧ W'.cell? ⟨w.heap.size, 3, none⟩ = some (.slice a3 pss.length c3))
        (first | go_keep | exact unhide hS _ hB9 | exact unhide hS _ hB8)
        (first
          | (go_at_call 36; refine (l4build_any base _ xss _ (by exact (unhide U1).below hB1.drew (Nat.le_refl _)) (unhide I1) i4 i5 h0 (by omega)).mono ?_; rintro e w8 ⟨⟨vb, ks', pss', rfl, hsg, hat⟩, hb8⟩; have hB8 : Below w1.heap.size w1 w8 := ⟨hb8.os, hb8.tape, hb8.output, hb8.size, hb8.block⟩; have RD8 := hide hat.rd; have Hsg := hide hsg; obtain ⟨b1, d1, b2, d2, b3, d3, rfl, -⟩ := hat.rd.parts; clear hb8 hat hsg)
          | (go_at_call 45; refine (l4sameSeg_yes _ _ base xss pss pss' ks ks' _ (by exact (unhide HV).below (hB1.trans (hB8.mono (by omega))) (Nat.le_refl _)) (by exact unhide RD8) i5 i8 ((unhide Hsv).uniq (unhide Hsg))).mono ?_; rintro e w9 ⟨rfl, hb9⟩; have hB9 : Below w1.heap.size w1 w9 := hB8.trans (hb9.mono hB8.size); clear hb9))
      go_wp2
      go_ret
      exact ⟨RetB.yes (unhide HY), hB1.trans (hB9.mono (by omega))⟩
    · have HY : Hid (¬ Valid base xss ks pss) := fun h => hsv h.2
      have Hsv := hide hsv
      clear hsv
      go_wp2_with fail
      go_region_held3 (fun W' => W'.cell? ⟨w.heap.size, 0, none⟩ = some (.int .i64 base) ∧ W'.cell? ⟨w.heap.size, 1, none⟩ = some (.slice a1 xss.length c1) ∧ W'.cell? ⟨w.heap.size, 2, none⟩ = some (.slice a2 ks.length c2) ∧ W'.cell? ⟨w.heap.size, 3, none⟩ = some (.slice a3 pss.length c3))
        (first | go_keep | exact unhide hS _ hB9 | exact unhide hS _ hB8)
        (first
          | (go_at_call 36; refine (l4build_any base _ xss _ (by exact (unhide U1).below hB1.drew (Nat.le_refl _)) (unhide I1) i4 i5 h0 (by omega)).mono ?_; rintro e w8 ⟨⟨vb, ks', pss', rfl, hsg, hat⟩, hb8⟩; have hB8 : Below w1.heap.size w1 w8 := ⟨hb8.os, hb8.tape, hb8.output, hb8.size, hb8.block⟩; have RD8 := hide hat.rd; have Hsg := hide hsg; obtain ⟨b1, d1, b2, d2, b3, d3, rfl, -⟩ := hat.rd.parts; clear hb8 hat hsg)
          | (go_at_call 45; refine (l4sameSeg_no _ _ base xss pss pss' ks ks' _ (by exact (unhide HV).below (hB1.trans (hB8.mono (by omega))) (Nat.le_refl _)) (by exact unhide RD8) i5 i8 (fun h => unhide Hsv (by rw [h.1, h.2]; exact unhide Hsg))).mono ?_; rintro e w9 ⟨rfl, hb9⟩; have hB9 : Below w1.heap.size w1 w9 := hB8.trans (hb9.mono hB8.size); clear hb9))
      go_wp2
      go_ret
      exact ⟨RetB.no (unhide HY), hB1.trans (hB9.mono (by omega))⟩
  · have HN : Hid (¬ Valid base xss ks pss) := fun h => hm h.1
    clear hm hr
    go_wp2_with fail
    go_ret
    exact ⟨RetB.no (unhide HN), hB1⟩

end Go.Proofs.Ytpkghafpelilfaa
