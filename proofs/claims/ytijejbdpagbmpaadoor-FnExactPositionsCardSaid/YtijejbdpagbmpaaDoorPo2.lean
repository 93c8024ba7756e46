import Derived.Test.YtijejbdpagbmpaaDoorP14
import Derived.Test.YtijejbdpagbmpaaDoorP4
import Derived.Test.YtijejbdpagbmpaaDoorP13
namespace Go.Proofs.YtijejbdpagbmpaaDoor
open Go.RowKit

/-- The model's answer whether this list of elements may be empty. -/
def NuS (l : List El) (b : Bool) : Prop := ∀ (v : Value) (w : World), ElsAt 0 w.heap.size w v l → l.length ≤ 3000 → Calls Tryd.prog 16 #[v] w fun e w' => e = .returned (.bool b) ∧ Below w.heap.size w w'
set_option maxHeartbeats 4000000 in
set_option maxRecDepth 100000 in
theorem nu_e : NuS [⟨0, [], 0, 0⟩] true := by
  intro v w hv hlen
  obtain ⟨a, cp, rfl, -, -⟩ := id hv
  obtain ⟨hlen2, hcap, b, off, rfl, hbn, hel⟩ := ElsAt.last (p := []) hv
  simp only [List.length_singleton, List.length_nil, Nat.zero_mul, Nat.add_zero] at hel hv ⊢
  obtain ⟨i1, i2, i3, sv, c0, c1, c2, c3, hints⟩ := hel
  obtain ⟨sa, sc, rfl, -, -, -⟩ := id hints
  clear hv hints i1 i2 i3
  go_enter Tryd.func16, Tryd.ntmps16
  go_wp2
  go_ret
  exact ⟨rfl, below1 w _⟩
set_option maxHeartbeats 4000000 in
set_option maxRecDepth 100000 in
theorem nu_s (xs : List Int) : NuS [⟨1, xs, 0, 0⟩] false := by
  intro v w hv hlen
  obtain ⟨a, cp, rfl, -, -⟩ := id hv
  obtain ⟨hlen2, hcap, b, off, rfl, hbn, hel⟩ := ElsAt.last (p := []) hv
  simp only [List.length_singleton, List.length_nil, Nat.zero_mul, Nat.add_zero] at hel hv ⊢
  obtain ⟨i1, i2, i3, sv, c0, c1, c2, c3, hints⟩ := hel
  obtain ⟨sa, sc, rfl, -, -, -⟩ := id hints
  clear hv hints i1 i2 i3
  go_enter Tryd.func16, Tryd.ntmps16
  go_wp2
  go_ret
  exact ⟨rfl, below1 w _⟩
set_option maxHeartbeats 4000000 in
set_option maxRecDepth 100000 in
theorem nu_rep (l : List El) (b0 : Bool) (mn mx : Int) (hl : NuS l b0) (hne : 0 < l.length) : NuS (l ++ [⟨4, [], mn, mx⟩]) (b0 || decide (mn = 0)) := by
  intro v w hv hlen
  have hv0 := hv
  obtain ⟨a, cp, rfl, -, -⟩ := id hv
  obtain ⟨hlen2, hcap, b, off, rfl, hbn, hel⟩ := hv.last
  rw [hlen2] at hv hv0 hcap ⊢
  simp only [List.length_append, List.length_singleton] at hlen hlen2
  unfold maxLen at hcap
  obtain ⟨i1, i2, i3, sv, c0, c1, c2, c3, hints⟩ := hel
  obtain ⟨sa, sc, rfl, -, -, -⟩ := id hints
  simp only at c0 c2 c3
  clear hlen2 i1 i2 i3 hints
  have hvL : ElsAt 0 w.heap.size w (.slice (some ⟨b, off, none⟩) l.length cp) l := hv0.pre
  have HvL := hide hvL
  have e1 : (((l.length + 1 : Nat) : Int) - 1) = ((l.length : Nat) : Int) := by omega
  have hB0 := below1 w (.cells #[.int .i64 4, .slice sa 0 sc, .int .i64 mn, .int .i64 mx] 44)
  have HH := hide hl
  clear hvL hv hv0 hl
  by_cases h0 : mn = 0
  · have HE : Hid ((b0 || decide (mn = 0)) = true) := by show (b0 || decide (mn = 0)) = true; simp [h0]
    rw [unhide HE]
    clear HE
    subst h0
    go_enter Tryd.func16, Tryd.ntmps16
    go_wp2
    go_ret
    exact ⟨rfl, hB0⟩
  · have HE : Hid ((b0 || decide (mn = 0)) = b0) := by show (b0 || decide (mn = 0)) = b0; simp [h0]
    rw [unhide HE]
    clear HE
    go_enter Tryd.func16, Tryd.ntmps16
    go_wp2_with fail
    refine (unhide HH _ _ ((unhide HvL).below hB0 (Nat.le_refl _)) (by omega)).mono ?_
    rintro e w1 ⟨rfl, hb1⟩
    have hB1 := hB0.trans (hb1.mono (by rw [sz_alloc]; omega))
    clear hb1
    go_wp2
    go_ret
    exact ⟨rfl, hB1⟩

set_option maxHeartbeats 8000000 in
set_option maxRecDepth 100000 in
theorem nu_cat (l r : List El) (b1 b2 : Bool) (cr : Int) (sr : SegM r cr) (hl : NuS l b1) (hr : NuS r b2) : NuS (l ++ r ++ [⟨2, [], 0, 0⟩]) (b1 && b2) := by
  intro v w hv hlen
  have hv0 := hv
  obtain ⟨a, cp, rfl, -, -⟩ := id hv
  obtain ⟨hlen2, hcap, b, off, rfl, hbn, hel⟩ := hv.last
  rw [hlen2] at hv hv0 hcap ⊢
  simp only [List.length_append, List.length_singleton] at hv hv0 hlen hlen2 hel hcap ⊢
  unfold maxLen at hcap
  obtain ⟨i1, i2, i3, sv, c0, c1, c2, c3, hints⟩ := hel
  obtain ⟨sa, sc, rfl, -, -, -⟩ := id hints
  simp only at c0 c2 c3
  clear hlen2 i1 i2 i3 hints
  have e1 : (((l.length + r.length + 1 : Nat) : Int) - 1) = ((l.length + r.length : Nat) : Int) := by omega
  have hvL : ElsAt 0 w.heap.size w (.slice (some ⟨b, off, none⟩) l.length cp) (l) := by rw [List.append_assoc] at hv0; exact hv0.pre
  have hvR := hv0.mid (cap' := cp - l.length) (by unfold maxLen; omega)
  have f5 : l.length + r.length - l.length = r.length := by omega
  have HvL := hide hvL
  have HvR := hide hvR
  have Hv0 := hide hv0
  have HHl := hide hl
  have HHr := hide hr
  have hB0 := below1 w (.cells #[.int .i64 2, .slice sa 0 sc, .int .i64 0, .int .i64 0] 44)
  have HRow : Hid (∀ W, Below (w.heap.size + 1) (w.alloc (.cells #[.int .i64 2, .slice sa 0 sc, .int .i64 0, .int .i64 0] 44)) W → W.cell? ⟨w.heap.size, 0, none⟩ = some (.int .i64 2)) := fun W hW => (hW.cell (p := ⟨w.heap.size, 0, none⟩) (Nat.lt_succ_self _)).trans ((pushd_alloc w _).news 0 _ rfl)
  clear hvL hvR hv hv0 hl hr
  go_enter Tryd.func16, Tryd.ntmps16
  go_wp2_with fail
  refine (l1start_bin _ l r cr _ _ _ sr (by exact (unhide Hv0).below (below1 w _) (Nat.le_refl _)) (by omega) rfl).mono ?_
  rintro e w1 ⟨rfl, rfl⟩
  go_wp2_with fail
  have hz0 : (w.alloc (.cells #[.int .i64 2, .slice sa 0 sc, .int .i64 0, .int .i64 0] 44)).heap.size = w.heap.size + 1 := sz_alloc _ _
  generalize w.alloc (.cells #[.int .i64 2, .slice sa 0 sc, .int .i64 0, .int .i64 0] 44) = W0 at *
  have hz0' : w.heap.size + 1 ≤ W0.heap.size := by omega
  clear hz0 c0 c1 c2 c3
  refine (unhide HHr _ _ ((unhide HvR).below hB0 (Nat.le_refl _)) (by omega)).mono ?_
  rintro e w1 ⟨rfl, hb1⟩
  have hB1 : Below w.heap.size w w1 := hB0.trans (hb1.mono (by omega))
  have k0 := unhide HRow w1 (hb1.mono (by omega))
  clear hb1
  cases b2 with
  | false =>
    go_wp2
    go_ret
    exact ⟨by simp, hB1⟩
  | true =>
    go_wp2_with fail
    refine (unhide HHl _ _ ((unhide HvL).below hB1 (Nat.le_refl _)) (by omega)).mono ?_
    rintro e w2 ⟨rfl, hb2⟩
    have hB2 := hB1.trans (hb2.mono hB1.size)
    clear hb2
    go_wp2
    go_ret
    exact ⟨by simp, hB2⟩

set_option maxHeartbeats 8000000 in
set_option maxRecDepth 100000 in
theorem nu_alt (l r : List El) (b1 b2 : Bool) (cr : Int) (sr : SegM r cr) (hl : NuS l b1) (hr : NuS r b2) : NuS (l ++ r ++ [⟨3, [], 0, 0⟩]) (b1 || b2) := by
  intro v w hv hlen
  have hv0 := hv
  obtain ⟨a, cp, rfl, -, -⟩ := id hv
  obtain ⟨hlen2, hcap, b, off, rfl, hbn, hel⟩ := hv.last
  rw [hlen2] at hv hv0 hcap ⊢
  simp only [List.length_append, List.length_singleton] at hv hv0 hlen hlen2 hel hcap ⊢
  unfold maxLen at hcap
  obtain ⟨i1, i2, i3, sv, c0, c1, c2, c3, hints⟩ := hel
  obtain ⟨sa, sc, rfl, -, -, -⟩ := id hints
  simp only at c0 c2 c3
  clear hlen2 i1 i2 i3 hints
  have e1 : (((l.length + r.length + 1 : Nat) : Int) - 1) = ((l.length + r.length : Nat) : Int) := by omega
  have hvL : ElsAt 0 w.heap.size w (.slice (some ⟨b, off, none⟩) l.length cp) (l) := by rw [List.append_assoc] at hv0; exact hv0.pre
  have hvR := hv0.mid (cap' := cp - l.length) (by unfold maxLen; omega)
  have f5 : l.length + r.length - l.length = r.length := by omega
  have HvL := hide hvL
  have HvR := hide hvR
  have Hv0 := hide hv0
  have HHl := hide hl
  have HHr := hide hr
  have hB0 := below1 w (.cells #[.int .i64 3, .slice sa 0 sc, .int .i64 0, .int .i64 0] 44)
  have HRow : Hid (∀ W, Below (w.heap.size + 1) (w.alloc (.cells #[.int .i64 3, .slice sa 0 sc, .int .i64 0, .int .i64 0] 44)) W → W.cell? ⟨w.heap.size, 0, none⟩ = some (.int .i64 3)) := fun W hW => (hW.cell (p := ⟨w.heap.size, 0, none⟩) (Nat.lt_succ_self _)).trans ((pushd_alloc w _).news 0 _ rfl)
  clear hvL hvR hv hv0 hl hr
  go_enter Tryd.func16, Tryd.ntmps16
  go_wp2_with fail
  refine (l1start_bin _ l r cr _ _ _ sr (by exact (unhide Hv0).below (below1 w _) (Nat.le_refl _)) (by omega) rfl).mono ?_
  rintro e w1 ⟨rfl, rfl⟩
  go_wp2_with fail
  have hz0 : (w.alloc (.cells #[.int .i64 3, .slice sa 0 sc, .int .i64 0, .int .i64 0] 44)).heap.size = w.heap.size + 1 := sz_alloc _ _
  generalize w.alloc (.cells #[.int .i64 3, .slice sa 0 sc, .int .i64 0, .int .i64 0] 44) = W0 at *
  have hz0' : w.heap.size + 1 ≤ W0.heap.size := by omega
  clear hz0 c0 c1 c2 c3
  refine (unhide HHr _ _ ((unhide HvR).below hB0 (Nat.le_refl _)) (by omega)).mono ?_
  rintro e w1 ⟨rfl, hb1⟩
  have hB1 : Below w.heap.size w w1 := hB0.trans (hb1.mono (by omega))
  have k0 := unhide HRow w1 (hb1.mono (by omega))
  clear hb1
  cases b2 with
  | true =>
    go_wp2
    go_ret
    exact ⟨by simp, hB1⟩
  | false =>
    go_wp2_with fail
    refine (unhide HHl _ _ ((unhide HvL).below hB1 (Nat.le_refl _)) (by omega)).mono ?_
    rintro e w2 ⟨rfl, hb2⟩
    have hB2 := hB1.trans (hb2.mono hB1.size)
    clear hb2
    go_wp2
    go_ret
    exact ⟨by simp, hB2⟩

end Go.Proofs.YtijejbdpagbmpaaDoor
