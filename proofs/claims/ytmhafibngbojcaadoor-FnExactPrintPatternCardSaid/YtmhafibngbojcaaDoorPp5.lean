import Derived.Test.YtmhafibngbojcaaDoorPp4
import Derived.Test.YtmhafibngbojcaaDoorP7
import Derived.Test.YtmhafibngbojcaaDoorP3
import Derived.Deep.RegionHeld3
namespace Go.Proofs.YtmhafibngbojcaaDoor
open Go.RowKit

/-- The last element is of kind k. -/
def LastK (l : List El) (k : Int) : Prop := ∃ p x, l = p ++ [x] ∧ x.kind = k
theorem LastK.at {l : List El} {k : Int} (h : LastK l k) {n b off cap : Nat} {w : World} (hv : ElsAt 0 n w (.slice (some ⟨b, off, none⟩) l.length cap) l) : 0 < l.length ∧ w.cell? ⟨b, off + (l.length - 1) * 4, none⟩ = some (.int .i64 k) := by
  obtain ⟨p, x, rfl, rfl⟩ := h
  obtain ⟨-, -, b', off', e, -, -, -, -, v, c0, -⟩ := hv.last
  cases e
  simpa using c0
/-- The model's text of this list of elements. -/
def TxS (l : List El) (t : Tx) : Prop := LastK l t.1 ∧ t.2.length ≤ 2000 * l.length ∧ ∀ (v : Value) (w : World), ElsAt 0 w.heap.size w v l → l.length ≤ 3000 → Calls Tryd.prog 15 #[v] w fun e w' => (∃ s, e = .returned (.string s) ∧ StrB s t.2) ∧ Below w.heap.size w w'

theorem grp_dec (p : Prop) [Decidable p] (T : List Int) : grp (decide p = true) T = grp p T := by unfold grp; by_cases h : p <;> simp [h]
theorem l1group_b (p : Bool) (s : ByteArray) (xs : List Int) (w : World) (h : StrB s xs) (hl : xs.length ≤ 100000000) :
    Calls Tryd.prog 24 #[.string s, .bool p] w fun e w' => (∃ t, e = .returned (.string t) ∧ StrB t (grp (p = true) xs) ∧ t.size ≤ xs.length + 2) ∧ w' = w :=
  (l1group_any p s xs w h hl).mono (fun _ _ ⟨⟨t, h1, h2⟩, h3⟩ => ⟨⟨t, h1, h2, by rw [h2.size]; exact grp_len _ _⟩, h3⟩)

set_option maxHeartbeats 4000000 in
set_option maxRecDepth 100000 in
theorem tx_e : TxS [⟨0, [], 0, 0⟩] (0, [40, 41]) := by
  refine ⟨⟨[], _, rfl, rfl⟩, by simp, ?_⟩
  intro v w hv hlen
  obtain ⟨a, cp, rfl, -, -⟩ := id hv
  obtain ⟨hlen2, hcap, b, off, rfl, hbn, hel⟩ := ElsAt.last (p := []) hv
  simp only [List.length_singleton, List.length_nil, Nat.zero_mul, Nat.add_zero] at hel hv ⊢
  obtain ⟨i1, i2, i3, sv, c0, c1, c2, c3, hints⟩ := hel
  obtain ⟨sa, sc, rfl, -, -, -⟩ := id hints
  clear hv hints i1 i2 i3
  go_enter Tryd.func15, Tryd.ntmps15
  go_wp2
  go_ret
  exact ⟨⟨_, rfl, rfl⟩, below1 w _⟩

set_option maxHeartbeats 4000000 in
set_option maxRecDepth 100000 in
theorem tx_s (xs : List Int) (hc : Canon xs) (hl : xs.length ≤ 300) : TxS [⟨1, xs, 0, 0⟩] (1, setT xs) := by
  refine ⟨⟨[], _, rfl, rfl⟩, by have := setT_len hl; simp only [List.length_singleton]; omega, ?_⟩
  intro v w hv hlen
  obtain ⟨a, cp, rfl, -, -⟩ := id hv
  obtain ⟨hlen2, hcap, b, off, rfl, hbn, hel⟩ := ElsAt.last (p := []) hv
  simp only [List.length_singleton, List.length_nil, Nat.zero_mul, Nat.add_zero] at hel hv ⊢
  obtain ⟨i1, i2, i3, sv, c0, c1, c2, c3, hints⟩ := hel
  have HI := hide (ints_sl hints)
  obtain ⟨sa, sc, rfl, -, -, -⟩ := id hints
  clear hv hints i1 i2 i3
  go_enter Tryd.func15, Tryd.ntmps15
  go_wp2_with fail
  have hB := below1 w (.cells #[.int .i64 1, .slice sa xs.length sc, .int .i64 0, .int .i64 0] 53)
  refine (l1setText_any _ xs _ ((unhide HI).below hB (Nat.le_refl _)) hc hl).mono ?_
  rintro e w1 ⟨⟨t, rfl, ht⟩, hb1⟩
  have HT := hide ht
  have hB1 := hB.trans (hb1.mono (by rw [sz_alloc]; omega))
  clear ht hb1
  go_wp2
  go_ret
  exact ⟨⟨_, rfl, unhide HT⟩, hB1⟩

set_option maxHeartbeats 4000000 in
set_option maxRecDepth 100000 in
theorem tx_rep (l : List El) (t : Tx) (mn mx : Int) (hl : TxS l t) (o2 : 0 ≤ mn) (o3 : mn ≤ 250) (o4 : mx = -1 ∨ (mn ≤ mx ∧ mx ≤ 250)) : TxS (l ++ [⟨4, [], mn, mx⟩]) (repX2 t mn mx) := by
  obtain ⟨hlk, htl, Hl⟩ := hl
  refine ⟨⟨l, _, rfl, rfl⟩, ?_, ?_⟩
  · have h1 := grp_len (2 ≤ t.1) t.2
    have h2 := repT_len mn mx
    simp only [repX2, List.length_append, List.length_singleton]
    omega
  intro v w hv hlen
  have hv0 := hv
  obtain ⟨a, cp, rfl, -, -⟩ := id hv
  obtain ⟨hlen2, hcap, b, off, rfl, hbn, hel⟩ := hv.last
  rw [hlen2] at hv hv0 hcap ⊢
  simp only [List.length_append, List.length_singleton] at hlen hlen2
  unfold maxLen at hcap
  obtain ⟨i1, i2, i3, sv, c0, c1, c2, c3, hints⟩ := hel
  obtain ⟨sa, sc, rfl, -, -, -⟩ := id hints
  simp only at c0 c2 c3
  clear hlen2 i1 i2 i3 hints
  have hvL : ElsAt 0 w.heap.size w (.slice (some ⟨b, off, none⟩) l.length cp) l := hv0.pre
  obtain ⟨hpos, hk⟩ := hlk.at hvL
  have HvL := hide hvL
  have e1 : (((l.length + 1 : Nat) : Int) - 1) = ((l.length : Nat) : Int) := by omega
  have hk0 : ∀ o : Obj, (w.alloc o).cell? ⟨b, off + (l.length - 1) * 4, none⟩ = some (.int .i64 t.1) := fun o => ((below1 w o).cell (p := ⟨b, off + (l.length - 1) * 4, none⟩) hbn).trans hk
  have hB0 := below1 w (.cells #[.int .i64 4, .slice sa 0 sc, .int .i64 mn, .int .i64 mx] 53)
  have HRow : Hid (∀ W, Below (w.heap.size + 1) (w.alloc (.cells #[.int .i64 4, .slice sa 0 sc, .int .i64 mn, .int .i64 mx] 53)) W → W.cell? ⟨w.heap.size, 2, none⟩ = some (.int .i64 mn) ∧ W.cell? ⟨w.heap.size, 3, none⟩ = some (.int .i64 mx)) := fun W hW =>
    ⟨(hW.cell (p := ⟨w.heap.size, 2, none⟩) (Nat.lt_succ_self _)).trans ((pushd_alloc w _).news 2 _ rfl), (hW.cell (p := ⟨w.heap.size, 3, none⟩) (Nat.lt_succ_self _)).trans ((pushd_alloc w _).news 3 _ rfl)⟩
  have HH := hide Hl
  obtain ⟨k, T⟩ := t
  simp only at hk hk0 HH htl ⊢
  clear hvL hv hv0 Hl hlk
  go_enter Tryd.func15, Tryd.ntmps15
  go_wp2_with fail
  have hz0 : (w.alloc (.cells #[.int .i64 4, .slice sa 0 sc, .int .i64 mn, .int .i64 mx] 53)).heap.size = w.heap.size + 1 := sz_alloc _ _
  have Hv1 := hide ((unhide HvL).below hB0 (Nat.le_refl _))
  generalize w.alloc (.cells #[.int .i64 4, .slice sa 0 sc, .int .i64 mn, .int .i64 mx] 53) = W0 at *
  have hz0' : w.heap.size + 1 ≤ W0.heap.size := by omega
  clear hz0
  obtain ⟨r2, r3⟩ := unhide HRow W0 (Below.refl _ _)
  go_region_with (first
      | (go_at_call 15; refine (unhide HH _ _ (by exact (unhide Hv1).below (Below.refl _ _).drew (Nat.le_refl _)) (by omega)).mono ?_; rintro e w1 ⟨⟨s, rfl, hs⟩, hb1⟩; have hB1 : Below W0.heap.size W0 w1 := ⟨hb1.os, hb1.tape, hb1.output, hb1.size, hb1.block⟩; obtain ⟨s2, s3⟩ := unhide HRow _ (hB1.mono hz0'); have hsz := hs.size; have HS := hide hs; clear hb1 hs)
      | (go_at_call 24; refine (l1group_b _ s T _ (unhide HS) (by omega)).mono ?_; rintro e w2 ⟨⟨g, rfl, hg, hgz⟩, rfl⟩; have HG := hide hg; clear hg)
      | (go_at_call 25; refine (l1repText_any mn mx _ o2 o3 o4).mono ?_; rintro e w3 ⟨⟨u, rfl, hu⟩, rfl⟩; have HU := hide hu; have huz := hu.size; have n1 : ¬ 9223372036854775807 < g.size + u.size := (by have := repT_len mn mx; omega); clear hu))
  all_goals
    go_wp2
    go_ret
    refine ⟨⟨_, rfl, ?_⟩, hB0.trans (hB1.mono (by omega))⟩
    have h9 := (unhide HG).app (unhide HU)
    rw [grp_dec] at h9
    exact h9

end Go.Proofs.YtmhafibngbojcaaDoor
