import Derived.Test.YtmhafibngbojcaaDoorPp5
namespace Go.Proofs.YtmhafibngbojcaaDoor
open Go.RowKit

theorem grp_iff {p q : Prop} [Decidable p] [Decidable q] (h : p ↔ q) (T : List Int) : grp p T = grp q T := by
  unfold grp
  by_cases hp : p
  · rw [if_pos hp, if_pos (h.1 hp)]
  · rw [if_neg hp, if_neg (fun hq => hp (h.2 hq))]
theorem StrB.cat2 {a b : ByteArray} {T1 T2 : List Int} {p q p' q' : Prop} [Decidable p] [Decidable q] [Decidable p'] [Decidable q'] (h : StrB a (grp p T1)) (k : StrB b (grp q T2)) (hp : p ↔ p') (hq : q ↔ q') : StrB (a ++ b) (grp p' T1 ++ grp q' T2) := by
  rw [← grp_iff hp, ← grp_iff hq]
  exact h.app k
theorem cat_len (s t : Tx) : (catX2 s t).2.length ≤ s.2.length + t.2.length + 4 := by
  have h1 := grp_len (s.1 = 3) s.2
  have h2 := grp_len (t.1 = 3 ∨ t.1 = 2) t.2
  simp only [catX2, List.length_append]
  omega
theorem alt_len (s t : Tx) : (altX2 s t).2.length ≤ s.2.length + t.2.length + 4 := by
  have h2 := grp_len (t.1 = 3) t.2
  simp only [altX2, List.length_append, List.length_cons]
  omega

set_option maxHeartbeats 8000000 in
set_option maxRecDepth 100000 in
theorem tx_bin_cat (l r : List El) (s t : Tx) (cr : Int) (sr : SegM r cr) (hl : TxS l s) (hr : TxS r t) : TxS (l ++ r ++ [⟨2, [], 0, 0⟩]) (catX2 s t) := by
  obtain ⟨hlk, htl, Hl⟩ := hl
  obtain ⟨hrk, htr, Hr⟩ := hr
  refine ⟨⟨l ++ r, _, rfl, rfl⟩, ?_, ?_⟩
  · have := cat_len s t
    simp only [List.length_append, List.length_singleton]
    omega
  intro v w hv hlen
  have hv0 := hv
  obtain ⟨a, cp, rfl, -, -⟩ := id hv
  obtain ⟨hlen2, hcap, b, off, rfl, hbn, hel⟩ := hv.last
  rw [hlen2] at hv hv0 hcap ⊢
  simp only [List.length_append, List.length_singleton] at hv hv0 hlen hlen2 hel hcap ⊢
  unfold maxLen at hcap
  obtain ⟨i1, i2, i3, sv, c0, c1, c2, c3, hints⟩ := hel
  obtain ⟨sa, sc, rfl, -, -, -⟩ := id hints
  simp only at c0 c2 c3
  clear hlen2 i1 i2 i3 hints
  have e1 : (((l.length + r.length + 1 : Nat) : Int) - 1) = ((l.length + r.length : Nat) : Int) := by omega
  have hvL : ElsAt 0 w.heap.size w (.slice (some ⟨b, off, none⟩) l.length cp) (l) := by rw [List.append_assoc] at hv0; exact hv0.pre
  have hvR := hv0.mid (cap' := cp - l.length) (by unfold maxLen; omega)
  obtain ⟨pl, kl⟩ := hlk.at hvL
  obtain ⟨pr, kr⟩ := hrk.at hvR
  have kl0 : ∀ o : Obj, (w.alloc o).cell? ⟨b, off + (l.length - 1) * 4, none⟩ = some (.int .i64 s.1) := fun o => ((below1 w o).cell (p := ⟨b, off + (l.length - 1) * 4, none⟩) hbn).trans kl
  have kr0 : ∀ o : Obj, (w.alloc o).cell? ⟨b, off + l.length * 4 + (r.length - 1) * 4, none⟩ = some (.int .i64 t.1) := fun o => ((below1 w o).cell (p := ⟨b, off + l.length * 4 + (r.length - 1) * 4, none⟩) hbn).trans kr
  have f1 : (((l.length : Nat) : Int) - 1) = ((l.length - 1 : Nat) : Int) := by omega
  have f2 : (((r.length : Nat) : Int) - 1) = ((r.length - 1 : Nat) : Int) := by omega
  have f3 : l.length - 1 < l.length := by omega
  have f5 : l.length + r.length - l.length = r.length := by omega
  have f4 : r.length - 1 < r.length := by omega
  have HvL := hide hvL
  have HvR := hide hvR
  have Hv0 := hide hv0
  obtain ⟨k1, T1⟩ := s
  obtain ⟨k2, T2⟩ := t
  simp only at htl htr kl kr kl0 kr0 Hl Hr
  have HHl := hide Hl
  have HHr := hide Hr
  have hB0 := below1 w (.cells #[.int .i64 2, .slice sa 0 sc, .int .i64 0, .int .i64 0] 53)
  have HRow : Hid (∀ W, Below (w.heap.size + 1) (w.alloc (.cells #[.int .i64 2, .slice sa 0 sc, .int .i64 0, .int .i64 0] 53)) W → W.cell? ⟨w.heap.size, 0, none⟩ = some (.int .i64 2)) := fun W hW => (hW.cell (p := ⟨w.heap.size, 0, none⟩) (Nat.lt_succ_self _)).trans ((pushd_alloc w _).news 0 _ rfl)
  clear hvL hvR hv hv0 Hl Hr hlk hrk
  go_enter Tryd.func15, Tryd.ntmps15
  go_wp2_with fail
  refine (l1start_bin _ l r cr _ _ _ sr (by exact (unhide Hv0).below (below1 w _) (Nat.le_refl _)) (by omega) rfl).mono ?_
  rintro e w1 ⟨rfl, rfl⟩
  have d : k2 = 3 ∨ k2 = 2 ∨ (¬ k2 = 3 ∧ ¬ k2 = 2) := by omega
  go_wp2_with fail
  have hz0 : (w.alloc (.cells #[.int .i64 2, .slice sa 0 sc, .int .i64 0, .int .i64 0] 53)).heap.size = w.heap.size + 1 := sz_alloc _ _
  generalize w.alloc (.cells #[.int .i64 2, .slice sa 0 sc, .int .i64 0, .int .i64 0] 53) = W0 at *
  have hz0' : w.heap.size + 1 ≤ W0.heap.size := by omega
  clear hz0 kl kr kl0 kr0 c0 c1 c2 c3
  refine (unhide HHl _ _ ((unhide HvL).below hB0 (Nat.le_refl _)) (by omega)).mono ?_
  rintro e w1 ⟨⟨s1, rfl, hs1⟩, hb1⟩
  have hsz1 := hs1.size
  have HS1 := hide hs1
  have hB1 : Below w.heap.size w w1 := hB0.trans (hb1.mono (by omega))
  clear hs1 hb1
  go_wp2_with fail
  refine (l1group_b _ s1 T1 _ (unhide HS1) (by omega)).mono ?_
  rintro e w2 ⟨⟨g1, rfl, hg1, hgz1⟩, rfl⟩
  have HG1 := hide hg1
  clear hg1
  rcases d with rfl | rfl | ⟨d1, d2⟩
  all_goals
    go_wp2_with fail
    refine (unhide HHr _ _ ((unhide HvR).below hB1 (Nat.le_refl _)) (by omega)).mono ?_
    rintro e w3 ⟨⟨s2, rfl, hs2⟩, hb3⟩
    have hsz2 := hs2.size
    have HS2 := hide hs2
    have hB3 := hB1.trans (hb3.mono hB1.size)
    clear hs2 hb3
    go_wp2_with fail
    refine (l1group_b _ s2 T2 _ (unhide HS2) (by omega)).mono ?_
    rintro e w4 ⟨⟨g2, rfl, hg2, hgz2⟩, rfl⟩
    have HG2 := hide hg2
    have n1 : ¬ 9223372036854775807 < g1.size + g2.size := by omega
    clear hg2
    go_wp2
    go_ret
    refine ⟨⟨_, rfl, ?_⟩, hB3⟩
    exact StrB.cat2 (unhide HG1) (unhide HG2) (by simp) (by simp <;> omega)

set_option maxHeartbeats 8000000 in
set_option maxRecDepth 100000 in
theorem tx_bin_alt (l r : List El) (s t : Tx) (cr : Int) (sr : SegM r cr) (hl : TxS l s) (hr : TxS r t) : TxS (l ++ r ++ [⟨3, [], 0, 0⟩]) (altX2 s t) := by
  obtain ⟨hlk, htl, Hl⟩ := hl
  obtain ⟨hrk, htr, Hr⟩ := hr
  refine ⟨⟨l ++ r, _, rfl, rfl⟩, ?_, ?_⟩
  · have := alt_len s t
    simp only [List.length_append, List.length_singleton]
    omega
  intro v w hv hlen
  have hv0 := hv
  obtain ⟨a, cp, rfl, -, -⟩ := id hv
  obtain ⟨hlen2, hcap, b, off, rfl, hbn, hel⟩ := hv.last
  rw [hlen2] at hv hv0 hcap ⊢
  simp only [List.length_append, List.length_singleton] at hv hv0 hlen hlen2 hel hcap ⊢
  unfold maxLen at hcap
  obtain ⟨i1, i2, i3, sv, c0, c1, c2, c3, hints⟩ := hel
  obtain ⟨sa, sc, rfl, -, -, -⟩ := id hints
  simp only at c0 c2 c3
  clear hlen2 i1 i2 i3 hints
  have e1 : (((l.length + r.length + 1 : Nat) : Int) - 1) = ((l.length + r.length : Nat) : Int) := by omega
  have hvL : ElsAt 0 w.heap.size w (.slice (some ⟨b, off, none⟩) l.length cp) (l) := by rw [List.append_assoc] at hv0; exact hv0.pre
  have hvR := hv0.mid (cap' := cp - l.length) (by unfold maxLen; omega)
  obtain ⟨pl, kl⟩ := hlk.at hvL
  obtain ⟨pr, kr⟩ := hrk.at hvR
  have kl0 : ∀ o : Obj, (w.alloc o).cell? ⟨b, off + (l.length - 1) * 4, none⟩ = some (.int .i64 s.1) := fun o => ((below1 w o).cell (p := ⟨b, off + (l.length - 1) * 4, none⟩) hbn).trans kl
  have kr0 : ∀ o : Obj, (w.alloc o).cell? ⟨b, off + l.length * 4 + (r.length - 1) * 4, none⟩ = some (.int .i64 t.1) := fun o => ((below1 w o).cell (p := ⟨b, off + l.length * 4 + (r.length - 1) * 4, none⟩) hbn).trans kr
  have f1 : (((l.length : Nat) : Int) - 1) = ((l.length - 1 : Nat) : Int) := by omega
  have f2 : (((r.length : Nat) : Int) - 1) = ((r.length - 1 : Nat) : Int) := by omega
  have f3 : l.length - 1 < l.length := by omega
  have f5 : l.length + r.length - l.length = r.length := by omega
  have f4 : r.length - 1 < r.length := by omega
  have HvL := hide hvL
  have HvR := hide hvR
  have Hv0 := hide hv0
  obtain ⟨k1, T1⟩ := s
  obtain ⟨k2, T2⟩ := t
  simp only at htl htr kl kr kl0 kr0 Hl Hr
  have HHl := hide Hl
  have HHr := hide Hr
  have hB0 := below1 w (.cells #[.int .i64 3, .slice sa 0 sc, .int .i64 0, .int .i64 0] 53)
  have HRow : Hid (∀ W, Below (w.heap.size + 1) (w.alloc (.cells #[.int .i64 3, .slice sa 0 sc, .int .i64 0, .int .i64 0] 53)) W → W.cell? ⟨w.heap.size, 0, none⟩ = some (.int .i64 3)) := fun W hW => (hW.cell (p := ⟨w.heap.size, 0, none⟩) (Nat.lt_succ_self _)).trans ((pushd_alloc w _).news 0 _ rfl)
  clear hvL hvR hv hv0 Hl Hr hlk hrk
  go_enter Tryd.func15, Tryd.ntmps15
  go_wp2_with fail
  refine (l1start_bin _ l r cr _ _ _ sr (by exact (unhide Hv0).below (below1 w _) (Nat.le_refl _)) (by omega) rfl).mono ?_
  rintro e w1 ⟨rfl, rfl⟩
  go_wp2_with fail
  have hz0 : (w.alloc (.cells #[.int .i64 3, .slice sa 0 sc, .int .i64 0, .int .i64 0] 53)).heap.size = w.heap.size + 1 := sz_alloc _ _
  generalize w.alloc (.cells #[.int .i64 3, .slice sa 0 sc, .int .i64 0, .int .i64 0] 53) = W0 at *
  have hz0' : w.heap.size + 1 ≤ W0.heap.size := by omega
  clear hz0 kl kr kl0 kr0 c0 c1 c2 c3
  refine (unhide HHl _ _ ((unhide HvL).below hB0 (Nat.le_refl _)) (by omega)).mono ?_
  rintro e w1 ⟨⟨s1, rfl, hs1⟩, hb1⟩
  have hsz1 := hs1.size
  have HS1 := hide hs1
  have hB1 : Below w.heap.size w w1 := hB0.trans (hb1.mono (by omega))
  clear hs1 hb1
  have n0 : ¬ 9223372036854775807 < s1.size + 1 := by omega
  go_wp2_with fail
  refine (unhide HHr _ _ ((unhide HvR).below hB1 (Nat.le_refl _)) (by omega)).mono ?_
  rintro e w3 ⟨⟨s2, rfl, hs2⟩, hb3⟩
  have hsz2 := hs2.size
  have HS2 := hide hs2
  have hB3 := hB1.trans (hb3.mono hB1.size)
  clear hs2 hb3
  go_wp2_with fail
  refine (l1group_b _ s2 T2 _ (unhide HS2) (by omega)).mono ?_
  rintro e w4 ⟨⟨g2, rfl, hg2, hgz2⟩, rfl⟩
  have HG2 := hide hg2
  have n1 : ¬ 9223372036854775807 < s1.size + 1 + g2.size := by omega
  clear hg2
  go_wp2
  go_ret
  refine ⟨⟨_, rfl, ?_⟩, hB3⟩
  have h9 := StrB.app (StrB.app (unhide HS1) (b := { data := #[124] }) (ys := [124]) rfl) (unhide HG2)
  rw [grp_iff (q := k2 = 3) (by simp) T2] at h9
  simpa [altX2] using h9

end Go.Proofs.YtmhafibngbojcaaDoor
