import Derived.Test.YtfdkdjngeomcdaaDoorP14
namespace Go.Proofs.YtfdkdjngeomcdaaDoor
open Go.RowKit

set_option maxHeartbeats 8000000 in
set_option maxRecDepth 100000 in
theorem en_cat (bs : List Int) (l r : List El) (A B : Rl) (cr : Int) (sr : SegM r cr) (hA : RB bs.length A) (hB : RB bs.length B) (hl : EnS bs l A) (hr : EnS bs r B) : EnS bs (l ++ r ++ [⟨2, [], 0, 0⟩]) (rCat A B) := by
  intro v lv bq F w hv hlen hlv hbs hbr
  have hv0 := hv
  obtain ⟨a, cp, rfl, -, -⟩ := id hv
  obtain ⟨hlen2, hcap, b, off, rfl, hbn, hel⟩ := hv.last
  rw [hlen2] at hv hv0 hcap ⊢
  simp only [List.length_append, List.length_singleton] at hv hv0 hlen hlen2 hel hcap ⊢
  unfold maxLen at hcap
  obtain ⟨i1, i2, i3, sv, c0, c1, c2, c3, hints⟩ := hel
  obtain ⟨sa, sc, rfl, -, -, -⟩ := id hints
  simp only at c0 c2 c3
  obtain ⟨la, lc, rfl, -, -⟩ := id hlv
  clear hlen2 i1 i2 i3 hints
  have e1 : (((l.length + r.length + 1 : Nat) : Int) - 1) = ((l.length + r.length : Nat) : Int) := by omega
  have hvL : ElsAt 0 w.heap.size w (.slice (some ⟨b, off, none⟩) l.length cp) (l) := by rw [List.append_assoc] at hv0; exact hv0.pre
  have hvR := hv0.mid (cap' := cp - l.length) (by unfold maxLen; omega)
  have f5 : l.length + r.length - l.length = r.length := by omega
  have HvL := hide hvL
  have HvR := hide hvR
  have Hv0 := hide hv0
  have HHl := hide hl
  have HHr := hide hr
  have Hlv := hide hlv
  have Hbs := hide hbs
  have hn := hbs.1
  have HA := hide hA
  have HBB := hide hB
  obtain ⟨n, hnn⟩ : ∃ n, n = bs.length := ⟨_, rfl⟩
  have hmk := run_make_row' (P := Tryd.prog) 56 4 (.bool false) 1 Tryd.underlying56 Tryd.zinBoolM rfl .i64 .i64 (bs.length + 1) (by omega) (by omega)
  simp only [Int.natCast_add, Int.natCast_one] at hmk
  have hb2 := below2 w (.cells #[.int .i64 2, .slice sa 0 sc, .int .i64 0, .int .i64 0] 58) (.cells (madeCells #[.bool false] (bs.length + 1)) 4)
  have h0 := br_made (w.alloc (.cells #[.int .i64 2, .slice sa 0 sc, .int .i64 0, .int .i64 0] 58)) bs.length
  rw [sz_alloc] at h0
  have H0 := hide h0
  have hz0 : ((w.alloc (.cells #[.int .i64 2, .slice sa 0 sc, .int .i64 0, .int .i64 0] 58)).alloc (.cells (madeCells #[.bool false] (bs.length + 1)) 4)).heap.size = w.heap.size + 2 := by rw [sz_alloc, sz_alloc]
  have HRow : Hid (∀ W, Below (w.heap.size + 2) ((w.alloc (.cells #[.int .i64 2, .slice sa 0 sc, .int .i64 0, .int .i64 0] 58)).alloc (.cells (madeCells #[.bool false] (bs.length + 1)) 4)) W → W.cell? ⟨w.heap.size, 0, none⟩ = some (.int .i64 2)) := fun W hW => (hW.cell (p := ⟨w.heap.size, 0, none⟩) (by show w.heap.size < w.heap.size + 2; omega)).trans (((below1 _ _).cell (p := ⟨w.heap.size, 0, none⟩) (by rw [sz_alloc]; exact Nat.lt_succ_self _)).trans ((pushd_alloc w _).news 0 _ rfl))
  have HE1 := hide (hbr.below hb2 (Nat.le_refl _))
  have HB2 := hide hb2
  clear hvL hvR hv hv0 hl hr hlv hbs hbr hb2 h0 hA hB
  go_enter Tryd.func22, Tryd.ntmps22
  go_wp2_with fail
  refine (l1start_bin _ l r cr _ _ _ sr (by exact (unhide Hv0).below (unhide HB2) (Nat.le_refl _)) (by omega) rfl).mono ?_
  rintro e w1 ⟨rfl, rfl⟩
  go_wp2_with fail
  obtain ⟨W0, hW0⟩ : ∃ W0, W0 = (w.alloc (.cells #[.int .i64 2, .slice sa 0 sc, .int .i64 0, .int .i64 0] 58)).alloc (.cells (madeCells #[.bool false] (bs.length + 1)) 4) := ⟨_, rfl⟩
  rw [← hW0] at HB2 HE1 HRow hz0 H0 ⊢
  have hz0' : w.heap.size + 2 ≤ W0.heap.size := by omega
  clear hz0 c0 c1 c2 c3 hW0 hmk
  refine (unhide HHl _ _ bq F _ ((unhide HvL).below (unhide HB2) (Nat.le_refl _)) (by omega) ((unhide Hlv).below (unhide HB2) (Nat.le_refl _)) (unhide Hbs) (unhide HE1)).mono ?_
  rintro e w1 ⟨g1, G1, rfl, hg1, hr1, he1, hb1⟩
  have HB1 : Hid (Below w.heap.size w w1) := (unhide HB2).trans (hb1.mono (by omega))
  have k0 := unhide HRow w1 (hb1.mono (by omega))
  have HR1 := hide hr1
  have HED1 := hide he1
  have H1 := hide ((unhide H0).below hb1 (Nat.le_refl _))
  have hz1 := hb1.size
  clear hr1 he1 hb1
  go_wp2_with fail
  refine (unhide HHr _ _ g1 G1 _ ((unhide HvR).below (unhide HB1) (Nat.le_refl _)) (by omega) ((unhide Hlv).below (unhide HB1) (Nat.le_refl _)) (unhide Hbs) (unhide HR1)).mono ?_
  rintro e w2 ⟨g2, G2, rfl, hg2, hr2, he2, hb2⟩
  have HB2 : Hid (Below w.heap.size w w2) := (unhide HB1).trans (hb2.mono (by omega))
  have HR2 := hide hr2
  have HED2 := hide he2
  clear hr2 he2 hb2
  go_wp2
  go_ret
  refine ⟨g2, G2, rfl, by omega, unhide HR2, fun j hj => ?_, unhide HB2⟩
  rw [unhide HED2 j hj]
  constructor
  · rintro ⟨m, h1, h2⟩
    have := unhide HBB _ _ h2
    obtain ⟨i, h3, h4⟩ := (unhide HED1 m (by omega)).1 h1
    exact ⟨i, h3, m, h4, h2⟩
  · rintro ⟨i, h3, m, h4, h2⟩
    have := unhide HBB _ _ h2
    exact ⟨m, (unhide HED1 m (by omega)).2 ⟨i, h3, h4⟩, h2⟩

set_option maxHeartbeats 8000000 in
set_option maxRecDepth 100000 in
theorem en_alt (bs : List Int) (l r : List El) (A B : Rl) (cr : Int) (sr : SegM r cr) (hA : RB bs.length A) (hB : RB bs.length B) (hl : EnS bs l A) (hr : EnS bs r B) : EnS bs (l ++ r ++ [⟨3, [], 0, 0⟩]) (rAlt A B) := by
  intro v lv bq F w hv hlen hlv hbs hbr
  have hv0 := hv
  obtain ⟨a, cp, rfl, -, -⟩ := id hv
  obtain ⟨hlen2, hcap, b, off, rfl, hbn, hel⟩ := hv.last
  rw [hlen2] at hv hv0 hcap ⊢
  simp only [List.length_append, List.length_singleton] at hv hv0 hlen hlen2 hel hcap ⊢
  unfold maxLen at hcap
  obtain ⟨i1, i2, i3, sv, c0, c1, c2, c3, hints⟩ := hel
  obtain ⟨sa, sc, rfl, -, -, -⟩ := id hints
  simp only at c0 c2 c3
  obtain ⟨la, lc, rfl, -, -⟩ := id hlv
  clear hlen2 i1 i2 i3 hints
  have e1 : (((l.length + r.length + 1 : Nat) : Int) - 1) = ((l.length + r.length : Nat) : Int) := by omega
  have hvL : ElsAt 0 w.heap.size w (.slice (some ⟨b, off, none⟩) l.length cp) (l) := by rw [List.append_assoc] at hv0; exact hv0.pre
  have hvR := hv0.mid (cap' := cp - l.length) (by unfold maxLen; omega)
  have f5 : l.length + r.length - l.length = r.length := by omega
  have HvL := hide hvL
  have HvR := hide hvR
  have Hv0 := hide hv0
  have HHl := hide hl
  have HHr := hide hr
  have Hlv := hide hlv
  have Hbs := hide hbs
  have hn := hbs.1
  have HA := hide hA
  have HBB := hide hB
  obtain ⟨n, hnn⟩ : ∃ n, n = bs.length := ⟨_, rfl⟩
  have hmk := run_make_row' (P := Tryd.prog) 56 4 (.bool false) 1 Tryd.underlying56 Tryd.zinBoolM rfl .i64 .i64 (bs.length + 1) (by omega) (by omega)
  simp only [Int.natCast_add, Int.natCast_one] at hmk
  have hb2 := below2 w (.cells #[.int .i64 3, .slice sa 0 sc, .int .i64 0, .int .i64 0] 58) (.cells (madeCells #[.bool false] (bs.length + 1)) 4)
  have h0 := br_made (w.alloc (.cells #[.int .i64 3, .slice sa 0 sc, .int .i64 0, .int .i64 0] 58)) bs.length
  rw [sz_alloc] at h0
  have H0 := hide h0
  have hz0 : ((w.alloc (.cells #[.int .i64 3, .slice sa 0 sc, .int .i64 0, .int .i64 0] 58)).alloc (.cells (madeCells #[.bool false] (bs.length + 1)) 4)).heap.size = w.heap.size + 2 := by rw [sz_alloc, sz_alloc]
  have HRow : Hid (∀ W, Below (w.heap.size + 2) ((w.alloc (.cells #[.int .i64 3, .slice sa 0 sc, .int .i64 0, .int .i64 0] 58)).alloc (.cells (madeCells #[.bool false] (bs.length + 1)) 4)) W → W.cell? ⟨w.heap.size, 0, none⟩ = some (.int .i64 3)) := fun W hW => (hW.cell (p := ⟨w.heap.size, 0, none⟩) (by show w.heap.size < w.heap.size + 2; omega)).trans (((below1 _ _).cell (p := ⟨w.heap.size, 0, none⟩) (by rw [sz_alloc]; exact Nat.lt_succ_self _)).trans ((pushd_alloc w _).news 0 _ rfl))
  have HE1 := hide (hbr.below hb2 (Nat.le_refl _))
  have HB2 := hide hb2
  clear hvL hvR hv hv0 hl hr hlv hbs hbr hb2 h0 hA hB
  go_enter Tryd.func22, Tryd.ntmps22
  go_wp2_with fail
  refine (l1start_bin _ l r cr _ _ _ sr (by exact (unhide Hv0).below (unhide HB2) (Nat.le_refl _)) (by omega) rfl).mono ?_
  rintro e w1 ⟨rfl, rfl⟩
  go_wp2_with fail
  obtain ⟨W0, hW0⟩ : ∃ W0, W0 = (w.alloc (.cells #[.int .i64 3, .slice sa 0 sc, .int .i64 0, .int .i64 0] 58)).alloc (.cells (madeCells #[.bool false] (bs.length + 1)) 4) := ⟨_, rfl⟩
  rw [← hW0] at HB2 HE1 HRow hz0 H0 ⊢
  have hz0' : w.heap.size + 2 ≤ W0.heap.size := by omega
  clear hz0 c0 c1 c2 c3 hW0 hmk
  refine (unhide HHl _ _ bq F _ ((unhide HvL).below (unhide HB2) (Nat.le_refl _)) (by omega) ((unhide Hlv).below (unhide HB2) (Nat.le_refl _)) (unhide Hbs) (unhide HE1)).mono ?_
  rintro e w1 ⟨g1, G1, rfl, hg1, hr1, he1, hb1⟩
  have HB1 : Hid (Below w.heap.size w w1) := (unhide HB2).trans (hb1.mono (by omega))
  have k0 := unhide HRow w1 (hb1.mono (by omega))
  have HR1 := hide hr1
  have HED1 := hide he1
  have H1 := hide ((unhide H0).below hb1 (Nat.le_refl _))
  have hz1 := hb1.size
  have HBRF := (unhide HE1).below hb1 (Nat.le_refl _)
  clear hr1 he1 hb1
  go_wp2_with fail
  refine (unhide HHr _ _ bq F _ ((unhide HvR).below (unhide HB1) (Nat.le_refl _)) (by omega) ((unhide Hlv).below (unhide HB1) (Nat.le_refl _)) (unhide Hbs) (HBRF)).mono ?_
  rintro e w2 ⟨g2, G2, rfl, hg2, hr2, he2, hb2⟩
  have HB2 : Hid (Below w.heap.size w w2) := (unhide HB1).trans (hb2.mono (by omega))
  have HR2 := hide hr2
  have HED2 := hide he2
  have HR1' := hide ((unhide HR1).below hb2 (Nat.le_refl _))
  have H2 := hide ((unhide H1).below hb2 (Nat.le_refl _))
  have hz2 := hb2.size
  have hg1l := (unhide HR1).lt
  have hg2l := hr2.lt
  clear hr2 he2 hb2 HR1 H1 HB1
  go_wp2_with fail
  go_loopw [14] (fun iv wr => ∃ (i : Nat), i ≤ bs.length + 1 ∧ iv = .int .i64 i ∧ BR wr bs.length (w.heap.size + 1) (fun j => decide (j < i) && (G1 j || G2 j)) ∧ BR wr bs.length g1 G1 ∧ BR wr bs.length g2 G2 ∧ Below w.heap.size w wr) (fun iv _ => bs.length + 1 - (intOf iv).toNat)
  case atStart => exact ⟨0, Nat.zero_le _, rfl, (unhide H2).same (fun j _ => by simp), unhide HR1', unhide HR2, unhide HB2⟩
  case round =>
    clear HR2 HR1' H2 HB2 k0
    obtain ⟨i, hi, rfl, hO, hG1, hG2, hB⟩ := hrel
    have HO := hide hO
    have HG1 := hide hG1
    have HG2 := hide hG2
    by_cases hlt : i < bs.length + 1
    · have hlt' : (i : Int) ≤ (bs.length : Int) := by omega
      have hlt2 : (i : Int) < (bs.length : Int) + 1 := by omega
      have d1 := World.rowIs.cell hG1 hlt
      have d2 := World.rowIs.cell hG2 hlt
      have d3 := World.rowIs.cell hO hlt
      have f3 := World.rowIs.frozen hO i
      clear hO hG1 hG2
      have hFIN : ∀ r : Bool, (r = (G1 i || G2 i)) → ∀ W : World, W = wr.setCell ⟨w.heap.size + 1, i, none⟩ (.bool r) → ∃ (i' : Nat), i' ≤ bs.length + 1 ∧ (Value.int .i64 ((i : Int) + 1)) = .int .i64 i' ∧ BR W bs.length (w.heap.size + 1) (fun j => decide (j < i') && (G1 j || G2 j)) ∧ BR W bs.length g1 G1 ∧ BR W bs.length g2 G2 ∧ Below w.heap.size w W := by
        intro r hr W hW
        subst hW hr
        refine ⟨i + 1, by omega, by simp, ?_, World.rowIs.setOther (unhide HG1) (by show g1 ≠ w.heap.size + 1; omega) _, World.rowIs.setOther (unhide HG2) (by show g2 ≠ w.heap.size + 1; omega) _, bput hB (by omega) _⟩
        refine World.rowIs.congr (World.rowIs.set (unhide HO) i _) (fun j hj => ?_)
        by_cases e : j = i
        · subst e; simp
        · have : (j < i + 1) ↔ (j < i) := by omega
          simp [e, this]
      have HFIN := hide hFIN
      clear hFIN
      cases h1 : G1 i with
      | true =>
        rw [h1] at d1
        have HR := hide (unhide HFIN true (by rw [h1]; rfl))
        clear h1 HFIN
        go_wp2
        go_roundw
        case rel => exact unhide HR _ rfl
        case measure => simp [intOf]; omega
      | false =>
        rw [h1] at d1
        have HR := hide (unhide HFIN (G2 i) (by rw [h1]; rfl))
        clear h1 HFIN
        go_wp2
        go_roundw
        case rel => exact unhide HR _ rfl
        case measure => simp [intOf]; omega
    · have e : i = bs.length + 1 := by omega
      subst e
      have HB := hide hB
      clear hO hG1 hG2 hB
      go_wp2
      go_ret
      refine ⟨_, _, rfl, by omega, unhide HO, fun j hj => ?_, unhide HB⟩
      simp only [show j < bs.length + 1 by omega, decide_true, Bool.true_and]
      rw [Bool.or_eq_true, unhide HED1 j hj, unhide HED2 j hj]
      constructor
      · rintro (⟨i, h1, h2⟩ | ⟨i, h1, h2⟩)
        · exact ⟨i, h1, Or.inl h2⟩
        · exact ⟨i, h1, Or.inr h2⟩
      · rintro ⟨i, h1, h2 | h2⟩
        · exact Or.inl ⟨i, h1, h2⟩
        · exact Or.inr ⟨i, h1, h2⟩

end Go.Proofs.YtfdkdjngeomcdaaDoor
