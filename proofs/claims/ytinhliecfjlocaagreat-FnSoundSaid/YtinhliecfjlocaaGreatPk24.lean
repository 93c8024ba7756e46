import Derived.Test.YtinhliecfjlocaaGreatPk20
namespace Go.Proofs.YtinhliecfjlocaaGreat
open Go.RowKit
set_option maxHeartbeats 8000000 in
set_option maxRecDepth 100000 in
theorem en_cat (bs : List Int) (l r : List El) (A B : Rl) (cr : Int) (sr : SegM r cr) (hA : RB bs.length A) (hB : RB bs.length B) (hl : EnS bs l A) (hr : EnS bs r B) : EnS bs (l ++ r ++ [⟨2, [], 0, 0⟩]) (rCat A B) := by
  intro v lv bq F w hv hlen hlv hbs hbr
  have hv0 := hv
  obtain ⟨a, cp, rfl, -, -⟩ := id hv
  obtain ⟨hlen2, hcap, b, off, rfl, hbn, hel⟩ := hv.last
  rw [hlen2] at hv hv0 hcap ⊢
  simp only [List.length_append, List.length_singleton] at hv hv0 hlen hlen2 hel hcap ⊢
  unfold maxLen at hcap
  obtain ⟨i1, i2, i3, sv, c0, c1, c2, c3, hints⟩ := hel
  obtain ⟨sa, sc, rfl, -, -, -⟩ := id hints
  simp only at c0 c2 c3
  obtain ⟨la, lc, rfl, -, -⟩ := id hlv
  clear hlen2 i1 i2 i3 hints
  have e1 : (((l.length + r.length + 1 : Nat) : Int) - 1) = ((l.length + r.length : Nat) : Int) := by omega
  have hvL : ElsAt 0 w.heap.size w (.slice (some ⟨b, off, none⟩) l.length cp) (l) := by rw [List.append_assoc] at hv0; exact hv0.pre
  have hvR := hv0.mid (cap' := cp - l.length) (by unfold maxLen; omega)
  have f5 : l.length + r.length - l.length = r.length := by omega
  have HvL := hide hvL
  have HvR := hide hvR
  have Hv0 := hide hv0
  have HHl := hide hl
  have HHr := hide hr
  have Hlv := hide hlv
  have Hbs := hide hbs
  have hn := hbs.1
  have HA := hide hA
  have HBB := hide hB
  obtain ⟨n, hnn⟩ : ∃ n, n = bs.length := ⟨_, rfl⟩
  have hmk := run_make_row' (P := Tryz.prog) 79 4 (.bool false) 1 Tryz.underlying79 Tryz.zinBoolM rfl .i64 .i64 (bs.length + 1) (by omega) (by omega)
  simp only [Int.natCast_add, Int.natCast_one] at hmk
  have hb2 := below2 w (.cells #[.int .i64 2, .slice sa 0 sc, .int .i64 0, .int .i64 0] 114) (.cells (madeCells #[.bool false] (bs.length + 1)) 4)
  have h0 := br_made (w.alloc (.cells #[.int .i64 2, .slice sa 0 sc, .int .i64 0, .int .i64 0] 114)) bs.length
  rw [sz_alloc] at h0
  have H0 := hide h0
  have hz0 : ((w.alloc (.cells #[.int .i64 2, .slice sa 0 sc, .int .i64 0, .int .i64 0] 114)).alloc (.cells (madeCells #[.bool false] (bs.length + 1)) 4)).heap.size = w.heap.size + 2 := by rw [sz_alloc, sz_alloc]
  have HRow : Hid (∀ W, Below (w.heap.size + 2) ((w.alloc (.cells #[.int .i64 2, .slice sa 0 sc, .int .i64 0, .int .i64 0] 114)).alloc (.cells (madeCells #[.bool false] (bs.length + 1)) 4)) W → W.cell? ⟨w.heap.size, 0, none⟩ = some (.int .i64 2)) := fun W hW => (hW.cell (p := ⟨w.heap.size, 0, none⟩) (by show w.heap.size < w.heap.size + 2; omega)).trans (((below1 _ _).cell (p := ⟨w.heap.size, 0, none⟩) (by rw [sz_alloc]; exact Nat.lt_succ_self _)).trans ((pushd_alloc w _).news 0 _ rfl))
  have HE1 := hide (hbr.below hb2 (Nat.le_refl _))
  have HB2 := hide hb2
  clear hvL hvR hv hv0 hl hr hlv hbs hbr hb2 h0 hA hB
  go_enter Tryz.func41, Tryz.ntmps41
  go_wp2_with fail
  refine (l1start_bin _ l r cr _ _ _ sr (by exact (unhide Hv0).below (unhide HB2) (Nat.le_refl _)) (by omega) rfl).mono ?_
  rintro e w1 ⟨rfl, rfl⟩
  go_wp2_with fail
  obtain ⟨W0, hW0⟩ : ∃ W0, W0 = (w.alloc (.cells #[.int .i64 2, .slice sa 0 sc, .int .i64 0, .int .i64 0] 114)).alloc (.cells (madeCells #[.bool false] (bs.length + 1)) 4) := ⟨_, rfl⟩
  rw [← hW0] at HB2 HE1 HRow hz0 H0 ⊢
  have hz0' : w.heap.size + 2 ≤ W0.heap.size := by omega
  clear hz0 c0 c1 c2 c3 hW0 hmk
  refine (unhide HHl _ _ bq F _ ((unhide HvL).below (unhide HB2) (Nat.le_refl _)) (by omega) ((unhide Hlv).below (unhide HB2) (Nat.le_refl _)) (unhide Hbs) (unhide HE1)).mono ?_
  rintro e w1 ⟨g1, G1, rfl, hg1, hr1, he1, hb1⟩
  have HB1 : Hid (Below w.heap.size w w1) := (unhide HB2).trans (hb1.mono (by omega))
  have k0 := unhide HRow w1 (hb1.mono (by omega))
  have HR1 := hide hr1
  have HED1 := hide he1
  have H1 := hide ((unhide H0).below hb1 (Nat.le_refl _))
  have hz1 := hb1.size
  clear hr1 he1 hb1
  go_wp2_with fail
  refine (unhide HHr _ _ g1 G1 _ ((unhide HvR).below (unhide HB1) (Nat.le_refl _)) (by omega) ((unhide Hlv).below (unhide HB1) (Nat.le_refl _)) (unhide Hbs) (unhide HR1)).mono ?_
  rintro e w2 ⟨g2, G2, rfl, hg2, hr2, he2, hb2⟩
  have HB2 : Hid (Below w.heap.size w w2) := (unhide HB1).trans (hb2.mono (by omega))
  have HR2 := hide hr2
  have HED2 := hide he2
  clear hr2 he2 hb2
  go_wp2
  go_ret
  refine ⟨g2, G2, rfl, by omega, unhide HR2, fun j hj => ?_, unhide HB2⟩
  rw [unhide HED2 j hj]
  constructor
  · rintro ⟨m, h1, h2⟩
    have := unhide HBB _ _ h2
    obtain ⟨i, h3, h4⟩ := (unhide HED1 m (by omega)).1 h1
    exact ⟨i, h3, m, h4, h2⟩
  · rintro ⟨i, h3, m, h4, h2⟩
    have := unhide HBB _ _ h2
    exact ⟨m, (unhide HED1 m (by omega)).2 ⟨i, h3, h4⟩, h2⟩
set_option maxHeartbeats 8000000 in
set_option maxRecDepth 100000 in
theorem en_alt (bs : List Int) (l r : List El) (A B : Rl) (cr : Int) (sr : SegM r cr) (hA : RB bs.length A) (hB : RB bs.length B) (hl : EnS bs l A) (hr : EnS bs r B) : EnS bs (l ++ r ++ [⟨3, [], 0, 0⟩]) (rAlt A B) := by
  intro v lv bq F w hv hlen hlv hbs hbr
  have hv0 := hv
  obtain ⟨a, cp, rfl, -, -⟩ := id hv
  obtain ⟨hlen2, hcap, b, off, rfl, hbn, hel⟩ := hv.last
  rw [hlen2] at hv hv0 hcap ⊢
  simp only [List.length_append, List.length_singleton] at hv hv0 hlen hlen2 hel hcap ⊢
  unfold maxLen at hcap
  obtain ⟨i1, i2, i3, sv, c0, c1, c2, c3, hints⟩ := hel
  obtain ⟨sa, sc, rfl, -, -, -⟩ := id hints
  simp only at c0 c2 c3
  obtain ⟨la, lc, rfl, -, -⟩ := id hlv
  clear hlen2 i1 i2 i3 hints
  have e1 : (((l.length + r.length + 1 : Nat) : Int) - 1) = ((l.length + r.length : Nat) : Int) := by omega
  have hvL : ElsAt 0 w.heap.size w (.slice (some ⟨b, off, none⟩) l.length cp) (l) := by rw [List.append_assoc] at hv0; exact hv0.pre
  have hvR := hv0.mid (cap' := cp - l.length) (by unfold maxLen; omega)
  have f5 : l.length + r.length - l.length = r.length := by omega
  have HvL := hide hvL
  have HvR := hide hvR
  have Hv0 := hide hv0
  have HHl := hide hl
  have HHr := hide hr
  have Hlv := hide hlv
  have Hbs := hide hbs
  have hn := hbs.1
  have HA := hide hA
  have HBB := hide hB
  obtain ⟨n, hnn⟩ : ∃ n, n = bs.length := ⟨_, rfl⟩
  have hmk := run_make_row' (P := Tryz.prog) 79 4 (.bool false) 1 Tryz.underlying79 Tryz.zinBoolM rfl .i64 .i64 (bs.length + 1) (by omega) (by omega)
  simp only [Int.natCast_add, Int.natCast_one] at hmk
  have hb2 := below2 w (.cells #[.int .i64 3, .slice sa 0 sc, .int .i64 0, .int .i64 0] 114) (.cells (madeCells #[.bool false] (bs.length + 1)) 4)
  have h0 := br_made (w.alloc (.cells #[.int .i64 3, .slice sa 0 sc, .int .i64 0, .int .i64 0] 114)) bs.length
  rw [sz_alloc] at h0
  have H0 := hide h0
  have hz0 : ((w.alloc (.cells #[.int .i64 3, .slice sa 0 sc, .int .i64 0, .int .i64 0] 114)).alloc (.cells (madeCells #[.bool false] (bs.length + 1)) 4)).heap.size = w.heap.size + 2 := by rw [sz_alloc, sz_alloc]
  have HRow : Hid (∀ W, Below (w.heap.size + 2) ((w.alloc (.cells #[.int .i64 3, .slice sa 0 sc, .int .i64 0, .int .i64 0] 114)).alloc (.cells (madeCells #[.bool false] (bs.length + 1)) 4)) W → W.cell? ⟨w.heap.size, 0, none⟩ = some (.int .i64 3)) := fun W hW => (hW.cell (p := ⟨w.heap.size, 0, none⟩) (by show w.heap.size < w.heap.size + 2; omega)).trans (((below1 _ _).cell (p := ⟨w.heap.size, 0, none⟩) (by rw [sz_alloc]; exact Nat.lt_succ_self _)).trans ((pushd_alloc w _).news 0 _ rfl))
  have HE1 := hide (hbr.below hb2 (Nat.le_refl _))
  have HB2 := hide hb2
  clear hvL hvR hv hv0 hl hr hlv hbs hbr hb2 h0 hA hB
  go_enter Tryz.func41, Tryz.ntmps41
  go_wp2_with fail
  refine (l1start_bin _ l r cr _ _ _ sr (by exact (unhide Hv0).below (unhide HB2) (Nat.le_refl _)) (by omega) rfl).mono ?_
  rintro e w1 ⟨rfl, rfl⟩
  go_wp2_with fail
  obtain ⟨W0, hW0⟩ : ∃ W0, W0 = (w.alloc (.cells #[.int .i64 3, .slice sa 0 sc, .int .i64 0, .int .i64 0] 114)).alloc (.cells (madeCells #[.bool false] (bs.length + 1)) 4) := ⟨_, rfl⟩
  rw [← hW0] at HB2 HE1 HRow hz0 H0 ⊢
  have hz0' : w.heap.size + 2 ≤ W0.heap.size := by omega
  clear hz0 c0 c1 c2 c3 hW0 hmk
  refine (unhide HHl _ _ bq F _ ((unhide HvL).below (unhide HB2) (Nat.le_refl _)) (by omega) ((unhide Hlv).below (unhide HB2) (Nat.le_refl _)) (unhide Hbs) (unhide HE1)).mono ?_
  rintro e w1 ⟨g1, G1, rfl, hg1, hr1, he1, hb1⟩
  have HB1 : Hid (Below w.heap.size w w1) := (unhide HB2).trans (hb1.mono (by omega))
  have k0 := unhide HRow w1 (hb1.mono (by omega))
  have HR1 := hide hr1
  have HED1 := hide he1
  have H1 := hide ((unhide H0).below hb1 (Nat.le_refl _))
  have hz1 := hb1.size
  have HBRF := (unhide HE1).below hb1 (Nat.le_refl _)
  clear hr1 he1 hb1
  go_wp2_with fail
  refine (unhide HHr _ _ bq F _ ((unhide HvR).below (unhide HB1) (Nat.le_refl _)) (by omega) ((unhide Hlv).below (unhide HB1) (Nat.le_refl _)) (unhide Hbs) (HBRF)).mono ?_
  rintro e w2 ⟨g2, G2, rfl, hg2, hr2, he2, hb2⟩
  have HB2 : Hid (Below w.heap.size w w2) := (unhide HB1).trans (hb2.mono (by omega))
  have HR2 := hide hr2
  have HED2 := hide he2
  have HR1' := hide ((unhide HR1).below hb2 (Nat.le_refl _))
  have H2 := hide ((unhide H1).below hb2 (Nat.le_refl _))
  have hz2 := hb2.size
  have hg1l := (unhide HR1).lt
  have hg2l := hr2.lt
  clear hr2 he2 hb2 HR1 H1 HB1
  go_wp2_with fail
  go_loopw [14] (fun iv wr => ∃ (i : Nat), i ≤ bs.length + 1 ∧ iv = .int .i64 i ∧ BR wr bs.length (w.heap.size + 1) (fun j => decide (j < i) && (G1 j || G2 j)) ∧ BR wr bs.length g1 G1 ∧ BR wr bs.length g2 G2 ∧ Below w.heap.size w wr) (fun iv _ => bs.length + 1 - (intOf iv).toNat)
  case atStart => exact ⟨0, Nat.zero_le _, rfl, (unhide H2).same (fun j _ => by simp), unhide HR1', unhide HR2, unhide HB2⟩
  case round =>
    clear HR2 HR1' H2 HB2 k0
    obtain ⟨i, hi, rfl, hO, hG1, hG2, hB⟩ := hrel
    have HO := hide hO
    have HG1 := hide hG1
    have HG2 := hide hG2
    by_cases hlt : i < bs.length + 1
    · have hlt' : (i : Int) ≤ (bs.length : Int) := by omega
      have hlt2 : (i : Int) < (bs.length : Int) + 1 := by omega
      have d1 := World.rowIs.cell hG1 hlt
      have d2 := World.rowIs.cell hG2 hlt
      have d3 := World.rowIs.cell hO hlt
      have f3 := World.rowIs.frozen hO i
      clear hO hG1 hG2
      have hFIN : ∀ r : Bool, (r = (G1 i || G2 i)) → ∀ W : World, W = wr.setCell ⟨w.heap.size + 1, i, none⟩ (.bool r) → ∃ (i' : Nat), i' ≤ bs.length + 1 ∧ (Value.int .i64 ((i : Int) + 1)) = .int .i64 i' ∧ BR W bs.length (w.heap.size + 1) (fun j => decide (j < i') && (G1 j || G2 j)) ∧ BR W bs.length g1 G1 ∧ BR W bs.length g2 G2 ∧ Below w.heap.size w W := by
        intro r hr W hW
        subst hW hr
        refine ⟨i + 1, by omega, by simp, ?_, World.rowIs.setOther (unhide HG1) (by show g1 ≠ w.heap.size + 1; omega) _, World.rowIs.setOther (unhide HG2) (by show g2 ≠ w.heap.size + 1; omega) _, bput hB (by omega) _⟩
        refine World.rowIs.congr (World.rowIs.set (unhide HO) i _) (fun j hj => ?_)
        by_cases e : j = i
        · subst e; simp
        · have : (j < i + 1) ↔ (j < i) := by omega
          simp [e, this]
      have HFIN := hide hFIN
      clear hFIN
      cases h1 : G1 i with
      | true =>
        rw [h1] at d1
        have HR := hide (unhide HFIN true (by rw [h1]; rfl))
        clear h1 HFIN
        go_wp2
        go_roundw
        case rel => exact unhide HR _ rfl
        case measure => simp [intOf]; omega
      | false =>
        rw [h1] at d1
        have HR := hide (unhide HFIN (G2 i) (by rw [h1]; rfl))
        clear h1 HFIN
        go_wp2
        go_roundw
        case rel => exact unhide HR _ rfl
        case measure => simp [intOf]; omega
    · have e : i = bs.length + 1 := by omega
      subst e
      have HB := hide hB
      clear hO hG1 hG2 hB
      go_wp2
      go_ret
      refine ⟨_, _, rfl, by omega, unhide HO, fun j hj => ?_, unhide HB⟩
      simp only [show j < bs.length + 1 by omega, decide_true, Bool.true_and]
      rw [Bool.or_eq_true, unhide HED1 j hj, unhide HED2 j hj]
      constructor
      · rintro (⟨i, h1, h2⟩ | ⟨i, h1, h2⟩)
        · exact ⟨i, h1, Or.inl h2⟩
        · exact ⟨i, h1, Or.inr h2⟩
      · rintro ⟨i, h1, h2 | h2⟩
        · exact Or.inl ⟨i, h1, h2⟩
        · exact Or.inr ⟨i, h1, h2⟩
theorem EndsOf.eps {n : Nat} {F : Nat → Bool} : EndsOf n (rEps n) F F := fun j hj => ⟨fun h => ⟨j, h, rfl, hj⟩, fun ⟨_, h, e, _⟩ => e ▸ h⟩
theorem EndsOf.cat {n : Nat} {A B : Rl} {F G H : Nat → Bool} (hB : RB n B) (h : EndsOf n A F G) (k : EndsOf n B G H) : EndsOf n (rCat A B) F H := fun j hj => by
  rw [k j hj]
  constructor
  · rintro ⟨m, h1, h2⟩
    have := hB _ _ h2
    obtain ⟨i, h3, h4⟩ := (h m (by omega)).1 h1
    exact ⟨i, h3, m, h4, h2⟩
  · rintro ⟨i, h3, m, h4, h2⟩
    have := hB _ _ h2
    exact ⟨m, (h m (by omega)).2 ⟨i, h3, h4⟩, h2⟩
structure MoreI (n : Nat) (A : Rl) (m t : Nat) (F G H : Nat → Bool) : Prop where
  all : ∀ j, j ≤ n → (G j = true ↔ ∃ k, k ≤ t ∧ ∃ i, F i = true ∧ rPow n A (m + k) i j)
  new : ∀ j, j ≤ n → H j = true → ∃ i, F i = true ∧ rPow n A (m + t) i j
  old : ∀ i j, j ≤ n → F i = true → rPow n A (m + t) i j → H j = true ∨ ∃ k, k < t ∧ ∃ i, F i = true ∧ rPow n A (m + k) i j
theorem MoreI.start {n m : Nat} {A : Rl} {F G : Nat → Bool} (h : EndsOf n (rPow n A m) F G) : MoreI n A m 0 F G G where
  all := fun j hj => by
    rw [h j hj]
    exact ⟨fun ⟨i, h1, h2⟩ => ⟨0, Nat.le_refl _, i, h1, h2⟩, fun ⟨k, hk, i, h1, h2⟩ => ⟨i, h1, by obtain rfl : k = 0 := (by omega); exact h2⟩⟩
  new := fun j hj hg => (h j hj).1 hg
  old := fun i j hj hf hr => Or.inl ((h j hj).2 ⟨i, hf, hr⟩)
theorem MoreI.step {n m t : Nat} {A : Rl} {F G H N : Nat → Bool} (hA : RB n A) (h : MoreI n A m t F G H) (hN : EndsOf n A H N) : MoreI n A m (t + 1) F (fun j => G j || N j) (fun j => N j && !G j) where
  all := fun j hj => by
    simp only [Bool.or_eq_true]
    constructor
    · rintro (h1 | h1)
      · obtain ⟨k, hk, h2⟩ := (h.all j hj).1 h1
        exact ⟨k, by omega, h2⟩
      · obtain ⟨q, h2, h3⟩ := (hN j hj).1 h1
        have := hA _ _ h3
        obtain ⟨i, h4, h5⟩ := h.new q (by omega) h2
        exact ⟨t + 1, Nat.le_refl _, i, h4, q, h5, h3⟩
    · rintro ⟨k, hk, i, h4, h5⟩
      by_cases e : k ≤ t
      · exact Or.inl ((h.all j hj).2 ⟨k, e, i, h4, h5⟩)
      · obtain rfl : k = t + 1 := by omega
        obtain ⟨q, h6, h7⟩ := (show rCat (rPow n A (m + t)) A i j from h5)
        have := hA _ _ h7
        rcases h.old i q (by omega) h4 h6 with h8 | ⟨k, hk, i', h8, h9⟩
        · exact Or.inr ((hN j hj).2 ⟨q, h8, h7⟩)
        · exact Or.inl ((h.all j hj).2 ⟨k + 1, by omega, i', h8, q, h9, h7⟩)
  new := fun j hj hg => by
    simp only [Bool.and_eq_true] at hg
    obtain ⟨q, h2, h3⟩ := (hN j hj).1 hg.1
    have := hA _ _ h3
    obtain ⟨i, h4, h5⟩ := h.new q (by omega) h2
    exact ⟨i, h4, q, h5, h3⟩
  old := fun i j hj hf hr => by
    simp only [Bool.and_eq_true, Bool.not_eq_true']
    obtain ⟨q, h6, h7⟩ := (show rCat (rPow n A (m + t)) A i j from hr)
    have := hA _ _ h7
    by_cases e : G j = true
    · obtain ⟨k, hk, h2⟩ := (h.all j hj).1 e
      exact Or.inr ⟨k, by omega, h2⟩
    · rw [Bool.not_eq_true] at e
      left
      refine ⟨?_, e⟩
      rcases h.old i q (by omega) hf h6 with h8 | ⟨k, hk, i', h8, h9⟩
      · exact (hN j hj).2 ⟨q, h8, h7⟩
      · have : G j = true := (h.all j hj).2 ⟨k + 1, by omega, i', h8, q, h9, h7⟩
        rw [e] at this; cases this
theorem MoreI.stop {n m t : Nat} {A : Rl} {F G H : Nat → Bool} (hA : RB n A) (h : MoreI n A m t F G H) (hno : ∀ j, j ≤ n → H j = false) : ∀ d i j, F i = true → rPow n A (m + d) i j → ∃ k, k ≤ t ∧ ∃ i, F i = true ∧ rPow n A (m + k) i j := by
  intro d
  induction d with
  | zero => intro i j hf hr; exact ⟨0, Nat.zero_le _, i, hf, hr⟩
  | succ d ih =>
    intro i j hf hr
    obtain ⟨q, h6, h7⟩ := (show rCat (rPow n A (m + d)) A i j from hr)
    have hq := hA _ _ h7
    obtain ⟨k, hk, i', h8, h9⟩ := ih i q hf h6
    by_cases e : k < t
    · exact ⟨k + 1, by omega, i', h8, q, h9, h7⟩
    · obtain rfl : k = t := by omega
      rcases h.old i' q (by omega) h8 h9 with h10 | ⟨k', hk', i'', h11, h12⟩
      · rw [hno q (by omega)] at h10; cases h10
      · exact ⟨k' + 1, by omega, i'', h11, q, h12, h7⟩
theorem MoreI.ends {n m t : Nat} {A : Rl} {F G H : Nat → Bool} {mx : Int} (hA : RB n A) (h : MoreI n A m t F G H) (hin : mx = -1 ∨ ((m + t : Nat) : Int) ≤ mx)
    (hend : (∀ j, j ≤ n → H j = false) ∨ (mx ≠ -1 ∧ ((m + t : Nat) : Int) = mx)) : EndsOf n (rRep n A m mx) F G := fun j hj => by
  rw [h.all j hj]
  constructor
  · rintro ⟨k, hk, i, h1, h2⟩
    exact ⟨i, h1, m + k, by omega, by omega, h2⟩
  · rintro ⟨i, h1, k, h2, h3, h4⟩
    obtain ⟨d, rfl⟩ : ∃ d, k = m + d := ⟨k - m, by omega⟩
    rcases hend with hno | ⟨e1, e2⟩
    · exact h.stop hA hno d i j h1 h4
    · exact ⟨d, by omega, i, h1, h4⟩
def unset (G : Nat → Bool) : Nat → Nat
  | 0 => 0
  | k + 1 => unset G k + (if G k then 0 else 1)
theorem unset_le {G N : Nat → Bool} : ∀ k, unset (fun j => G j || N j) k ≤ unset G k
  | 0 => Nat.le_refl _
  | k + 1 => by
    have := unset_le (G := G) (N := N) k
    simp only [unset]
    rcases Bool.eq_false_or_eq_true (G k) with hg | hg <;> rcases Bool.eq_false_or_eq_true (N k) with hn | hn <;> simp only [hg, hn] <;> simp <;> omega
theorem unset_lt {G N : Nat → Bool} : ∀ {k j : Nat}, j < k → N j = true → G j = false → unset (fun j => G j || N j) k < unset G k
  | 0, j, h, _, _ => absurd h (Nat.not_lt_zero _)
  | k + 1, j, h, h1, h2 => by
    simp only [unset]
    by_cases e : j = k
    · subst e
      have := unset_le (G := G) (N := N) j
      simp only [h1, h2]; simp; omega
    · have := unset_lt (G := G) (N := N) (k := k) (j := j) (by omega) h1 h2
      rcases Bool.eq_false_or_eq_true (G k) with hg | hg <;> rcases Bool.eq_false_or_eq_true (N k) with hn | hn <;> simp only [hg, hn] <;> simp <;> omega
def rowG (w : World) (c : Nat) : Nat → Bool := fun j => match w.cell? ⟨c, j, none⟩ with
  | some (.bool b) => b
  | _ => false
theorem rowG_is {w : World} {n c : Nat} {G : Nat → Bool} (h : BR w n c G) {j : Nat} (hj : j ≤ n) : rowG w c j = G j := by
  unfold rowG
  rw [World.rowIs.cell h (by omega)]
theorem unset_congr {F G : Nat → Bool} : ∀ {k : Nat}, (∀ j, j < k → F j = G j) → unset F k = unset G k
  | 0, _ => rfl
  | k + 1, h => by
    simp only [unset]
    rw [unset_congr (fun j hj => h j (by omega)), h k (by omega)]
theorem unset_row {w : World} {n c : Nat} {G : Nat → Bool} (h : BR w n c G) : unset (rowG w c) (n + 1) = unset G (n + 1) := unset_congr (fun j hj => rowG_is h (by omega))
theorem unset_max (G : Nat → Bool) : ∀ k, unset G k ≤ k
  | 0 => Nat.le_refl _
  | k + 1 => by
    have := unset_max G k
    simp only [unset]
    split <;> omega
def bit (v : Value) : Nat := match v with
  | .bool true => 1
  | _ => 0
set_option maxHeartbeats 16000000 in
set_option maxRecDepth 100000 in
theorem en_rep (bs : List Int) (l : List El) (A : Rl) (m : Nat) (mx : Int) (hA : RB bs.length A) (hl : EnS bs l A) (hne : 0 < l.length) (hm : m ≤ 250) (o4 : mx = -1 ∨ ((m : Int) ≤ mx ∧ mx ≤ 250)) : EnS bs (l ++ [⟨4, [], m, mx⟩]) (rRep bs.length A m mx) := by
  intro v lv bq F w hv hlen hlv hbs hbr
  have hv0 := hv
  obtain ⟨a, cp, rfl, -, -⟩ := id hv
  obtain ⟨hlen2, hcap, b, off, rfl, hbn, hel⟩ := hv.last
  rw [hlen2] at hv hv0 hcap ⊢
  simp only [List.length_append, List.length_singleton] at hlen hlen2
  unfold maxLen at hcap
  obtain ⟨i1, i2, i3, sv, c0, c1, c2, c3, hints⟩ := hel
  obtain ⟨sa, sc, rfl, -, -, -⟩ := id hints
  simp only at c0 c2 c3
  obtain ⟨la, lc, rfl, -, -⟩ := id hlv
  clear hlen2 i1 i2 i3 hints
  have hvL : ElsAt 0 w.heap.size w (.slice (some ⟨b, off, none⟩) l.length cp) l := hv0.pre
  have HvL := hide hvL
  have e1 : (((l.length + 1 : Nat) : Int) - 1) = ((l.length : Nat) : Int) := by omega
  have Hlv := hide hlv
  have Hbs := hide hbs
  have HH := hide hl
  have HA := hide hA
  have hn := hbs.1
  have hmk := run_make_row' (P := Tryz.prog) 79 4 (.bool false) 1 Tryz.underlying79 Tryz.zinBoolM rfl .i64 .i64 (bs.length + 1) (by omega) (by omega)
  simp only [Int.natCast_add, Int.natCast_one] at hmk
  have hb2 := below2 w (.cells #[.int .i64 4, .slice sa 0 sc, .int .i64 m, .int .i64 mx] 114) (.cells (madeCells #[.bool false] (bs.length + 1)) 4)
  have h0 := br_made (w.alloc (.cells #[.int .i64 4, .slice sa 0 sc, .int .i64 m, .int .i64 mx] 114)) bs.length
  rw [sz_alloc] at h0
  obtain ⟨w3, hcp, hr3, hob⟩ := copy_bools _ bs.length (w.heap.size + 1) bq _ F h0 (hbr.below hb2 (Nat.le_refl _))
  have hz3 : w.heap.size + 2 ≤ w3.heap.size := by rw [hob.size, sz_alloc, sz_alloc]; omega
  have HB3 : Hid (Below w.heap.size w w3) := hb2.trans (obk_bel hob (by omega))
  have HR3 := hide hr3
  have q2 : w3.cell? ⟨w.heap.size, 2, none⟩ = some (.int .i64 m) := by
    rw [World.cell?_of_block (a := ⟨w.heap.size, 2, none⟩) (hob.block w.heap.size (by omega))]
    exact ((below1 _ _).cell (p := ⟨w.heap.size, 2, none⟩) (by rw [sz_alloc]; exact Nat.lt_succ_self _)).trans ((pushd_alloc w _).news 2 _ rfl)
  have q3 : w3.cell? ⟨w.heap.size, 3, none⟩ = some (.int .i64 mx) := by
    rw [World.cell?_of_block (a := ⟨w.heap.size, 3, none⟩) (hob.block w.heap.size (by omega))]
    exact ((below1 _ _).cell (p := ⟨w.heap.size, 3, none⟩) (by rw [sz_alloc]; exact Nat.lt_succ_self _)).trans ((pushd_alloc w _).news 3 _ rfl)
  have HQ2 := hide q2
  have HQ3 := hide q3
  clear hvL hv hv0 hl hlv hbs hbr hb2 h0 hob hr3 q2 q3 hA
  go_enter Tryz.func41, Tryz.ntmps41
  go_wp2_with fail
  go_loopw [9, 16] (fun ov iv wr => ∃ (k c : Nat) (G : Nat → Bool), k ≤ m ∧ iv = .int .i64 k ∧ ov = vB c bs.length ∧ w.heap.size + 1 ≤ c ∧ BR wr bs.length c G ∧ EndsOf bs.length (rPow bs.length A k) F G ∧ wr.cell? ⟨w.heap.size, 2, none⟩ = some (.int .i64 m) ∧ wr.cell? ⟨w.heap.size, 3, none⟩ = some (.int .i64 mx) ∧ w.heap.size + 2 ≤ wr.heap.size ∧ Below w.heap.size w wr) (fun _ iv _ => m - (intOf iv).toNat)
  case atStart => exact ⟨0, _, F, Nat.zero_le _, rfl, rfl, Nat.le_refl _, unhide HR3, EndsOf.eps, unhide HQ2, unhide HQ3, hz3, unhide HB3⟩
  case round =>
    clear HR3 HQ2 HQ3 hz3 HB3 hcp c0 c1 c2 c3
    obtain ⟨k, c, G, hk, rfl, rfl, hc, hG, hE, q2, q3, hz, hB⟩ := hrel
    have HG := hide hG
    have HE := hide hE
    have HB := hide hB
    clear hG hE hB
    by_cases hlt : k < m
    · have hlt' : (k : Int) < (m : Int) := by omega
      clear hmk
      go_wp2_with fail
      refine (unhide HH _ _ c G _ ((unhide HvL).below (unhide HB) (Nat.le_refl _)) (by omega) ((unhide Hlv).below (unhide HB) (Nat.le_refl _)) (unhide Hbs) (unhide HG)).mono ?_
      rintro e w1 ⟨g1, G1, rfl, hg1, hr1, he1, hb1⟩
      have HB1 : Hid (Below w.heap.size w w1) := (unhide HB).trans (hb1.mono (by omega))
      have HR1 := hide hr1
      have HE1 := hide ((unhide HE).cat (unhide HA) he1)
      have q2' : w1.cell? ⟨w.heap.size, 2, none⟩ = some (.int .i64 m) := (hb1.cell (p := ⟨w.heap.size, 2, none⟩) (by show w.heap.size < _; omega)).trans q2
      have q3' : w1.cell? ⟨w.heap.size, 3, none⟩ = some (.int .i64 mx) := (hb1.cell (p := ⟨w.heap.size, 3, none⟩) (by show w.heap.size < _; omega)).trans q3
      have hz1 := hb1.size
      clear hr1 he1 hb1 q2 q3
      go_wp2
      go_roundw
      case rel => exact ⟨k + 1, g1, G1, by omega, by go_num, rfl, by omega, unhide HR1, unhide HE1, q2', q3', by omega, unhide HB1⟩
      case measure => simp [intOf]; omega
    · have ek : k = m := by omega
      subst ek
      obtain ⟨V, hV⟩ : ∃ V, V = wr := ⟨_, rfl⟩
      rw [← hV] at HG HB q2 q3 hz ⊢
      clear hV
      have hb4 := below1 V (.cells (madeCells #[.bool false] (bs.length + 1)) 4)
      have hcl := (unhide HG).lt
      obtain ⟨w5, hcp, hr5, hob⟩ := copy_bools _ bs.length V.heap.size c _ G (br_made V bs.length) ((unhide HG).below hb4 (Nat.le_refl _))
      have HR5 := hide hr5
      have HG5 := hide (((unhide HG).below hb4 (Nat.le_refl _)).keep (hob.block c (by omega)))
      have HB5 : Hid (Below w.heap.size w w5) := (unhide HB).trans ((hb4.trans (obk_bel hob (Nat.le_refl _))).mono (by omega))
      have hV5 : Below V.heap.size V w5 := hb4.trans (obk_bel hob (Nat.le_refl _))
      have q2' : w5.cell? ⟨w.heap.size, 2, none⟩ = some (.int .i64 k) := (hV5.cell (p := ⟨w.heap.size, 2, none⟩) (by show w.heap.size < _; omega)).trans q2
      have q3' : w5.cell? ⟨w.heap.size, 3, none⟩ = some (.int .i64 mx) := (hV5.cell (p := ⟨w.heap.size, 3, none⟩) (by show w.heap.size < _; omega)).trans q3
      have hz5 := hV5.size
      have HQ2 := hide q2'
      have HQ3 := hide q3'
      clear hr5 hob hb4 hV5 q3 q3'
      go_wp2_with fail
      go_loopw [17, 18, 19] (fun fv sv iv wr => ∃ (t fb : Nat) (G H : Nat → Bool) (x : Bool), iv = .int .i64 ((k + t : Nat) : Int) ∧ sv = .bool x ∧ fv = vB fb bs.length ∧ c ≠ fb ∧ BR wr bs.length c G ∧ BR wr bs.length fb H ∧ MoreI bs.length A k t F G H ∧ (x = true ∨ ∀ j, j ≤ bs.length → H j = false) ∧ (mx = -1 ∨ ((k + t : Nat) : Int) ≤ mx) ∧ (x = true → t + unset G (bs.length + 1) ≤ bs.length + 1) ∧ t ≤ bs.length + 2 ∧ wr.cell? ⟨w.heap.size, 3, none⟩ = some (.int .i64 mx) ∧ w.heap.size + 2 ≤ wr.heap.size ∧ Below w.heap.size w wr) (fun _ sv _ wr => 2 * unset (rowG wr c) (bs.length + 1) + bit sv)
      case atStart => exact ⟨0, V.heap.size, G, G, true, rfl, rfl, rfl, by omega, unhide HG5, unhide HR5, MoreI.start (unhide HE), Or.inl rfl, o4.imp id (fun h => h.1), fun _ => by have := unset_max G (bs.length + 1); omega, by omega, unhide HQ3, by omega, unhide HB5⟩
      case round =>
        clear HR5 HG5 HQ2 HQ3 HB5 hcp q2 q2' HG HB HE hmk
        obtain ⟨t, fb, G2, H, x, rfl, rfl, rfl, hne2, hG2, hH, hMo, hx, hin, hun, ht, q3, hz6, hB⟩ := hrel
        have HG2 := hide hG2
        have HH2 := hide hH
        have HMo := hide hMo
        have HB := hide hB
        have Hun := hide hun
        clear hG2 hH hMo hB hun
        have hFIN : ((∀ j, j ≤ bs.length → H j = false) ∨ (mx ≠ -1 ∧ ((k + t : Nat) : Int) = mx)) → EndRet bs.length (rRep bs.length A k mx) F w wr (.returned (vB c bs.length)) := fun h => ⟨c, G2, rfl, by omega, unhide HG2, (unhide HMo).ends (unhide HA) hin h, unhide HB⟩
        have HFIN := hide hFIN
        clear hFIN
        have hROUND : x = true → (mx = -1 ∨ ((k + t : Nat) : Int) < mx) → ∀ (w1 : World) (g1 : Nat) (N1 : Nat → Bool), wr.heap.size ≤ g1 → BR w1 bs.length g1 N1 → EndsOf bs.length A H N1 → Below wr.heap.size wr w1 →
            Calls Tryz.prog 74 #[vB c bs.length, vB g1 bs.length] w1 fun e w' => ∃ y, e = .returned (.tuple #[vB w1.heap.size bs.length, .bool y]) ∧
              (∃ (t' fb' : Nat) (G' H' : Nat → Bool) (x' : Bool), (Value.int .i64 (((k + t : Nat) : Int) + 1)) = .int .i64 ((k + t' : Nat) : Int) ∧ Value.bool y = .bool x' ∧ vB w1.heap.size bs.length = vB fb' bs.length ∧ c ≠ fb' ∧ BR w' bs.length c G' ∧ BR w' bs.length fb' H' ∧ MoreI bs.length A k t' F G' H' ∧ (x' = true ∨ ∀ j, j ≤ bs.length → H' j = false) ∧ (mx = -1 ∨ ((k + t' : Nat) : Int) ≤ mx) ∧ (x' = true → t' + unset G' (bs.length + 1) ≤ bs.length + 1) ∧ t' ≤ bs.length + 2 ∧ w'.cell? ⟨w.heap.size, 3, none⟩ = some (.int .i64 mx) ∧ w.heap.size + 2 ≤ w'.heap.size ∧ Below w.heap.size w w') ∧
              2 * unset (rowG w' c) (bs.length + 1) + bit (.bool y) < 2 * unset (rowG wr c) (bs.length + 1) + 1 := by
          intro hxt hmx2 w1 g1 N1 hg1 hr1 he1 hb1
          have hcl2 := (unhide HG2).lt
          have hG1 := (unhide HG2).below hb1 (Nat.le_refl _)
          have hz1 := hb1.size
          refine (l2more_any bs.length c g1 G2 N1 w1 hG1 hr1 (by omega) (by omega)).mono ?_
          rintro e w' ⟨y, rfl, hA1, hA2, hy, hfr⟩
          have hu1 := unset_row hA1
          have hu2 := unset_row (unhide HG2)
          have hle := unset_le (G := G2) (N := N1) (bs.length + 1)
          have hlt : y = true → unset (fun j => G2 j || N1 j) (bs.length + 1) < unset G2 (bs.length + 1) := fun h => by
            obtain ⟨j, h1, h2, h3⟩ := hy.1 h
            exact unset_lt (by omega) h2 h3
          have hq : w'.cell? ⟨w.heap.size, 3, none⟩ = some (.int .i64 mx) := by
            rw [World.cell?_of_block (a := ⟨w.heap.size, 3, none⟩) (hfr.block w.heap.size (by rintro (h | h) <;> omega)), hb1.cell (p := ⟨w.heap.size, 3, none⟩) (by show w.heap.size < _; omega)]
            exact q3
          have hfz := hfr.size
          have hux := unhide Hun hxt
          refine ⟨y, rfl, ⟨t + 1, w1.heap.size, _, _, y, rfl, rfl, rfl, by omega, hA1, hA2, (unhide HMo).step (unhide HA) he1, ?_, hmx2.imp id (fun h => by omega), fun h => by have := hlt h; omega, by omega, hq, by omega, (unhide HB).trans ((hb1.mono (by omega)).trans (hfr.below (m := w.heap.size) (fun k2 hk2 => by rintro (h | h) <;> omega)))⟩, ?_⟩
          · cases y with
            | true => exact Or.inl rfl
            | false =>
              right
              intro j hj
              by_cases e : (N1 j && !G2 j) = true
              · simp only [Bool.and_eq_true, Bool.not_eq_true'] at e
                have := hy.2 ⟨j, hj, e.1, e.2⟩
                cases this
              · exact Bool.eq_false_iff.2 e
          · rw [hu1, hu2]
            cases y with
            | true => have := hlt rfl; simp only [bit]; omega
            | false => simp only [bit]; omega
        have HROUND := hide hROUND
        have hRB : mx = -1 ∨ mx ≤ 250 := o4.imp id (fun h => h.2)
        clear hROUND
        cases x with
        | false =>
          have HR := hide (unhide HFIN (Or.inl (hx.resolve_left (by decide))))
          clear hx HFIN HROUND
          go_wp2
          go_ret
          exact unhide HR
        | true =>
          clear hx
          by_cases h1 : mx = -1
          · subst h1
            have HR2 := hide (unhide HROUND rfl (Or.inl rfl))
            clear HROUND HFIN
            go_wp2_with fail
            refine (unhide HH _ _ fb H _ ((unhide HvL).below (unhide HB) (Nat.le_refl _)) (by omega) ((unhide Hlv).below (unhide HB) (Nat.le_refl _)) (unhide Hbs) (unhide HH2)).mono ?_
            rintro e w1 ⟨g1, G1, rfl, hg1, hr1, he1, hb1⟩
            have HR3 := hide (unhide HR2 w1 g1 G1 hg1 hr1 he1 hb1)
            clear hr1 he1 hb1 HR2
            go_wp2_with fail
            refine (unhide HR3).mono ?_
            rintro e w2 ⟨y, rfl, hrel2, hms⟩
            have HREL := hide hrel2
            have HMS := hide hms
            clear hrel2 hms HR3
            go_wp2
            go_roundw
            case rel => exact unhide HREL
            case measure => exact unhide HMS
          · by_cases h2 : ((k + t : Nat) : Int) < mx
            · have HR2 := hide (unhide HROUND rfl (Or.inr h2))
              have h1' : (mx == -1) = false := by rw [beq_eq_false_iff_ne]; exact h1
              have h2' : (k : Int) + (t : Int) < mx := by omega
              clear HROUND HFIN
              go_wp2_with fail
              refine (unhide HH _ _ fb H _ ((unhide HvL).below (unhide HB) (Nat.le_refl _)) (by omega) ((unhide Hlv).below (unhide HB) (Nat.le_refl _)) (unhide Hbs) (unhide HH2)).mono ?_
              rintro e w1 ⟨g1, G1, rfl, hg1, hr1, he1, hb1⟩
              have HR3 := hide (unhide HR2 w1 g1 G1 hg1 hr1 he1 hb1)
              clear hr1 he1 hb1 HR2
              go_wp2_with fail
              refine (unhide HR3).mono ?_
              rintro e w2 ⟨y, rfl, hrel2, hms⟩
              have HREL := hide hrel2
              have HMS := hide hms
              clear hrel2 hms HR3
              go_wp2
              go_roundw
              case rel => exact unhide HREL
              case measure => exact unhide HMS
            · have h1' : (mx == -1) = false := by rw [beq_eq_false_iff_ne]; exact h1
              have h2' : ¬ (k : Int) + (t : Int) < mx := by omega
              have HR := hide (unhide HFIN (Or.inr ⟨h1, by omega⟩))
              clear HFIN HROUND h2
              go_wp2
              go_ret
              exact unhide HR
end Go.Proofs.YtinhliecfjlocaaGreat
