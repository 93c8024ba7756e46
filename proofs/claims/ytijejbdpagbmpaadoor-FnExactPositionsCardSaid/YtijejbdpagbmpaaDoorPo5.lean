import Derived.Test.YtijejbdpagbmpaaDoorPo4
namespace Go.Proofs.YtijejbdpagbmpaaDoor
open Go.RowKit

theorem map_sh (xs : List Nat) (n m : Nat) : (xs.map (m + ·)).map (fun i => ((n + i : Nat) : Int)) = xs.map (fun i => ((n + m + i : Nat) : Int)) := by
  rw [List.map_map]
  congr 1
  funext i
  simp only [Function.comp]
  omega
theorem edg_alt (a b : It) (last : Bool) (n m : Nat) : edg (itAlt a (b.sh m)) last n = edg a last n ++ edg b last (n + m) := by
  cases last <;> simp only [edg, itAlt, It.sh, List.map_append, map_sh, if_true, if_false, Bool.false_eq_true]
theorem cat_lens (a b : It) (m : Nat) : (itCat a (b.sh m)).fi.length ≤ a.fi.length + b.fi.length ∧ (itCat a (b.sh m)).la.length ≤ a.la.length + b.la.length := by
  obtain ⟨an, af, al⟩ := a
  obtain ⟨bn, bf, bl⟩ := b
  cases an <;> cases bn <;> simp [itCat, It.sh]
theorem edg_catF (a b : It) (n m : Nat) : edg (itCat a (b.sh m)) false n = edg a false n ++ (if a.nl then edg b false (n + m) else []) := by
  simp only [edg, itCat, It.sh, Bool.false_eq_true, if_false, List.map_append]
  by_cases h : a.nl = true
  · rw [if_pos h, if_pos h, map_sh]
  · rw [if_neg h, if_neg h, List.map_nil]
theorem edg_catT (a b : It) (n m : Nat) : edg (itCat a (b.sh m)) true n = (if b.nl then edg a true n else []) ++ edg b true (n + m) := by
  obtain ⟨bn, bf, bl⟩ := b
  cases bn <;> simp only [edg, itCat, It.sh, if_true, List.map_append, map_sh, Bool.false_eq_true, if_false, List.map_nil]

set_option maxHeartbeats 8000000 in
set_option maxRecDepth 100000 in
theorem ed_alt (l r : List El) (a1 a2 : It) (cr : Int) (sr : SegM r cr) (hl : EdS l a1) (hr : EdS r a2) : EdS (l ++ r ++ [⟨3, [], 0, 0⟩]) (itAlt a1 (a2.sh (lvs l))) := by
  have HLl := hide (edg_len hl)
  have HLr := hide (edg_len hr)
  obtain ⟨p1, p2, hl⟩ := hl
  obtain ⟨q1, q2, hr⟩ := hr
  refine ⟨by simp [itAlt, It.sh]; omega, by simp [itAlt, It.sh]; omega, ?_⟩
  intro v w n last hv hlen hn
  have hv0 := hv
  obtain ⟨a, cp, rfl, -, -⟩ := id hv
  obtain ⟨hlen2, hcap, b, off, rfl, hbn, hel⟩ := hv.last
  rw [hlen2] at hv hv0 hcap ⊢
  simp only [List.length_append, List.length_singleton] at hv hv0 hlen hlen2 hel hcap hn ⊢
  unfold maxLen at hcap
  obtain ⟨i1, i2, i3, sv, c0, c1, c2, c3, hints⟩ := hel
  obtain ⟨sa, sc, rfl, -, -, -⟩ := id hints
  simp only at c0 c2 c3
  clear hlen2 i1 i2 i3 hints
  have e1 : (((l.length + r.length + 1 : Nat) : Int) - 1) = ((l.length + r.length : Nat) : Int) := by omega
  have hvL : ElsAt 0 w.heap.size w (.slice (some ⟨b, off, none⟩) l.length cp) (l) := by rw [List.append_assoc] at hv0; exact hv0.pre
  have hvR := hv0.mid (cap' := cp - l.length) (by unfold maxLen; omega)
  have f5 : l.length + r.length - l.length = r.length := by omega
  have hlv := lvs_le l
  have f6 : IntKind.i64.wrap ((n : Int) + (lvs l : Int)) = (n : Int) + (lvs l : Int) := k64i (by omega) (by omega)
  have HvL := hide hvL
  have HvR := hide hvR
  have Hv0 := hide hv0
  have HHl := hide hl
  have HHr := hide hr
  have hB0 := below1 w (.cells #[.int .i64 3, .slice sa 0 sc, .int .i64 0, .int .i64 0] 44)
  have HRow : Hid (∀ W, Below (w.heap.size + 1) (w.alloc (.cells #[.int .i64 3, .slice sa 0 sc, .int .i64 0, .int .i64 0] 44)) W → W.cell? ⟨w.heap.size, 0, none⟩ = some (.int .i64 3)) := fun W hW => (hW.cell (p := ⟨w.heap.size, 0, none⟩) (Nat.lt_succ_self _)).trans ((pushd_alloc w _).news 0 _ rfl)
  clear hvL hvR hv hv0 hl hr
  obtain ⟨T, hT⟩ : ∃ T, T = edg (itAlt a1 (a2.sh (lvs l))) last n := ⟨_, rfl⟩
  rw [← hT]
  have HT : Hid (T = edg a1 last n ++ edg a2 last (n + lvs l)) := by show T = _; rw [hT, edg_alt]
  clear hT
  go_enter Tryd.func17, Tryd.ntmps17
  go_wp2_with fail
  refine (l1start_bin _ l r cr _ _ _ sr (by exact (unhide Hv0).below (below1 w _) (Nat.le_refl _)) (by omega) rfl).mono ?_
  rintro e w1 ⟨rfl, rfl⟩
  go_wp2_with fail
  have hz0 : (w.alloc (.cells #[.int .i64 3, .slice sa 0 sc, .int .i64 0, .int .i64 0] 44)).heap.size = w.heap.size + 1 := sz_alloc _ _
  generalize w.alloc (.cells #[.int .i64 3, .slice sa 0 sc, .int .i64 0, .int .i64 0] 44) = W0 at *
  have hz0' : w.heap.size + 1 ≤ W0.heap.size := by omega
  clear hz0 c0 c1 c2 c3
  refine (unhide HHl _ _ n last ((unhide HvL).below hB0 (Nat.le_refl _)) (by omega) (by omega)).mono ?_
  rintro e w2 ⟨v2, rfl, ho2, hb2⟩
  have hB2 : Below w.heap.size w w2 := hB0.trans (hb2.mono hB0.size)
  obtain ⟨X1, hX1⟩ : ∃ X, X = edg a1 last n := ⟨_, rfl⟩
  rw [← hX1] at ho2
  have hxl1 : X1.length ≤ 3000 := by rw [hX1]; have := unhide HLl last n; omega
  have HX1 := hide hX1
  have S2 := hide (SlW.at (own_slw (lo := 0) ho2 (Nat.zero_le _) (by unfold maxLen; omega)))
  obtain ⟨x2a, x2c, rfl⟩ := own_is ho2
  have hz2 := hB2.size
  clear ho2 hb2 hX1
  go_wp2_with (at_builtin; refine app_more rfl _ _ rfl w.heap.size _ rfl ([] : List Int) (World.ownsRow_nil _ _ _ _) hz2 _ rfl X1 (unhide S2) (by simp; omega) ?_; intro v3 w3 hb3 ho3 hv3; have ho3' : w3.ownsRow w.heap.size 3 1 v3 X1.length (X1.map mI) := ho3; have Ho3 := hide ho3'; obtain ⟨x3a, x3c, rfl⟩ := own_is ho3'; have hB3 : Below w.heap.size w w3 := hB2.trans hb3; clear ho3 ho3' hb3 hv3)
  refine (l2leaves_any _ l _ ((unhide HvL).below hB3 (Nat.le_refl _)) (by omega)).mono ?_
  rintro e w4 ⟨rfl, rfl⟩
  go_wp2_with fail
  refine (unhide HHr _ _ (n + lvs l) last ((unhide HvR).below hB3 (Nat.le_refl _)) (by omega) (by omega)).mono ?_
  rintro e w5 ⟨v5, rfl, ho5, hb5⟩
  have hB5 : Below w.heap.size w w5 := hB3.trans (hb5.mono hB3.size)
  obtain ⟨X2, hX2⟩ : ∃ X, X = edg a2 last (n + lvs l) := ⟨_, rfl⟩
  rw [← hX2] at ho5
  have hxl2 : X2.length ≤ 3000 := by rw [hX2]; have := unhide HLr last (n + lvs l); omega
  have HX2 := hide hX2
  have S5 := hide (SlW.at (own_slw (lo := 0) ho5 (Nat.zero_le _) (by unfold maxLen; omega)))
  have OWNK := hide (own_keep (unhide Ho3) hb5 (Nat.le_refl _))
  obtain ⟨x5a, x5c, rfl⟩ := own_is ho5
  have hz5 := hB5.size
  clear ho5 hb5 hX2
  go_wp2_with (at_builtin; refine app_more rfl _ _ rfl w.heap.size _ rfl X1 (unhide OWNK) hz5 _ rfl X2 (unhide S5) (by (try simp only [List.length_nil]); omega) ?_; intro v6 w6 hb6 ho6 hv6; obtain ⟨Z, hZ⟩ : ∃ Z, Z = X1 ++ X2 := ⟨_, rfl⟩; rw [← hZ] at ho6; have HZ := hide hZ; have Ho6 := hide ho6; obtain ⟨x6a, x6c, rfl⟩ := own_is ho6; have hB6 : Below w.heap.size w w6 := hB5.trans hb6; clear ho6 hb6 hv6 hZ)
  go_ret
  exact ⟨_, rfl, by rw [unhide HT, ← unhide HX1, ← unhide HX2, ← unhide HZ]; exact unhide Ho6, hB6⟩

set_option maxHeartbeats 8000000 in
set_option maxRecDepth 100000 in
theorem ed_cat (l r : List El) (a1 a2 : It) (cr : Int) (sr : SegM r cr) (hl : EdS l a1) (hr : EdS r a2) (nl : NuS l a1.nl) (nr : NuS r a2.nl) : EdS (l ++ r ++ [⟨2, [], 0, 0⟩]) (itCat a1 (a2.sh (lvs l))) := by
  have HLl := hide (edg_len hl)
  have HLr := hide (edg_len hr)
  obtain ⟨p1, p2, hl⟩ := hl
  obtain ⟨q1, q2, hr⟩ := hr
  refine ⟨by have := (cat_lens a1 a2 (lvs l)).1; simp only [List.length_append, List.length_singleton]; omega, by have := (cat_lens a1 a2 (lvs l)).2; simp only [List.length_append, List.length_singleton]; omega, ?_⟩
  intro v w n last hv hlen hn
  have hv0 := hv
  obtain ⟨a, cp, rfl, -, -⟩ := id hv
  obtain ⟨hlen2, hcap, b, off, rfl, hbn, hel⟩ := hv.last
  rw [hlen2] at hv hv0 hcap ⊢
  simp only [List.length_append, List.length_singleton] at hv hv0 hlen hlen2 hel hcap hn ⊢
  unfold maxLen at hcap
  obtain ⟨i1, i2, i3, sv, c0, c1, c2, c3, hints⟩ := hel
  obtain ⟨sa, sc, rfl, -, -, -⟩ := id hints
  simp only at c0 c2 c3
  clear hlen2 i1 i2 i3 hints
  have e1 : (((l.length + r.length + 1 : Nat) : Int) - 1) = ((l.length + r.length : Nat) : Int) := by omega
  have hvL : ElsAt 0 w.heap.size w (.slice (some ⟨b, off, none⟩) l.length cp) (l) := by rw [List.append_assoc] at hv0; exact hv0.pre
  have hvR := hv0.mid (cap' := cp - l.length) (by unfold maxLen; omega)
  have f5 : l.length + r.length - l.length = r.length := by omega
  have hlv := lvs_le l
  have f6 : IntKind.i64.wrap ((n : Int) + (lvs l : Int)) = (n : Int) + (lvs l : Int) := k64i (by omega) (by omega)
  have HvL := hide hvL
  have HvR := hide hvR
  have Hv0 := hide hv0
  have HHl := hide hl
  have HHr := hide hr
  have hB0 := below1 w (.cells #[.int .i64 2, .slice sa 0 sc, .int .i64 0, .int .i64 0] 44)
  have HRow : Hid (∀ W, Below (w.heap.size + 1) (w.alloc (.cells #[.int .i64 2, .slice sa 0 sc, .int .i64 0, .int .i64 0] 44)) W → W.cell? ⟨w.heap.size, 0, none⟩ = some (.int .i64 2)) := fun W hW => (hW.cell (p := ⟨w.heap.size, 0, none⟩) (Nat.lt_succ_self _)).trans ((pushd_alloc w _).news 0 _ rfl)
  clear hvL hvR hv hv0 hl hr
  obtain ⟨T, hT⟩ : ∃ T, T = edg (itCat a1 (a2.sh (lvs l))) last n := ⟨_, rfl⟩
  rw [← hT]
  have NL := hide nl
  have NR := hide nr
  clear nl nr
  cases last with
  | true =>
    have HT : Hid (T = (if a2.nl then edg a1 true n else []) ++ edg a2 true (n + lvs l)) := by show T = _; rw [hT, edg_catT]
    clear hT
    go_enter Tryd.func17, Tryd.ntmps17
    go_wp2_with fail
    refine (l1start_bin _ l r cr _ _ _ sr (by exact (unhide Hv0).below (below1 w _) (Nat.le_refl _)) (by omega) rfl).mono ?_
    rintro e w1 ⟨rfl, rfl⟩
    go_wp2_with fail
    have hz0 : (w.alloc (.cells #[.int .i64 2, .slice sa 0 sc, .int .i64 0, .int .i64 0] 44)).heap.size = w.heap.size + 1 := sz_alloc _ _
    generalize w.alloc (.cells #[.int .i64 2, .slice sa 0 sc, .int .i64 0, .int .i64 0] 44) = W0 at *
    have hz0' : w.heap.size + 1 ≤ W0.heap.size := by omega
    clear hz0 c0 c1 c2 c3
    refine (unhide NR _ _ ((unhide HvR).below hB0 (Nat.le_refl _)) (by omega)).mono ?_
    rintro e w1 ⟨rfl, hb1⟩
    have hB1 : Below w.heap.size w w1 := hB0.trans (hb1.mono (by omega))
    clear hb1
    cases hq : a2.nl with
    | true =>
      rw [hq, if_pos rfl] at HT
      go_wp2_with fail
      refine (unhide HHl _ _ n true ((unhide HvL).below hB1 (Nat.le_refl _)) (by omega) (by omega)).mono ?_
      rintro e w2 ⟨v2, rfl, ho2, hb2⟩
      have hB2 : Below w.heap.size w w2 := hB1.trans (hb2.mono hB1.size)
      obtain ⟨X1, hX1⟩ : ∃ X, X = edg a1 true n := ⟨_, rfl⟩
      rw [← hX1] at ho2
      have hxl1 : X1.length ≤ 3000 := by rw [hX1]; have := unhide HLl true n; omega
      have HX1 := hide hX1
      have S2 := hide (SlW.at (own_slw (lo := 0) ho2 (Nat.zero_le _) (by unfold maxLen; omega)))
      obtain ⟨x2a, x2c, rfl⟩ := own_is ho2
      have hz2 := hB2.size
      clear ho2 hb2 hX1
      go_wp2_with (at_builtin; refine app_more rfl _ _ rfl w.heap.size _ rfl ([] : List Int) (World.ownsRow_nil _ _ _ _) hz2 _ rfl X1 (unhide S2) (by simp; omega) ?_; intro v3 w3 hb3 ho3 hv3; have ho3' : w3.ownsRow w.heap.size 3 1 v3 X1.length (X1.map mI) := ho3; have Ho3 := hide ho3'; obtain ⟨x3a, x3c, rfl⟩ := own_is ho3'; have hB3 : Below w.heap.size w w3 := hB2.trans hb3; clear ho3 ho3' hb3 hv3)
      refine (l2leaves_any _ l _ ((unhide HvL).below hB3 (Nat.le_refl _)) (by omega)).mono ?_
      rintro e w4 ⟨rfl, rfl⟩
      go_wp2_with fail
      refine (unhide HHr _ _ (n + lvs l) true ((unhide HvR).below hB3 (Nat.le_refl _)) (by omega) (by omega)).mono ?_
      rintro e w5 ⟨v5, rfl, ho5, hb5⟩
      have hB5 : Below w.heap.size w w5 := hB3.trans (hb5.mono hB3.size)
      obtain ⟨X2, hX2⟩ : ∃ X, X = edg a2 true (n + lvs l) := ⟨_, rfl⟩
      rw [← hX2] at ho5
      have hxl2 : X2.length ≤ 3000 := by rw [hX2]; have := unhide HLr true (n + lvs l); omega
      have HX2 := hide hX2
      have S5 := hide (SlW.at (own_slw (lo := 0) ho5 (Nat.zero_le _) (by unfold maxLen; omega)))
      have OWNK := hide (own_keep (unhide Ho3) hb5 (Nat.le_refl _))
      obtain ⟨x5a, x5c, rfl⟩ := own_is ho5
      have hz5 := hB5.size
      clear ho5 hb5 hX2
      go_wp2_with (at_builtin; refine app_more rfl _ _ rfl w.heap.size _ rfl X1 (unhide OWNK) hz5 _ rfl X2 (unhide S5) (by (try simp only [List.length_nil]); omega) ?_; intro v6 w6 hb6 ho6 hv6; obtain ⟨Z, hZ⟩ : ∃ Z, Z = X1 ++ X2 := ⟨_, rfl⟩; rw [← hZ] at ho6; have HZ := hide hZ; have Ho6 := hide ho6; obtain ⟨x6a, x6c, rfl⟩ := own_is ho6; have hB6 : Below w.heap.size w w6 := hB5.trans hb6; clear ho6 hb6 hv6 hZ)
      go_ret
      exact ⟨_, rfl, by rw [unhide HT, ← unhide HX1, ← unhide HX2, ← unhide HZ]; exact unhide Ho6, hB6⟩
    | false =>
      rw [hq, if_neg (by simp)] at HT
      go_wp2_with fail
      refine (l2leaves_any _ l _ ((unhide HvL).below hB1 (Nat.le_refl _)) (by omega)).mono ?_
      rintro e w4 ⟨rfl, rfl⟩
      go_wp2_with fail
      refine (unhide HHr _ _ (n + lvs l) true ((unhide HvR).below hB1 (Nat.le_refl _)) (by omega) (by omega)).mono ?_
      rintro e w5 ⟨v5, rfl, ho5, hb5⟩
      have hB5 : Below w.heap.size w w5 := hB1.trans (hb5.mono hB1.size)
      obtain ⟨X2, hX2⟩ : ∃ X, X = edg a2 true (n + lvs l) := ⟨_, rfl⟩
      rw [← hX2] at ho5
      have hxl2 : X2.length ≤ 3000 := by rw [hX2]; have := unhide HLr true (n + lvs l); omega
      have HX2 := hide hX2
      have S5 := hide (SlW.at (own_slw (lo := 0) ho5 (Nat.zero_le _) (by unfold maxLen; omega)))
      have OWNK := hide (World.ownsRow_nil w5 w.heap.size 3 1)
      obtain ⟨x5a, x5c, rfl⟩ := own_is ho5
      have hz5 := hB5.size
      clear ho5 hb5 hX2
      go_wp2_with (at_builtin; refine app_more rfl _ _ rfl w.heap.size _ rfl ([] : List Int) (unhide OWNK) hz5 _ rfl X2 (unhide S5) (by (try simp only [List.length_nil]); omega) ?_; intro v6 w6 hb6 ho6 hv6; obtain ⟨Z, hZ⟩ : ∃ Z, Z = ([] : List Int) ++ X2 := ⟨_, rfl⟩; rw [← hZ] at ho6; have HZ := hide hZ; have Ho6 := hide ho6; obtain ⟨x6a, x6c, rfl⟩ := own_is ho6; have hB6 : Below w.heap.size w w6 := hB5.trans hb6; clear ho6 hb6 hv6 hZ)
      go_ret
      exact ⟨_, rfl, by rw [unhide HT, ← unhide HX2, ← unhide HZ]; exact unhide Ho6, hB6⟩
  | false =>
    have HT : Hid (T = edg a1 false n ++ (if a1.nl then edg a2 false (n + lvs l) else [])) := by show T = _; rw [hT, edg_catF]
    clear hT
    go_enter Tryd.func17, Tryd.ntmps17
    go_wp2_with fail
    refine (l1start_bin _ l r cr _ _ _ sr (by exact (unhide Hv0).below (below1 w _) (Nat.le_refl _)) (by omega) rfl).mono ?_
    rintro e w1 ⟨rfl, rfl⟩
    go_wp2_with fail
    have hz0 : (w.alloc (.cells #[.int .i64 2, .slice sa 0 sc, .int .i64 0, .int .i64 0] 44)).heap.size = w.heap.size + 1 := sz_alloc _ _
    generalize w.alloc (.cells #[.int .i64 2, .slice sa 0 sc, .int .i64 0, .int .i64 0] 44) = W0 at *
    have hz0' : w.heap.size + 1 ≤ W0.heap.size := by omega
    clear hz0 c0 c1 c2 c3
    refine (unhide NL _ _ ((unhide HvL).below hB0 (Nat.le_refl _)) (by omega)).mono ?_
    rintro e w1 ⟨rfl, hb1⟩
    have hB1 : Below w.heap.size w w1 := hB0.trans (hb1.mono (by omega))
    clear hb1
    cases hq : a1.nl with
    | true =>
      rw [hq, if_pos rfl] at HT
      go_wp2_with fail
      refine (unhide HHl _ _ n false ((unhide HvL).below hB1 (Nat.le_refl _)) (by omega) (by omega)).mono ?_
      rintro e w2 ⟨v2, rfl, ho2, hb2⟩
      have hB2 : Below w.heap.size w w2 := hB1.trans (hb2.mono hB1.size)
      obtain ⟨X1, hX1⟩ : ∃ X, X = edg a1 false n := ⟨_, rfl⟩
      rw [← hX1] at ho2
      have hxl1 : X1.length ≤ 3000 := by rw [hX1]; have := unhide HLl false n; omega
      have HX1 := hide hX1
      have S2 := hide (SlW.at (own_slw (lo := 0) ho2 (Nat.zero_le _) (by unfold maxLen; omega)))
      obtain ⟨x2a, x2c, rfl⟩ := own_is ho2
      have hz2 := hB2.size
      clear ho2 hb2 hX1
      go_wp2_with (at_builtin; refine app_more rfl _ _ rfl w.heap.size _ rfl ([] : List Int) (World.ownsRow_nil _ _ _ _) hz2 _ rfl X1 (unhide S2) (by simp; omega) ?_; intro v3 w3 hb3 ho3 hv3; have ho3' : w3.ownsRow w.heap.size 3 1 v3 X1.length (X1.map mI) := ho3; have Ho3 := hide ho3'; obtain ⟨x3a, x3c, rfl⟩ := own_is ho3'; have hB3 : Below w.heap.size w w3 := hB2.trans hb3; clear ho3 ho3' hb3 hv3)
      refine (l2leaves_any _ l _ ((unhide HvL).below hB3 (Nat.le_refl _)) (by omega)).mono ?_
      rintro e w4 ⟨rfl, rfl⟩
      go_wp2_with fail
      refine (unhide HHr _ _ (n + lvs l) false ((unhide HvR).below hB3 (Nat.le_refl _)) (by omega) (by omega)).mono ?_
      rintro e w5 ⟨v5, rfl, ho5, hb5⟩
      have hB5 : Below w.heap.size w w5 := hB3.trans (hb5.mono hB3.size)
      obtain ⟨X2, hX2⟩ : ∃ X, X = edg a2 false (n + lvs l) := ⟨_, rfl⟩
      rw [← hX2] at ho5
      have hxl2 : X2.length ≤ 3000 := by rw [hX2]; have := unhide HLr false (n + lvs l); omega
      have HX2 := hide hX2
      have S5 := hide (SlW.at (own_slw (lo := 0) ho5 (Nat.zero_le _) (by unfold maxLen; omega)))
      have OWNK := hide (own_keep (unhide Ho3) hb5 (Nat.le_refl _))
      obtain ⟨x5a, x5c, rfl⟩ := own_is ho5
      have hz5 := hB5.size
      clear ho5 hb5 hX2
      go_wp2_with (at_builtin; refine app_more rfl _ _ rfl w.heap.size _ rfl X1 (unhide OWNK) hz5 _ rfl X2 (unhide S5) (by (try simp only [List.length_nil]); omega) ?_; intro v6 w6 hb6 ho6 hv6; obtain ⟨Z, hZ⟩ : ∃ Z, Z = X1 ++ X2 := ⟨_, rfl⟩; rw [← hZ] at ho6; have HZ := hide hZ; have Ho6 := hide ho6; obtain ⟨x6a, x6c, rfl⟩ := own_is ho6; have hB6 : Below w.heap.size w w6 := hB5.trans hb6; clear ho6 hb6 hv6 hZ)
      go_ret
      exact ⟨_, rfl, by rw [unhide HT, ← unhide HX1, ← unhide HX2, ← unhide HZ]; exact unhide Ho6, hB6⟩
    | false =>
      rw [hq, if_neg (by simp), List.append_nil] at HT
      go_wp2_with fail
      refine (unhide HHl _ _ n false ((unhide HvL).below hB1 (Nat.le_refl _)) (by omega) (by omega)).mono ?_
      rintro e w2 ⟨v2, rfl, ho2, hb2⟩
      have hB2 : Below w.heap.size w w2 := hB1.trans (hb2.mono hB1.size)
      obtain ⟨X1, hX1⟩ : ∃ X, X = edg a1 false n := ⟨_, rfl⟩
      rw [← hX1] at ho2
      have hxl1 : X1.length ≤ 3000 := by rw [hX1]; have := unhide HLl false n; omega
      have HX1 := hide hX1
      have S2 := hide (SlW.at (own_slw (lo := 0) ho2 (Nat.zero_le _) (by unfold maxLen; omega)))
      obtain ⟨x2a, x2c, rfl⟩ := own_is ho2
      have hz2 := hB2.size
      clear ho2 hb2 hX1
      go_wp2_with (at_builtin; refine app_more rfl _ _ rfl w.heap.size _ rfl ([] : List Int) (World.ownsRow_nil _ _ _ _) hz2 _ rfl X1 (unhide S2) (by simp; omega) ?_; intro v3 w3 hb3 ho3 hv3; have ho3' : w3.ownsRow w.heap.size 3 1 v3 X1.length (X1.map mI) := ho3; have Ho3 := hide ho3'; obtain ⟨x3a, x3c, rfl⟩ := own_is ho3'; have hB3 : Below w.heap.size w w3 := hB2.trans hb3; clear ho3 ho3' hb3 hv3)
      go_ret
      exact ⟨_, rfl, by rw [unhide HT, ← unhide HX1]; exact unhide Ho3, hB3⟩

end Go.Proofs.YtijejbdpagbmpaaDoor
