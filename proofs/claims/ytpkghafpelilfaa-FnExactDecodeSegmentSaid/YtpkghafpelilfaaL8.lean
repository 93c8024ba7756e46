import Derived.Test.YtpkghafpelilfaaI15
namespace Go.Proofs.Ytpkghafpelilfaa
open Go.RowKit

/-- All four cells of a box. -/
theorem Row4.all {w : World} {b : Nat} {t : TypeId} {c0 c1 c2 c3 : Value} (h : Row4 w b t c0 c1 c2 c3) (d0 d1 d2 d3 : Value) : Row4 ((((w.setCell ⟨b, 0, none⟩ d0).setCell ⟨b, 1, none⟩ d1).setCell ⟨b, 2, none⟩ d2).setCell ⟨b, 3, none⟩ d3) b t d0 d1 d2 d3 := h.put0.put1.put2.put3
theorem bput4 {m b : Nat} {w w' : World} (h : Below m w w') (hb : m ≤ b) (d0 d1 d2 d3 : Value) : Below m w ((((w'.setCell ⟨b, 0, none⟩ d0).setCell ⟨b, 1, none⟩ d1).setCell ⟨b, 2, none⟩ d2).setCell ⟨b, 3, none⟩ d3) := bput (bput (bput (bput h hb _) hb _) hb _) hb _
theorem SegF.put4 {lo hi b : Nat} {w : World} {v : Value} {base : Int} {xss pss : List (List Int)} {ks : List Int} (h : SegF lo hi w v base xss ks pss) (hb : b < lo) (d0 d1 d2 d3 : Value) : SegF lo hi ((((w.setCell ⟨b, 0, none⟩ d0).setCell ⟨b, 1, none⟩ d1).setCell ⟨b, 2, none⟩ d2).setCell ⟨b, 3, none⟩ d3) v base xss ks pss := (((h.put hb).put hb).put hb).put hb
theorem sz_put4 (b : Nat) (w : World) (d0 d1 d2 d3 : Value) : ((((w.setCell ⟨b, 0, none⟩ d0).setCell ⟨b, 1, none⟩ d1).setCell ⟨b, 2, none⟩ d2).setCell ⟨b, 3, none⟩ d3).heap.size = w.heap.size := by simp only [sz_put]
theorem SegAt.put4 {lo b : Nat} {w : World} {v : Value} {base : Int} {xss pss : List (List Int)} {ks : List Int} (h : SegAt lo w v base xss ks pss) (hb : b < lo) (d0 d1 d2 d3 : Value) : SegAt lo ((((w.setCell ⟨b, 0, none⟩ d0).setCell ⟨b, 1, none⟩ d1).setCell ⟨b, 2, none⟩ d2).setCell ⟨b, 3, none⟩ d3) v base xss ks pss := (((h.put hb).put hb).put hb).put hb

set_option maxHeartbeats 2000000 in
set_option maxRecDepth 100000 in
theorem szSegment_w (v : Value) (base left : Int) (xss pss : List (List Int)) (ks : List Int) (w : World) (hv : SegRd w v base xss ks pss) (h0 : 0 ≤ left) (h1 : left ≤ 1048576) :
    Calls Try.prog 5 #[v, .int .i64 left] w fun e w' => (∃ r : Int, e = .returned (.int .i64 r) ∧ (r < 0 ∨ (0 ≤ r ∧ r + xss.length + tot xss + ks.length + pss.length + tot pss ≤ left))) ∧ Below w.heap.size w w' := by
  obtain ⟨lv, kv, pv, rfl, u1, u2, u3⟩ := hv
  have U1 := hide u1
  have U2 := hide u2
  have U3 := hide u3
  obtain ⟨a1, c1, rfl, -⟩ := id u1
  obtain ⟨a2, c2, rfl, k2, -⟩ := id u2
  obtain ⟨a3, c3, rfl, -⟩ := id u3
  clear u1 u2 u3
  have hb0 := below1 w (.cells #[.int .i64 base, .slice a1 xss.length c1, .slice a2 ks.length c2, .slice a3 pss.length c3] 26)
  have RA := Row4.new w 26 (.int .i64 base) (.slice a1 xss.length c1) (.slice a2 ks.length c2) (.slice a3 pss.length c3)
  go_enter Try.func5, Try.ntmps5
  go_wp2_with fail
  generalize w.alloc (.cells #[.int .i64 base, .slice a1 xss.length c1, .slice a2 ks.length c2, .slice a3 pss.length c3] 26) = V at *
  refine (szByteSS_w _ xss left _ ((unhide U1).below hb0 (Nat.le_refl _)) h0 h1).mono ?_
  rintro e w1 ⟨⟨r, rfl, hr⟩, hw1⟩
  subst hw1
  obtain ⟨f0, f1, f2, f3, -⟩ := RA.facts
  by_cases hn : r < 0
  · clear hr
    go_wp2
    go_ret
    exact ⟨⟨-1, rfl, Or.inl (by omega)⟩, hb0⟩
  · have hr' : r = left - xss.length - tot xss := by omega
    have HR := hide hr'
    have hr0 : 0 ≤ r := by omega
    have hr1 : r ≤ 1048576 := by omega
    clear hr hr'
    go_wp2_with fail
    refine (szIntS_any a2 ks.length c2 r _ k2 hr0 hr1).mono ?_
    rintro e w2 ⟨rfl, hw2⟩
    subst hw2
    have HS := hide (show szR r ks.length < 0 ∨ szR r ks.length = r - ks.length by unfold szR; split <;> omega)
    have hs1 : szR r ks.length ≤ 1048576 := by have := unhide HS; omega
    generalize szR r ks.length = r2 at *
    by_cases hn2 : r2 < 0
    · go_wp2
      go_ret
      exact ⟨⟨-1, rfl, Or.inl (by omega)⟩, hb0⟩
    · go_wp2_with fail
      refine (szIntSS_w _ pss r2 _ ((unhide U3).below hb0 (Nat.le_refl _)) (by omega) hs1).mono ?_
      rintro e w3 ⟨⟨r3, rfl, hr3⟩, hw3⟩
      subst hw3
      have H3 := hide hr3
      clear hr3
      by_cases hn3 : r3 < 0
      · go_wp2
        go_ret
        exact ⟨⟨-1, rfl, Or.inl (by omega)⟩, hb0⟩
      · go_wp2
        go_ret
        have e1 := unhide HR
        have e2 := unhide HS
        have e3 := unhide H3
        exact ⟨⟨r3, rfl, Or.inr ⟨by omega, by omega⟩⟩, hb0⟩

/-- Cells of a box that are written one by one. -/
theorem SegF.mk3 {w1 w2 w3 : World} {lo : Nat} {base : Int} {v1 v2 v3 : Value} {xss pss : List (List Int)} {ks : List Int} (h1 : SsF mB 0 (Rng lo w1.heap.size) w3 v1 xss) (h2 : SlF mI 0 (Rng w1.heap.size w2.heap.size) w3 v2 ks) (h3 : SsF mI 0 (Rng w2.heap.size w3.heap.size) w3 v3 pss) (z1 : w1.heap.size ≤ w2.heap.size) (z2 : w2.heap.size ≤ w3.heap.size) (z0 : lo ≤ w1.heap.size) : SegF lo w3.heap.size w3 (.agg #[.int .i64 base, v1, v2, v3]) base xss ks pss := by
  refine ⟨v1, v2, v3, _, _, _, rfl, h1, h2, h3, fun k hk => ?_, fun k hk => ⟨fun h => ?_, fun h => ?_⟩, fun k hk h => ?_⟩ <;> unfold Rng at * <;> omega

theorem SsF.putR {α : Type} {mk : α → Value} {d : α} {lo n b o : Nat} {w : World} {v u : Value} {xss : List (List α)} (h : SsF mk d (Rng lo n) w v xss) (hb : b < lo ∨ n ≤ b) : SsF mk d (Rng lo n) (w.setCell ⟨b, o, none⟩ u) v xss := h.same (fun k hk => Below.heap_setCell _ _ _ _ (by unfold Rng at hk; show k ≠ b; omega))
theorem SlF.putR {α : Type} {mk : α → Value} {d : α} {lo n b o : Nat} {w : World} {v u : Value} {xs : List α} (h : SlF mk d (Rng lo n) w v xs) (hb : b < lo ∨ n ≤ b) : SlF mk d (Rng lo n) (w.setCell ⟨b, o, none⟩ u) v xs := h.same (fun k hk => Below.heap_setCell _ _ _ _ (by unfold Rng at hk; show k ≠ b; omega))
theorem SlF.keepR {α : Type} {mk : α → Value} {d : α} {lo n m : Nat} {w w' : World} {v : Value} {xs : List α} (h : SlF mk d (Rng lo n) w v xs) (hb : Below m w w') (hn : n ≤ m) : SlF mk d (Rng lo n) w' v xs := h.same (fun k hk => hb.block k (by unfold Rng at hk; omega))

set_option maxHeartbeats 4000000 in
set_option maxRecDepth 100000 in
theorem toSegment_w (v : Value) (base : Int) (xss pss : List (List Int)) (ks : List Int) (w : World) (hv : SegRd w v base xss ks pss) (i4 : tot xss ≤ 1048576) (i5 : xss.length ≤ 1048576) (i6 : ks.length ≤ 1048576) (i7 : tot pss ≤ 1048576) (i8 : pss.length ≤ 1048576) :
    Calls Try.prog 7 #[v] w fun e w' => ∃ u, e = .returned u ∧ SegF w.heap.size w'.heap.size w' u base xss ks pss ∧ Below w.heap.size w w' := by
  obtain ⟨lv, kv, pv, rfl, u1, u2, u3⟩ := hv
  have U1 := hide u1
  have U2 := hide u2
  have U3 := hide u3
  obtain ⟨a1, c1, rfl, -⟩ := id u1
  obtain ⟨a2, c2, rfl, k2, -⟩ := id u2
  obtain ⟨a3, c3, rfl, -⟩ := id u3
  clear u1 u2 u3
  have hb0 := below3 w (.cells #[.int .i64 base, .slice a1 xss.length c1, .slice a2 ks.length c2, .slice a3 pss.length c3] 26) (.cells #[.int .i64 0, .slice none 0 0, .slice none 0 0, .slice none 0 0] 30) (.cells #[.int .i64 base, .slice none 0 0, .slice none 0 0, .slice none 0 0] 30)
  have RA := ((Row4.new w 26 (.int .i64 base) (.slice a1 xss.length c1) (.slice a2 ks.length c2) (.slice a3 pss.length c3)).alloc (.cells #[.int .i64 0, .slice none 0 0, .slice none 0 0, .slice none 0 0] 30)).alloc (.cells #[.int .i64 base, .slice none 0 0, .slice none 0 0, .slice none 0 0] 30)
  have RR := (Row4.new (w.alloc (.cells #[.int .i64 base, .slice a1 xss.length c1, .slice a2 ks.length c2, .slice a3 pss.length c3] 26)) 30 (.int .i64 0) (.slice none 0 0) (.slice none 0 0) (.slice none 0 0)).alloc (.cells #[.int .i64 base, .slice none 0 0, .slice none 0 0, .slice none 0 0] 30)
  have RO := Row4.new ((w.alloc (.cells #[.int .i64 base, .slice a1 xss.length c1, .slice a2 ks.length c2, .slice a3 pss.length c3] 26)).alloc (.cells #[.int .i64 0, .slice none 0 0, .slice none 0 0, .slice none 0 0] 30)) 30 (.int .i64 base) (.slice none 0 0) (.slice none 0 0) (.slice none 0 0)
  rw [sz_alloc] at RR
  rw [sz_alloc, sz_alloc] at RO
  have hzV : (((w.alloc (.cells #[.int .i64 base, .slice a1 xss.length c1, .slice a2 ks.length c2, .slice a3 pss.length c3] 26)).alloc (.cells #[.int .i64 0, .slice none 0 0, .slice none 0 0, .slice none 0 0] 30)).alloc (.cells #[.int .i64 base, .slice none 0 0, .slice none 0 0, .slice none 0 0] 30)).heap.size = w.heap.size + 3 := by simp
  go_enter Try.func7, Try.ntmps7
  go_wp2_with fail
  generalize ((w.alloc (.cells #[.int .i64 base, .slice a1 xss.length c1, .slice a2 ks.length c2, .slice a3 pss.length c3] 26)).alloc (.cells #[.int .i64 0, .slice none 0 0, .slice none 0 0, .slice none 0 0] 30)).alloc (.cells #[.int .i64 base, .slice none 0 0, .slice none 0 0, .slice none 0 0] 30) = V at *
  refine (toByteSS_w _ xss _ ((unhide U1).below hb0 (Nat.le_refl _)) i5 i4).mono ?_
  rintro e w1 ⟨v1, rfl, hs1, hb1⟩
  have hz1 := hb1.size
  have hB1 : Below w.heap.size w w1 := hb0.trans (hb1.mono (by omega))
  have S1 := hide hs1
  have RA1 := hide ((RA.below hb1 (by omega)).other (b' := w.heap.size + 1 + 1) (o := 1) (u := v1) (by omega))
  have RR1 := hide ((RR.below hb1 (by omega)).other (b' := w.heap.size + 1 + 1) (o := 1) (u := v1) (by omega))
  have RO1 := hide (RO.below hb1 (by omega))
  clear RA RR RO
  obtain ⟨o0, o1, o2, o3, t0, t1, t2, t3⟩ := (unhide RO1).facts
  obtain ⟨f0, f1, f2, f3, -⟩ := (unhide RA1).facts
  obtain ⟨p1, q1, rfl, -⟩ := hs1
  go_wp2_with fail
  have SS1 := hide ((unhide S1).putR (b := w.heap.size + 1 + 1) (o := 1) (u := .slice p1 xss.length q1) (by omega))
  have RO1' := hide ((unhide RO1).put1 (u := .slice p1 xss.length q1))
  have hB1' := bput hB1 (b := w.heap.size + 1 + 1) (o := 1) (by omega) (.slice p1 xss.length q1)
  have hz1' := sz_put w1 ⟨w.heap.size + 1 + 1, 1, none⟩ (.slice p1 xss.length q1)
  generalize w1.setCell ⟨w.heap.size + 1 + 1, 1, none⟩ (.slice p1 xss.length q1) = W1 at *
  clear S1 RO1 o0 o1 o2 o3 t0 t1 t2 t3 f0 f1 f2 f3 hB1
  refine (toIntS_w _ ks _ ((unhide U2).below hB1' (Nat.le_refl _)) i6).mono ?_
  rintro e w2 ⟨v2, rfl, hs2, hb2⟩
  have hz2 := hb2.size
  have hB2 : Below w.heap.size w w2 := hB1'.trans (hb2.mono (by omega))
  have S2 := hide hs2
  obtain ⟨p2, q2, rfl, -⟩ := hs2
  have RA2 := hide (((unhide RA1).below hb2 (by omega)).other (b' := w.heap.size + 1 + 1) (o := 2) (u := .slice p2 ks.length q2) (by omega))
  have RR2 := hide (((unhide RR1).below hb2 (by omega)).other (b' := w.heap.size + 1 + 1) (o := 2) (u := .slice p2 ks.length q2) (by omega))
  have RO2 := hide ((unhide RO1').below hb2 (by omega))
  have SS2 := hide (((unhide SS1).keep hb2 (by omega)).putR (b := w.heap.size + 1 + 1) (o := 2) (u := .slice p2 ks.length q2) (by omega))
  have ST2 := hide ((unhide S2).foot.putR (b := w.heap.size + 1 + 1) (o := 2) (u := .slice p2 ks.length q2) (by omega))
  clear RA1 RR1 RO1' SS1 S2
  obtain ⟨o0, o1, o2, o3, t0, t1, t2, t3⟩ := (unhide RO2).facts
  obtain ⟨f0, f1, f2, f3, -⟩ := (unhide RA2).facts
  go_wp2_with fail
  have RO2' := hide ((unhide RO2).put2 (u := .slice p2 ks.length q2))
  have hB2' := bput hB2 (b := w.heap.size + 1 + 1) (o := 2) (by omega) (.slice p2 ks.length q2)
  have hz2' := sz_put w2 ⟨w.heap.size + 1 + 1, 2, none⟩ (.slice p2 ks.length q2)
  generalize w2.setCell ⟨w.heap.size + 1 + 1, 2, none⟩ (.slice p2 ks.length q2) = W2 at *
  clear RO2 o0 o1 o2 o3 t0 t1 t2 t3 f0 f1 f2 f3 hB2
  refine (toIntSS_w _ pss _ ((unhide U3).below hB2' (Nat.le_refl _)) i8 i7).mono ?_
  rintro e w3 ⟨v3, rfl, hs3, hb3⟩
  have hz3 := hb3.size
  have hB3 : Below w.heap.size w w3 := hB2'.trans (hb3.mono (by omega))
  have S3 := hide hs3
  obtain ⟨p3, q3, rfl, -⟩ := hs3
  have RR3 := hide (((unhide RR2).below hb3 (by omega)).other (b' := w.heap.size + 1 + 1) (o := 3) (u := .slice p3 pss.length q3) (by omega))
  have RO3 := hide ((unhide RO2').below hb3 (by omega))
  have SS3 := hide (((unhide SS2).keep hb3 (by omega)).putR (b := w.heap.size + 1 + 1) (o := 3) (u := .slice p3 pss.length q3) (by omega))
  have ST3 := hide (((unhide ST2).keepR hb3 (by omega)).putR (b := w.heap.size + 1 + 1) (o := 3) (u := .slice p3 pss.length q3) (by omega))
  have SP3 := hide ((unhide S3).putR (b := w.heap.size + 1 + 1) (o := 3) (u := .slice p3 pss.length q3) (by omega))
  clear RA2 RR2 RO2' SS2 ST2 S3
  obtain ⟨o0, o1, o2, o3, t0, t1, t2, t3⟩ := (unhide RO3).facts
  obtain ⟨x0, x1, x2, x3, -⟩ := ((unhide RO3).put3 (u := .slice p3 pss.length q3)).facts
  obtain ⟨r0, r1, r2, r3, y0, y1, y2, y3⟩ := (unhide RR3).facts
  go_wp2_with fail
  have hB3' := bput hB3 (b := w.heap.size + 1 + 1) (o := 3) (by omega) (.slice p3 pss.length q3)
  have hz3' := sz_put w3 ⟨w.heap.size + 1 + 1, 3, none⟩ (.slice p3 pss.length q3)
  obtain ⟨e0, e1, e2, e3, -⟩ := ((unhide RR3).all (.int .i64 base) (.slice p1 xss.length q1) (.slice p2 ks.length q2) (.slice p3 pss.length q3)).facts
  refine bodyPost_ret (v := .agg #[.int .i64 base, .slice p1 xss.length q1, .slice p2 ks.length q2, .slice p3 pss.length q3]) (by simp [results, Try.results7, go_sem, e0, e1, e2, e3]) rfl ⟨_, rfl, ?_, bput4 hB3' (by omega) _ _ _ _⟩
  have HF : SegF V.heap.size (w3.setCell ⟨w.heap.size + 1 + 1, 3, none⟩ (.slice p3 pss.length q3)).heap.size (w3.setCell ⟨w.heap.size + 1 + 1, 3, none⟩ (.slice p3 pss.length q3)) (.agg #[.int .i64 base, .slice p1 xss.length q1, .slice p2 ks.length q2, .slice p3 pss.length q3]) base xss ks pss :=
    SegF.mk3 (w1 := w1) (w2 := w2) ((unhide SS3).mono (fun k hk => hk)) ((unhide ST3).mono (fun k hk => by unfold Rng at *; omega)) ((unhide SP3).mono (fun k hk => by unfold Rng at *; omega)) (by omega) (by omega) (by omega)
  rw [sz_put4]
  exact (HF.put4 (by omega) _ _ _ _).low (by omega) (Nat.le_refl _)

end Go.Proofs.Ytpkghafpelilfaa
