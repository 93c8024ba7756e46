import Derived.Test.YtbgjgaejfkdceaaGreatP9
import Derived.Test.YtbgjgaejfkdceaaGreatL8
namespace Go.Proofs.YtbgjgaejfkdceaaGreat
open Go.RowKit

theorem bput2 {m b : Nat} {w w' : World} (h : Below m w w') (hb : m ≤ b) (d0 d1 : Value) : Below m w ((w'.setCell ⟨b, 0, none⟩ d0).setCell ⟨b, 1, none⟩ d1) := bput (bput h hb _) hb _
theorem StF.mk2 {w1 w3 : World} {lo : Nat} {v1 v2 : Value} {bss oss : List (List Int)} (h1 : SsF mB 0 (Rng lo w1.heap.size) w3 v1 bss) (h2 : SsF mB 0 (Rng w1.heap.size w3.heap.size) w3 v2 oss) (z1 : w1.heap.size ≤ w3.heap.size) (z0 : lo ≤ w1.heap.size) : StF lo w3.heap.size w3 (.agg #[v1, v2]) bss oss := by
  refine ⟨v1, v2, _, _, rfl, h1, h2, fun k hk => ?_, fun k hk h => ?_⟩ <;> unfold Rng at * <;> omega

set_option maxHeartbeats 4000000 in
set_option maxRecDepth 100000 in
theorem toState_w (v : Value) (bss oss : List (List Int)) (w : World) (hv : StRd w v bss oss) (i1 : tot bss ≤ 1048576) (i2 : bss.length ≤ 1048576) (i3 : tot oss ≤ 1048576) (i4 : oss.length ≤ 1048576) :
    Calls Tryz.prog 7 #[v] w fun e w' => ∃ u, e = .returned u ∧ StF w.heap.size w'.heap.size w' u bss oss ∧ Below w.heap.size w w' := by
  obtain ⟨sv, ov, rfl, u1, u2⟩ := hv
  have U1 := hide u1
  have U2 := hide u2
  obtain ⟨a1, c1, rfl, -⟩ := id u1
  obtain ⟨a2, c2, rfl, -⟩ := id u2
  clear u1 u2
  have hb0 := below3 w (.cells #[.slice a1 bss.length c1, .slice a2 oss.length c2] 24) (.cells #[.slice none 0 0, .slice none 0 0] 27) (.cells #[.slice none 0 0, .slice none 0 0] 27)
  have RA := ((Row2.new w 24 (.slice a1 bss.length c1) (.slice a2 oss.length c2)).alloc (.cells #[.slice none 0 0, .slice none 0 0] 27)).alloc (.cells #[.slice none 0 0, .slice none 0 0] 27)
  have RR := (Row2.new (w.alloc (.cells #[.slice a1 bss.length c1, .slice a2 oss.length c2] 24)) 27 (.slice none 0 0) (.slice none 0 0)).alloc (.cells #[.slice none 0 0, .slice none 0 0] 27)
  have RO := Row2.new ((w.alloc (.cells #[.slice a1 bss.length c1, .slice a2 oss.length c2] 24)).alloc (.cells #[.slice none 0 0, .slice none 0 0] 27)) 27 (.slice none 0 0) (.slice none 0 0)
  rw [sz_alloc] at RR
  rw [sz_alloc, sz_alloc] at RO
  have hzV : (((w.alloc (.cells #[.slice a1 bss.length c1, .slice a2 oss.length c2] 24)).alloc (.cells #[.slice none 0 0, .slice none 0 0] 27)).alloc (.cells #[.slice none 0 0, .slice none 0 0] 27)).heap.size = w.heap.size + 3 := by simp
  go_enter Tryz.func7, Tryz.ntmps7
  go_wp2_with fail
  generalize ((w.alloc (.cells #[.slice a1 bss.length c1, .slice a2 oss.length c2] 24)).alloc (.cells #[.slice none 0 0, .slice none 0 0] 27)).alloc (.cells #[.slice none 0 0, .slice none 0 0] 27) = V at *
  refine (toByteSS_w _ bss _ ((unhide U1).below hb0 (Nat.le_refl _)) i2 i1).mono ?_
  rintro e w1 ⟨v1, rfl, hs1, hb1⟩
  have hz1 := hb1.size
  have hB1 : Below w.heap.size w w1 := hb0.trans (hb1.mono (by omega))
  have S1 := hide hs1
  obtain ⟨p1, q1, rfl, -⟩ := hs1
  have RA1 := hide ((RA.below hb1 (by omega)).other (b' := w.heap.size + 1 + 1) (o := 0) (u := .slice p1 bss.length q1) (by omega))
  have RR1 := hide ((RR.below hb1 (by omega)).other (b' := w.heap.size + 1 + 1) (o := 0) (u := .slice p1 bss.length q1) (by omega))
  have RO1 := hide (RO.below hb1 (by omega))
  clear RA RR RO
  obtain ⟨o0, o1, t0, t1⟩ := (unhide RO1).facts4
  obtain ⟨f0, f1, -⟩ := (unhide RA1).facts4
  go_wp2_with fail
  have SS1 := hide ((unhide S1).putR (b := w.heap.size + 1 + 1) (o := 0) (u := .slice p1 bss.length q1) (by omega))
  have RO1' := hide ((unhide RO1).put0 (u := .slice p1 bss.length q1))
  have hB1' := bput hB1 (b := w.heap.size + 1 + 1) (o := 0) (by omega) (.slice p1 bss.length q1)
  have hz1' := sz_put w1 ⟨w.heap.size + 1 + 1, 0, none⟩ (.slice p1 bss.length q1)
  generalize w1.setCell ⟨w.heap.size + 1 + 1, 0, none⟩ (.slice p1 bss.length q1) = W1 at *
  clear S1 RO1 o0 o1 t0 t1 f0 f1 hB1
  refine (toByteSS_w _ oss _ ((unhide U2).below hB1' (Nat.le_refl _)) i4 i3).mono ?_
  rintro e w3 ⟨v3, rfl, hs3, hb3⟩
  have hz3 := hb3.size
  have hB3 : Below w.heap.size w w3 := hB1'.trans (hb3.mono (by omega))
  have S3 := hide hs3
  obtain ⟨p3, q3, rfl, -⟩ := hs3
  have RR3 := hide (((unhide RR1).below hb3 (by omega)).other (b' := w.heap.size + 1 + 1) (o := 1) (u := .slice p3 oss.length q3) (by omega))
  have RO3 := hide ((unhide RO1').below hb3 (by omega))
  have SS3 := hide (((unhide SS1).keep hb3 (by omega)).putR (b := w.heap.size + 1 + 1) (o := 1) (u := .slice p3 oss.length q3) (by omega))
  have SP3 := hide ((unhide S3).putR (b := w.heap.size + 1 + 1) (o := 1) (u := .slice p3 oss.length q3) (by omega))
  clear RA1 RR1 RO1' SS1 S3
  obtain ⟨o0, o1, t0, t1⟩ := (unhide RO3).facts4
  obtain ⟨x0, x1, -⟩ := ((unhide RO3).put1 (u := .slice p3 oss.length q3)).facts4
  obtain ⟨r0, r1, y0, y1⟩ := (unhide RR3).facts4
  go_wp2_with fail
  have hB3' := bput hB3 (b := w.heap.size + 1 + 1) (o := 1) (by omega) (.slice p3 oss.length q3)
  have hz3' := sz_put w3 ⟨w.heap.size + 1 + 1, 1, none⟩ (.slice p3 oss.length q3)
  obtain ⟨e0, e1, -⟩ := (((unhide RR3).put0 (u := .slice p1 bss.length q1)).put1 (u := .slice p3 oss.length q3)).facts4
  refine bodyPost_ret (v := .agg #[.slice p1 bss.length q1, .slice p3 oss.length q3]) (by simp [results, Tryz.results7, go_sem, e0, e1]) rfl ⟨_, rfl, ?_, bput2 hB3' (by omega) _ _⟩
  have HF : StF V.heap.size (w3.setCell ⟨w.heap.size + 1 + 1, 1, none⟩ (.slice p3 oss.length q3)).heap.size (w3.setCell ⟨w.heap.size + 1 + 1, 1, none⟩ (.slice p3 oss.length q3)) (.agg #[.slice p1 bss.length q1, .slice p3 oss.length q3]) bss oss :=
    StF.mk2 (w1 := w1) ((unhide SS3).mono (fun k hk => hk)) ((unhide SP3).mono (fun k hk => by unfold Rng at *; omega)) (by omega) (by omega)
  simp only [sz_put] at HF ⊢
  exact ((HF.put (Or.inl (by omega))).put (Or.inl (by omega))).low (by omega) (Nat.le_refl _)

end Go.Proofs.YtbgjgaejfkdceaaGreat
