import Derived.Test.YtidjmaakhldpgaaL6
namespace Go.Proofs.Ytidjmaakhldpgaa
open Go.RowKit

def MrgWant (e : Ending) (lo : Nat) (w' : World) (J : Prop) (base : Int) (zss : List (List Int)) : Prop := ∃ v b xs ks pss c, e = .returned (.tuple #[v, .int .i64 c]) ∧ MrgIs J base zss b xs ks pss c ∧ SegAt lo w' v b xs ks pss
theorem MrgWant.no {lo : Nat} {w' : World} {J : Prop} {base : Int} {zss : List (List Int)} (h : ¬ J) : MrgWant (.returned (.tuple #[.agg #[.int .i64 0, .slice none 0 0, .slice none 0 0, .slice none 0 0], .int .i64 4])) lo w' J base zss :=
  ⟨_, 0, [], [], [], 4, rfl, Or.inr ⟨h, rfl, rfl, rfl, rfl, rfl⟩, SegAt.zero _ _⟩
theorem MrgWant.unfit {lo : Nat} {w' : World} {J : Prop} {base : Int} {zss : List (List Int)} (h : J) (hf : ¬ Fits base zss) : MrgWant (.returned (.tuple #[.agg #[.int .i64 0, .slice none 0 0, .slice none 0 0, .slice none 0 0], .int .i64 4])) lo w' J base zss :=
  ⟨_, 0, [], [], [], 4, rfl, Or.inl ⟨h, Or.inr ⟨hf, rfl, rfl, rfl, rfl, rfl⟩⟩, SegAt.zero _ _⟩

set_option maxHeartbeats 8000000 in
set_option maxRecDepth 100000 in
theorem specMerge_any (u v : Value) (base base' : Int) (xss pss yss pss' : List (List Int)) (ks ks' : List Int) (w : World) (hu : SegRd w u base xss ks pss) (hv : SegRd w v base' yss ks' pss') (hi : SegIn base xss ks pss) (hi' : SegIn base' yss ks' pss') (hT : tot xss + tot yss ≤ 1048576) (hL : xss.length + yss.length ≤ 1048576) :
    Calls Try.prog 22 #[u, v] w fun e w' => MrgWant e w.heap.size w' (Joins base xss ks pss base' yss ks' pss') base (xss ++ yss) ∧ Below w.heap.size w w' := by
  have HU := hide hu
  have HV := hide hv
  have HI := hide hi
  have HI' := hide hi'
  obtain ⟨a1, c1, a2, c2, a3, c3, rfl, u1, u2, u3⟩ := hu.parts
  obtain ⟨b1, d1, b2, d2, b3, d3, rfl, v1, v2, v3⟩ := hv.parts
  have U1 := hide u1
  have V1 := hide v1
  have hb0 := below3 w (.cells #[.int .i64 base, .slice a1 xss.length c1, .slice a2 ks.length c2, .slice a3 pss.length c3] 34) (.cells #[.int .i64 base', .slice b1 yss.length d1, .slice b2 ks'.length d2, .slice b3 pss'.length d3] 34) (.cells #[.int .i64 0, .slice none 0 0, .slice none 0 0, .slice none 0 0] 34)
  have RA := ((Row4.new w 34 (.int .i64 base) (.slice a1 xss.length c1) (.slice a2 ks.length c2) (.slice a3 pss.length c3)).alloc (.cells #[.int .i64 base', .slice b1 yss.length d1, .slice b2 ks'.length d2, .slice b3 pss'.length d3] 34)).alloc (.cells #[.int .i64 0, .slice none 0 0, .slice none 0 0, .slice none 0 0] 34)
  have RB := (Row4.new (w.alloc (.cells #[.int .i64 base, .slice a1 xss.length c1, .slice a2 ks.length c2, .slice a3 pss.length c3] 34)) 34 (.int .i64 base') (.slice b1 yss.length d1) (.slice b2 ks'.length d2) (.slice b3 pss'.length d3)).alloc (.cells #[.int .i64 0, .slice none 0 0, .slice none 0 0, .slice none 0 0] 34)
  have RR := Row4.new ((w.alloc (.cells #[.int .i64 base, .slice a1 xss.length c1, .slice a2 ks.length c2, .slice a3 pss.length c3] 34)).alloc (.cells #[.int .i64 base', .slice b1 yss.length d1, .slice b2 ks'.length d2, .slice b3 pss'.length d3] 34)) 34 (.int .i64 0) (.slice none 0 0) (.slice none 0 0) (.slice none 0 0)
  rw [sz_alloc] at RB
  rw [sz_alloc, sz_alloc] at RR
  have hzV : (((w.alloc (.cells #[.int .i64 base, .slice a1 xss.length c1, .slice a2 ks.length c2, .slice a3 pss.length c3] 34)).alloc (.cells #[.int .i64 base', .slice b1 yss.length d1, .slice b2 ks'.length d2, .slice b3 pss'.length d3] 34)).alloc (.cells #[.int .i64 0, .slice none 0 0, .slice none 0 0, .slice none 0 0] 34)).heap.size = w.heap.size + 3 := by simp
  clear hu hv u1 u2 u3 v1 v2 v3
  go_enter Try.func22, Try.ntmps22
  go_wp2_with fail
  generalize ((w.alloc (.cells #[.int .i64 base, .slice a1 xss.length c1, .slice a2 ks.length c2, .slice a3 pss.length c3] 34)).alloc (.cells #[.int .i64 base', .slice b1 yss.length d1, .slice b2 ks'.length d2, .slice b3 pss'.length d3] 34)).alloc (.cells #[.int .i64 0, .slice none 0 0, .slice none 0 0, .slice none 0 0] 34) = V at *
  have hVz : w.heap.size + 3 ≤ V.heap.size := by omega
  clear hzV
  refine (l4valid_any _ base xss pss ks _ ((unhide HU).below hb0 (Nat.le_refl _)) hi).mono ?_
  rintro e w1 ⟨hr, hb1⟩
  have hz1 := hb1.size
  have hB1 : Below w.heap.size w w1 := hb0.trans (hb1.mono (by omega))
  have RA1 := hide (RA.below hb1 (by omega))
  have RB1 := hide (RB.below hb1 (by omega))
  have RR1 := hide (RR.below hb1 (by omega))
  clear RA RB RR hi
  rcases hr.cases with ⟨rfl, hm⟩ | ⟨rfl, hm⟩
  · have Hm := hide hm
    have h0 := hm.1.1
    have h1 := hm.1.2.2.1
    clear hm hr
    obtain ⟨g0, g1, g2, g3, -⟩ := (unhide RB1).facts
    go_wp2_with fail
    refine (l4valid_any _ base' yss pss' ks' _ ((unhide HV).below hB1 (Nat.le_refl _)) hi').mono ?_
    rintro e w2 ⟨hr, hb2⟩
    have hz2 := hb2.size
    have hB2 : Below w.heap.size w w2 := hB1.trans (hb2.mono (by omega))
    have RA2 := hide ((unhide RA1).below hb2 (by omega))
    have RB2 := hide ((unhide RB1).below hb2 (by omega))
    have RR2 := hide ((unhide RR1).below hb2 (by omega))
    clear RA1 RB1 RR1 hi' g0 g1 g2 g3
    rcases hr.cases with ⟨rfl, hm2⟩ | ⟨rfl, hm2⟩
    · have Hm2 := hide hm2
      have k0 := hm2.1.1
      have k1 := hm2.1.2.2.1
      clear hm2 hr
      obtain ⟨f0, f1, f2, f3, -⟩ := (unhide RA2).facts
      obtain ⟨g0, g1, g2, g3, -⟩ := (unhide RB2).facts
      obtain ⟨r0, r1, r2, r3, t0, t1, t2, t3⟩ := (unhide RR2).facts
      by_cases hbb : base' = base + xss.length
      · have HJ : Hid (Joins base xss ks pss base' yss ks' pss') := ⟨unhide Hm, unhide Hm2, hbb⟩
        have hbb' : (base' != base + (xss.length : Int)) = false := by simp [hbb]
        have Hbb := hide hbb
        clear hbb
        obtain ⟨vs, hvn, hvs, hvc, hve⟩ := ((unhide U1).below hB2 (Nat.le_refl _)).vals
        obtain ⟨us, hun, hus, huc, hue⟩ := ((unhide V1).below hB2 (Nat.le_refl _)).vals
        have Hvs := hide hvs
        have Hus := hide hus
        have Hve := hide hve
        have Hue := hide hue
        have HN := hide (And.intro hvn hun)
        have HOv : Hid (∀ u ∈ vs, u.oneCell' = true) := vals_one hvn hve
        have HOu : Hid (∀ u ∈ us, u.oneCell' = true) := vals_one hun hue
        have hvl : vs.length ≤ 1048576 := by omega
        have hul : vs.length + us.length ≤ 1048576 := by omega
        have HBy : Hid (∀ x ∈ xss ++ yss, Bytes x) := fun x hx => by
          rcases List.mem_append.1 hx with h | h
          · exact (unhide HI).bytes x h
          · exact (unhide HI').bytes x h
        have hTt : tot (xss ++ yss) ≤ 1048576 := by rw [tot_app]; exact hT
        have hLt : (xss ++ yss).length ≤ 1048576 := by rw [List.length_append]; exact hL
        clear hvs hus hve hue hvc huc hvn hun
        have hS : Hid (∀ W' : World, Below w2.heap.size w2 W' → W'.cell? ⟨w.heap.size, 0, none⟩ = some (.int .i64 base) ∧ W'.cell? ⟨w.heap.size, 1, none⟩ = some (.slice a1 xss.length c1) ∧ W'.cell? ⟨w.heap.size + 1, 1, none⟩ = some (.slice b1 yss.length d1)) := fun W' hW => by
          have h1 := ((unhide RA2).below hW (by omega)).facts
          have h2 := ((unhide RB2).below hW (by omega)).facts
          exact ⟨h1.1, h1.2.1, h2.2.1⟩
        have HA : Hid (∀ (W w8 : World) (v8 : Value), w8.ownsRow w2.heap.size 22 1 v8 (vs ++ us).length (vs ++ us) → Below w2.heap.size w2 w8 → SsAt mB 0 w8.heap.size w8 v8 (xss ++ yss)) := fun W w8 v8 h1 h2 => own_two (vs := vs) (us := us) h1 (unhide HN).1 (unhide HN).2 (unhide Hve) (unhide Hue) h2 rfl
        clear Hve Hue
        go_wp2_with ((first
          | (at_builtin; refine app_vals rfl _ _ rfl w2.heap.size _ rfl [] (World.ownsRow_nil _ _ _ _) (Nat.le_refl _) _ rfl vs (by exact unhide Hvs) (unhide HOv) (by simpa using hvl) ?_; intro v3 w3 hb3 ho3 hoc3; obtain ⟨fw0, fw1, gw1⟩ := unhide hS _ hb3; have hz3 := hb3.size; have Ho3 : Hid (w3.ownsRow w2.heap.size 22 1 v3 vs.length vs) := ho3; have HU3 := hide ((unhide Hus).below hb3 (Nat.le_refl _)); obtain ⟨oa3, oc3, rfl⟩ := own_is (unhide Ho3); clear ho3)
          | (at_builtin; refine app_vals rfl _ _ rfl w2.heap.size _ rfl vs (by exact unhide Ho3) hz3 _ rfl us (by exact unhide HU3) (unhide HOu) hul ?_; intro v4 w4 hb4 ho4 hoc4; have hB4 : Below w2.heap.size w2 w4 := hb3.trans hb4; obtain ⟨fx0, fx1, gx1⟩ := unhide hS _ hB4; have hz4 := hB4.size; have HA4 := hide (unhide HA w4 _ _ ho4 hB4); rw [List.length_append] at ho4; obtain ⟨oa4, oc4, rfl⟩ := own_is ho4; clear ho4)))
        refine (l4bytes_any _ (xss ++ yss) _ (by exact unhide HA4) hTt hLt).mono ?_
        rintro e w5 ⟨rfl, rfl⟩
        have hB5 : Below w.heap.size w w5 := hB2.trans (hB4.mono (by omega))
        have RR5 := hide ((unhide RR2).below hB4 (by omega))
        clear r0 r1 r2 r3 t0 t1 t2 t3
        obtain ⟨r0, r1, r2, r3, t0, t1, t2, t3⟩ := (unhide RR5).facts
        by_cases h20 : (20000 : Int) < (tot (xss ++ yss) : Int)
        · have HF : Hid (¬ Fits base (xss ++ yss)) := fun h => by have := (unhide HJ).fits.1 h; omega
          go_wp2_with fail
          obtain ⟨e0, e1, e2, e3, -⟩ := ((unhide RR5).all (.int .i64 0) (.slice none 0 0) (.slice none 0 0) (.slice none 0 0)).facts
          exact bodyPost_ret (v := .tuple #[.agg #[.int .i64 0, .slice none 0 0, .slice none 0 0, .slice none 0 0], .int .i64 4]) (by simp [results, Try.results22, go_sem, e0, e1, e2, e3]) rfl ⟨MrgWant.unfit (unhide HJ) (unhide HF), bput4 hB5 (by omega) _ _ _ _⟩
        · have HF : Hid (Fits base (xss ++ yss)) := (unhide HJ).fits.2 (by omega)
          have hbl : base + ((xss ++ yss).length : Int) ≤ 1000 := (unhide HF).2.2.1
          go_wp2_with fail
          refine (l4build_any base _ (xss ++ yss) _ (by exact unhide HA4) (unhide HBy) hTt hLt (by omega) (by omega)).mono ?_
          rintro e w6 ⟨⟨vb, kg, pg, rfl, hsg, hat⟩, hb6⟩
          have hz6 := hb6.size
          have hB6 : Below w.heap.size w w6 := hB5.trans (hb6.mono (by omega))
          have Hsg := hide hsg
          have Hat := hide hat
          have RR6 := hide ((unhide RR5).below hb6 (by omega))
          clear r0 r1 r2 r3 t0 t1 t2 t3
          obtain ⟨r0, r1, r2, r3, t0, t1, t2, t3⟩ := (unhide RR6).facts
          obtain ⟨p1, q1, p2, q2, p3, q3, rfl, -⟩ := hat.rd.parts
          clear hat hsg hb6
          go_wp2_with fail
          obtain ⟨e0, e1, e2, e3, -⟩ := ((unhide RR6).all (.int .i64 base) (.slice p1 (xss.length + yss.length) q1) (.slice p2 kg.length q2) (.slice p3 pg.length q3)).facts
          rw [List.length_append] at Hat
          exact bodyPost_ret (v := .tuple #[.agg #[.int .i64 base, .slice p1 (xss.length + yss.length) q1, .slice p2 kg.length q2, .slice p3 pg.length q3], .int .i64 0]) (by simp [results, Try.results22, go_sem, e0, e1, e2, e3]) rfl ⟨⟨_, base, xss ++ yss, kg, pg, 0, rfl, Or.inl ⟨unhide HJ, Or.inl ⟨unhide HF, rfl, rfl, unhide Hsg, rfl⟩⟩, ((unhide Hat).put4 (by omega) _ _ _ _).low (by omega)⟩, bput4 hB6 (by omega) _ _ _ _⟩
      · have HJ : Hid (¬ Joins base xss ks pss base' yss ks' pss') := fun h => hbb h.2.2
        have hbb' : (base' != base + (xss.length : Int)) = true := by simp [hbb]
        clear hbb
        go_wp2_with fail
        obtain ⟨e0, e1, e2, e3, -⟩ := ((unhide RR2).all (.int .i64 0) (.slice none 0 0) (.slice none 0 0) (.slice none 0 0)).facts
        exact bodyPost_ret (v := .tuple #[.agg #[.int .i64 0, .slice none 0 0, .slice none 0 0, .slice none 0 0], .int .i64 4]) (by simp [results, Try.results22, go_sem, e0, e1, e2, e3]) rfl ⟨MrgWant.no (unhide HJ), bput4 hB2 (by omega) _ _ _ _⟩
    · have HJ : Hid (¬ Joins base xss ks pss base' yss ks' pss') := fun h => hm2 h.2.1
      clear hm2 hr
      obtain ⟨r0, r1, r2, r3, t0, t1, t2, t3⟩ := (unhide RR2).facts
      go_wp2_with fail
      obtain ⟨e0, e1, e2, e3, -⟩ := ((unhide RR2).all (.int .i64 0) (.slice none 0 0) (.slice none 0 0) (.slice none 0 0)).facts
      exact bodyPost_ret (v := .tuple #[.agg #[.int .i64 0, .slice none 0 0, .slice none 0 0, .slice none 0 0], .int .i64 4]) (by simp [results, Try.results22, go_sem, e0, e1, e2, e3]) rfl ⟨MrgWant.no (unhide HJ), bput4 hB2 (by omega) _ _ _ _⟩
  · have HJ : Hid (¬ Joins base xss ks pss base' yss ks' pss') := fun h => hm h.1
    clear hm hr
    obtain ⟨r0, r1, r2, r3, t0, t1, t2, t3⟩ := (unhide RR1).facts
    go_wp2_with fail
    obtain ⟨e0, e1, e2, e3, -⟩ := ((unhide RR1).all (.int .i64 0) (.slice none 0 0) (.slice none 0 0) (.slice none 0 0)).facts
    exact bodyPost_ret (v := .tuple #[.agg #[.int .i64 0, .slice none 0 0, .slice none 0 0, .slice none 0 0], .int .i64 4]) (by simp [results, Try.results22, go_sem, e0, e1, e2, e3]) rfl ⟨MrgWant.no (unhide HJ), bput4 hB1 (by omega) _ _ _ _⟩

end Go.Proofs.Ytidjmaakhldpgaa
