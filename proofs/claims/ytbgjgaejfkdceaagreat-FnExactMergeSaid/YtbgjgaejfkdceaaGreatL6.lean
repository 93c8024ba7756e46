import Derived.Test.YtbgjgaejfkdceaaGreatL4
import Derived.Test.YtbgjgaejfkdceaaGreatL5
import Derived.Test.YtbgjgaejfkdceaaGreatL8
import Derived.Test.YtbgjgaejfkdceaaGreatVl
namespace Go.Proofs.YtbgjgaejfkdceaaGreat
open Go.RowKit

/-- Lines behind lines, as one row. -/
theorem own_two {base n N : Nat} {w0 w : World} {v : Value} {xss yss : List (List Int)} {vs us : List Value} (h : w.ownsRow base 25 1 v n (vs ++ us)) (hn : vs.length = xss.length) (hm : us.length = yss.length)
    (h1 : ∀ i : Nat, i < xss.length → SlAt mB 0 0 N w0 (vs[i]?.getD undef) (xss[i]?.getD []) ∧ CapOk (vs[i]?.getD undef)) (h2 : ∀ i : Nat, i < yss.length → SlAt mB 0 0 N w0 (us[i]?.getD undef) (yss[i]?.getD []) ∧ CapOk (us[i]?.getD undef)) (hb : Below N w0 w) (hN : N = w0.heap.size) : SsAt mB 0 w.heap.size w v (xss ++ yss) := by
  have hlen := h.1
  rw [List.length_append, Nat.mul_one] at hlen
  have hl2 : (xss ++ yss).length = n := by rw [List.length_append]; omega
  rcases h.2 with ⟨rfl, hz⟩ | ⟨g, cap, cur, rfl, hbg, hg, hnc, hcm, hcs, htake⟩
  · exact ⟨none, 0, by rw [hl2, hz], ⟨by omega, Nat.zero_le _⟩, fun hp => by omega⟩
  · refine ⟨_, cap, by rw [hl2], ⟨by omega, hcm⟩, fun hp => ⟨g, 0, rfl, (h.lt g rfl).2, fun i hi => ?_⟩⟩
    subst hN
    have hb' : ∀ {s : Value} {x : List Int}, SlAt mB 0 0 w0.heap.size w0 s x → SlAt mB 0 0 w.heap.size w s x := fun hs => hs.below hb (Nat.le_refl _)
    by_cases hlt : i < xss.length
    · refine ⟨vs[i]?.getD undef, ?_, ?_, (h1 i hlt).2⟩
      · rw [Nat.zero_add, h.cellAt i (by omega), List.getElem?_append_left (by omega), List.getElem?_eq_getElem (by omega)]
        rfl
      · rw [List.getElem?_append_left hlt]
        exact hb' (h1 i hlt).1
    · rw [hl2] at hi
      refine ⟨us[i - xss.length]?.getD undef, ?_, ?_, (h2 _ (by omega)).2⟩
      · rw [Nat.zero_add, h.cellAt i (by omega), List.getElem?_append_right (by omega), hn, List.getElem?_eq_getElem (by omega)]
        rfl
      · rw [List.getElem?_append_right (by omega)]
        exact hb' (h2 _ (by omega)).1

/-- A row of two lists of lines. -/
theorem two_rows {w W : World} {u v : Value} {vs us : List Value} {t : TypeId} (hP : Pushd w W (.cells #[u, v] t)) (hu : SlAt id undef 0 w.heap.size w u vs) (hv : SlAt id undef 0 w.heap.size w v us) (cu : CapOk u) (cv : CapOk v) : SsAt id undef W.heap.size W (.slice (some ⟨w.heap.size, 0, none⟩) 2 2) [vs, us] := by
  refine ⟨_, 2, rfl, ⟨Nat.le_refl _, by unfold maxLen; omega⟩, fun _ => ⟨w.heap.size, 0, rfl, by rw [hP.size]; omega, fun i hi => ?_⟩⟩
  have hn := hP.news
  have hi2 : i < 2 := hi
  match i, hi2 with
  | 0, _ => exact ⟨u, hn 0 u rfl, hu.below hP.below (Nat.le_refl _), cu⟩
  | 1, _ => exact ⟨v, hn 1 v rfl, hv.below hP.below (Nat.le_refl _), cv⟩

/-- Both segments are such as can be merged. -/
def Joins (base : Int) (xss : List (List Int)) (ks : List Int) (pss : List (List Int)) (base' : Int) (yss : List (List Int)) (ks' : List Int) (pss' : List (List Int)) : Prop := Valid base xss ks pss ∧ Valid base' yss ks' pss' ∧ base' = base + xss.length
theorem Joins.fits {base base' : Int} {xss pss yss pss' : List (List Int)} {ks ks' : List Int} (h : Joins base xss ks pss base' yss ks' pss') : Fits base (xss ++ yss) ↔ tot (xss ++ yss) ≤ 20000 := by
  obtain ⟨⟨⟨a0, a1, a2, a3, a4⟩, -⟩, ⟨⟨b0, b1, b2, b3, b4⟩, -⟩, rfl⟩ := h
  refine ⟨fun h => h.2.2.2.2, fun h => ⟨a0, by rw [List.length_append]; omega, by rw [List.length_append]; omega, fun i hi j hj => ?_, h⟩⟩
  by_cases hlt : i < xss.length
  · rw [List.getElem?_append_left hlt] at hj ⊢
    exact a3 i hlt j hj
  · rw [List.getElem?_append_right (by omega)] at hj ⊢
    rw [List.length_append] at hi
    exact b3 _ (by omega) j hj
/-- What both sides answer for two segments, as data. -/
def MrgIs (J : Prop) (base : Int) (zss : List (List Int)) (b : Int) (xs : List (List Int)) (ks : List Int) (pss : List (List Int)) (c : Int) : Prop :=
  (J ∧ SegIs base zss b xs ks pss c) ∨ (¬ J ∧ b = 0 ∧ xs = [] ∧ ks = [] ∧ pss = [] ∧ c = 4)
theorem MrgIs.uniq {J : Prop} {base b b' c c' : Int} {zss xs xs' pss pss' : List (List Int)} {ks ks' : List Int} (h : MrgIs J base zss b xs ks pss c) (h' : MrgIs J base zss b' xs' ks' pss' c') : b = b' ∧ xs = xs' ∧ ks = ks' ∧ pss = pss' ∧ c = c' := by
  rcases h with ⟨hj, h⟩ | ⟨hj, rfl, rfl, rfl, rfl, rfl⟩
  · rcases h' with ⟨_, h'⟩ | ⟨hj', _⟩
    · exact h.uniq h'
    · exact absurd hj hj'
  · rcases h' with ⟨hj', _⟩ | ⟨_, rfl, rfl, rfl, rfl, rfl⟩
    · exact absurd hj' hj
    · exact ⟨rfl, rfl, rfl, rfl, rfl⟩
def MrgGot (e : Ending) (lo : Nat) (w' : World) (J : Prop) (base : Int) (zss : List (List Int)) : Prop := ∃ v b xs ks pss c, e = .returned (.tuple #[v, .int .i64 c]) ∧ MrgIs J base zss b xs ks pss c ∧ (tot xs ≤ 1048576 ∧ ks.length ≤ 1048576 ∧ tot pss ≤ 1048576) ∧ SegF lo w'.heap.size w' v b xs ks pss
theorem MrgGot.no {lo : Nat} {w' : World} {J : Prop} {base : Int} {zss : List (List Int)} (h : ¬ J) : MrgGot (.returned (.tuple #[.agg #[.int .i64 0, .slice none 0 0, .slice none 0 0, .slice none 0 0], .int .i64 4])) lo w' J base zss :=
  ⟨_, 0, [], [], [], 4, rfl, Or.inr ⟨h, rfl, rfl, rfl, rfl, rfl⟩, ⟨by simp [tot], by simp, by simp [tot]⟩, SegF.zero _ _ _⟩
theorem MrgGot.yes {e : Ending} {lo : Nat} {w w' : World} {J : Prop} {base : Int} {zss : List (List Int)} (h : J) (hT : tot zss ≤ 1048576) (hg : BuildGot e w w' base zss) (hlo : lo ≤ w.heap.size) : MrgGot e lo w' J base zss := by
  obtain ⟨v, b, xs, ks, pss, c, e1, h1, h2, h3⟩ := hg.is hT
  exact ⟨v, b, xs, ks, pss, c, e1, Or.inl ⟨h, h1⟩, h2, h3.low hlo (Nat.le_refl _)⟩

set_option maxHeartbeats 8000000 in
set_option maxRecDepth 100000 in
theorem implMerge_any (u v : Value) (base base' : Int) (xss pss yss pss' : List (List Int)) (ks ks' : List Int) (w : World) (hu : SegRd w u base xss ks pss) (hv : SegRd w v base' yss ks' pss') (hi : SegIn base xss ks pss) (hi' : SegIn base' yss ks' pss') (hT : tot xss + tot yss ≤ 1048576) (hL : xss.length + yss.length ≤ 1048576) :
    Calls Tryz.prog 48 #[u, v] w fun e w' => MrgGot e w.heap.size w' (Joins base xss ks pss base' yss ks' pss') base (xss ++ yss) ∧ Below w.heap.size w w' := by
  have HU := hide hu
  have HV := hide hv
  have HI := hide hi
  have HI' := hide hi'
  obtain ⟨a1, c1, a2, c2, a3, c3, rfl, u1, u2, u3⟩ := hu.parts
  obtain ⟨b1, d1, b2, d2, b3, d3, rfl, v1, v2, v3⟩ := hv.parts
  have U1 := hide u1
  have V1 := hide v1
  have hb0 := below3 w (.cells #[.int .i64 base, .slice a1 xss.length c1, .slice a2 ks.length c2, .slice a3 pss.length c3] 56) (.cells #[.int .i64 base', .slice b1 yss.length d1, .slice b2 ks'.length d2, .slice b3 pss'.length d3] 56) (.cells #[.int .i64 0, .slice none 0 0, .slice none 0 0, .slice none 0 0] 56)
  have RA := ((Row4.new w 56 (.int .i64 base) (.slice a1 xss.length c1) (.slice a2 ks.length c2) (.slice a3 pss.length c3)).alloc (.cells #[.int .i64 base', .slice b1 yss.length d1, .slice b2 ks'.length d2, .slice b3 pss'.length d3] 56)).alloc (.cells #[.int .i64 0, .slice none 0 0, .slice none 0 0, .slice none 0 0] 56)
  have RB := (Row4.new (w.alloc (.cells #[.int .i64 base, .slice a1 xss.length c1, .slice a2 ks.length c2, .slice a3 pss.length c3] 56)) 56 (.int .i64 base') (.slice b1 yss.length d1) (.slice b2 ks'.length d2) (.slice b3 pss'.length d3)).alloc (.cells #[.int .i64 0, .slice none 0 0, .slice none 0 0, .slice none 0 0] 56)
  have RR := Row4.new ((w.alloc (.cells #[.int .i64 base, .slice a1 xss.length c1, .slice a2 ks.length c2, .slice a3 pss.length c3] 56)).alloc (.cells #[.int .i64 base', .slice b1 yss.length d1, .slice b2 ks'.length d2, .slice b3 pss'.length d3] 56)) 56 (.int .i64 0) (.slice none 0 0) (.slice none 0 0) (.slice none 0 0)
  rw [sz_alloc] at RB
  rw [sz_alloc, sz_alloc] at RR
  have hzV : (((w.alloc (.cells #[.int .i64 base, .slice a1 xss.length c1, .slice a2 ks.length c2, .slice a3 pss.length c3] 56)).alloc (.cells #[.int .i64 base', .slice b1 yss.length d1, .slice b2 ks'.length d2, .slice b3 pss'.length d3] 56)).alloc (.cells #[.int .i64 0, .slice none 0 0, .slice none 0 0, .slice none 0 0] 56)).heap.size = w.heap.size + 3 := by simp
  clear hu hv u1 u2 u3 v1 v2 v3
  go_enter Tryz.func48, Tryz.ntmps48
  go_wp2_with fail
  generalize ((w.alloc (.cells #[.int .i64 base, .slice a1 xss.length c1, .slice a2 ks.length c2, .slice a3 pss.length c3] 56)).alloc (.cells #[.int .i64 base', .slice b1 yss.length d1, .slice b2 ks'.length d2, .slice b3 pss'.length d3] 56)).alloc (.cells #[.int .i64 0, .slice none 0 0, .slice none 0 0, .slice none 0 0] 56) = V at *
  have hVz : w.heap.size + 3 ≤ V.heap.size := by omega
  clear hzV
  refine (validSegment_any _ base xss pss ks _ ((unhide HU).below hb0 (Nat.le_refl _)) hi).mono ?_
  rintro e w1 ⟨hr, hb1⟩
  have hz1 := hb1.size
  have hB1 : Below w.heap.size w w1 := hb0.trans (hb1.mono (by omega))
  have RA1 := hide (RA.below hb1 (by omega))
  have RB1 := hide (RB.below hb1 (by omega))
  have RR1 := hide (RR.below hb1 (by omega))
  clear RA RB RR hi
  rcases hr.cases with ⟨rfl, hm⟩ | ⟨rfl, hm⟩
  · have Hm := hide hm
    have h0 := hm.1.1
    have h1 := hm.1.2.2.1
    clear hm hr
    obtain ⟨g0, g1, g2, g3, -⟩ := (unhide RB1).facts
    go_wp2_with fail
    refine (validSegment_any _ base' yss pss' ks' _ ((unhide HV).below hB1 (Nat.le_refl _)) hi').mono ?_
    rintro e w2 ⟨hr, hb2⟩
    have hz2 := hb2.size
    have hB2 : Below w.heap.size w w2 := hB1.trans (hb2.mono (by omega))
    have RA2 := hide ((unhide RA1).below hb2 (by omega))
    have RB2 := hide ((unhide RB1).below hb2 (by omega))
    have RR2 := hide ((unhide RR1).below hb2 (by omega))
    clear RA1 RB1 RR1 hi' g0 g1 g2 g3
    rcases hr.cases with ⟨rfl, hm2⟩ | ⟨rfl, hm2⟩
    · have Hm2 := hide hm2
      have k0 := hm2.1.1
      have k1 := hm2.1.2.2.1
      clear hm2 hr
      obtain ⟨f0, f1, f2, f3, -⟩ := (unhide RA2).facts
      obtain ⟨g0, g1, g2, g3, -⟩ := (unhide RB2).facts
      obtain ⟨r0, r1, r2, r3, t0, t1, t2, t3⟩ := (unhide RR2).facts
      by_cases hbb : base' = base + xss.length
      · have HJ : Hid (Joins base xss ks pss base' yss ks' pss') := ⟨unhide Hm, unhide Hm2, hbb⟩
        have hbb' : (base' != base + (xss.length : Int)) = false := by simp [hbb]
        have Hbb := hide hbb
        clear hbb
        obtain ⟨vs, hvn, hvs, hvc, hve⟩ := ((unhide U1).below hB2 (Nat.le_refl _)).vals
        obtain ⟨us, hun, hus, huc, hue⟩ := ((unhide V1).below hB2 (Nat.le_refl _)).vals
        have Hvs := hide hvs
        have Hus := hide hus
        have Hve := hide hve
        have Hue := hide hue
        have Hvc := hide hvc
        have Huc := hide huc
        have HN := hide (And.intro hvn hun)
        clear hvs hus hve hue hvc huc hvn hun
        have hS : Hid (∀ W' : World, Below w2.heap.size w2 W' → W'.cell? ⟨w.heap.size, 0, none⟩ = some (.int .i64 base) ∧ W'.cell? ⟨w.heap.size, 1, none⟩ = some (.slice a1 xss.length c1) ∧ W'.cell? ⟨w.heap.size + 1, 1, none⟩ = some (.slice b1 yss.length d1)) := fun W' hW => by
          have h1 := ((unhide RA2).below hW (by omega)).facts
          have h2 := ((unhide RB2).below hW (by omega)).facts
          exact ⟨h1.1, h1.2.1, h2.2.1⟩
        have hS4 : Hid (∀ (W' : World) (y0 y1 y2 y3 : Value), Below w2.heap.size w2 W' → ((((W'.setCell ⟨w.heap.size + 1 + 1, 0, none⟩ y0).setCell ⟨w.heap.size + 1 + 1, 1, none⟩ y1).setCell ⟨w.heap.size + 1 + 1, 2, none⟩ y2).setCell ⟨w.heap.size + 1 + 1, 3, none⟩ y3).cell? ⟨w.heap.size, 0, none⟩ = some (.int .i64 base) ∧ ((((W'.setCell ⟨w.heap.size + 1 + 1, 0, none⟩ y0).setCell ⟨w.heap.size + 1 + 1, 1, none⟩ y1).setCell ⟨w.heap.size + 1 + 1, 2, none⟩ y2).setCell ⟨w.heap.size + 1 + 1, 3, none⟩ y3).cell? ⟨w.heap.size, 1, none⟩ = some (.slice a1 xss.length c1) ∧ ((((W'.setCell ⟨w.heap.size + 1 + 1, 0, none⟩ y0).setCell ⟨w.heap.size + 1 + 1, 1, none⟩ y1).setCell ⟨w.heap.size + 1 + 1, 2, none⟩ y2).setCell ⟨w.heap.size + 1 + 1, 3, none⟩ y3).cell? ⟨w.heap.size + 1, 1, none⟩ = some (.slice b1 yss.length d1)) := fun W' y0 y1 y2 y3 hW => by
          have h1 := ((((((unhide RA2).below hW (by omega)).other (b' := w.heap.size + 1 + 1) (o := 0) (u := y0) (by omega)).other (b' := w.heap.size + 1 + 1) (o := 1) (u := y1) (by omega)).other (b' := w.heap.size + 1 + 1) (o := 2) (u := y2) (by omega)).other (b' := w.heap.size + 1 + 1) (o := 3) (u := y3) (by omega)).facts
          have h2 := ((((((unhide RB2).below hW (by omega)).other (b' := w.heap.size + 1 + 1) (o := 0) (u := y0) (by omega)).other (b' := w.heap.size + 1 + 1) (o := 1) (u := y1) (by omega)).other (b' := w.heap.size + 1 + 1) (o := 2) (u := y2) (by omega)).other (b' := w.heap.size + 1 + 1) (o := 3) (u := y3) (by omega)).facts
          exact ⟨h1.1, h1.2.1, h2.2.1⟩
        have HL2 := hide (show [vs, us].flatten.length = xss.length + yss.length by obtain ⟨n1, n2⟩ := unhide HN; simp [n1, n2])
        have HC : Hid (∀ W : World, Pushd w2 W (.cells #[.slice a1 xss.length c1, .slice b1 yss.length d1] 22) → SsAt id undef W.heap.size W (.slice (some ⟨w2.heap.size, 0, none⟩) 2 2) [vs, us]) := fun W hP => two_rows hP (unhide Hvs) (unhide Hus) (unhide Hvc) (unhide Huc)
        have HO : Hid (∀ x ∈ [vs, us], ∀ u ∈ x, u.oneCell' = true) := fun x hx => by
          rcases List.mem_cons.1 hx with rfl | hx
          · exact vals_one (unhide HN).1 (unhide Hve)
          · rcases List.mem_cons.1 hx with rfl | hx
            · exact vals_one (unhide HN).2 (unhide Hue)
            · simp at hx
        have HT2 : Hid (tot [vs, us] ≤ 1048576) := by obtain ⟨n1, n2⟩ := unhide HN; show vs.length + (us.length + 0) ≤ _; omega
        have HA : Hid (∀ (W w8 : World) (v8 : Value) (n : Nat), w8.ownsRow W.heap.size 25 1 v8 n [vs, us].flatten → Below w2.heap.size w2 w8 → SsAt mB 0 w8.heap.size w8 v8 (xss ++ yss)) := fun W w8 v8 n h1 h2 => own_two (vs := vs) (us := us) (by simpa using h1) (unhide HN).1 (unhide HN).2 (unhide Hve) (unhide Hue) h2 rfl
        have HBy : Hid (∀ x ∈ xss ++ yss, Bytes x) := fun x hx => by
          rcases List.mem_append.1 hx with h | h
          · exact (unhide HI).bytes x h
          · exact (unhide HI').bytes x h
        have hTt : tot (xss ++ yss) ≤ 1048576 := by rw [tot_app]; exact hT
        have hLt : (xss ++ yss).length ≤ 1048576 := by rw [List.length_append]; exact hL
        clear Hvs Hus Hve Hue Hvc Huc HN
        go_wp2_with fail
        clear r0 r1 r2 r3 t0 t1 t2 t3
        go_region_held3 (fun W' => W'.cell? ⟨w.heap.size, 0, none⟩ = some (.int .i64 base) ∧ W'.cell? ⟨w.heap.size, 1, none⟩ = some (.slice a1 xss.length c1) ∧ W'.cell? ⟨w.heap.size + 1, 1, none⟩ = some (.slice b1 yss.length d1))
          (first | (with_reducible exact unhide hS4 _ _ _ _ _ hB9) | (with_reducible exact unhide hS _ hB9) | (with_reducible exact unhide hS _ hB8) | go_keep)
          (first
            | (go_at_call 67; refine (concatV_any _ [vs, us] _ (by refine unhide HC _ ?_; exact ⟨rfl, rfl, rfl, rfl⟩) (unhide HO) (unhide HT2) (by simp)).mono ?_; rintro e w8 ⟨v8, rfl, hown8, hb8⟩; rw [unhide HL2] at hown8; have hB8 : Below w2.heap.size w2 w8 := ((below1 w2 (.cells #[.slice a1 xss.length c1, .slice b1 yss.length d1] 22)).drew).trans (hb8.mono (by show w2.heap.size ≤ (w2.alloc _).heap.size; rw [sz_alloc]; omega)); have HA8 := hide (unhide HA _ _ _ _ hown8 hB8); obtain ⟨oa8, oc8, rfl⟩ := own_is hown8; clear hown8 hb8)
            | (go_at_call 66; refine (implBuild_any base _ (xss ++ yss) _ (by exact unhide HA8) (unhide HBy) hTt hLt (by omega) (by omega)).mono ?_; rintro e w9 ⟨hg, hb9⟩; have hB9 : Below w2.heap.size w2 w9 := hB8.trans (hb9.mono hB8.size); obtain ⟨vg, bg, xs, kg, pg, cg, rfl, his, hbd, hF⟩ := hg.is hTt; have HF := hide hF; have HIS := hide his; have HBD := hide hbd; obtain ⟨p1, q1, p2, q2, p3, q3, rfl, -⟩ := (hF.rd (Nat.le_refl _)).parts; have RR9 := hide ((unhide RR2).below hB9 (by omega)); obtain ⟨r0, r1, r2, r3, t0, t1, t2, t3⟩ := (unhide RR9).facts; clear hg his hbd hF hb9))
        have hz9 := hB9.size
        have hz8 := hB8.size
        obtain ⟨e0, e1, e2, e3, -⟩ := ((unhide RR9).all (.int .i64 bg) (.slice p1 xs.length q1) (.slice p2 kg.length q2) (.slice p3 pg.length q3)).facts
        go_wp2
        refine bodyPost_ret (v := .tuple #[.agg #[.int .i64 bg, .slice p1 xs.length q1, .slice p2 kg.length q2, .slice p3 pg.length q3], .int .i64 cg]) (by simp [results, Tryz.results48, go_sem, e0, e1, e2, e3]) rfl ⟨⟨_, bg, xs, kg, pg, cg, rfl, Or.inl ⟨unhide HJ, unhide HIS⟩, unhide HBD, ?_⟩, bput4 (hB2.trans (hB9.mono (by omega))) (by omega) _ _ _ _⟩
        rw [sz_put4]
        exact ((unhide HF).low (lo' := w.heap.size + 3) (by omega) (Nat.le_refl _)).put4 (by omega) _ _ _ _ |>.low (by omega) (Nat.le_refl _)
      · have HJ : Hid (¬ Joins base xss ks pss base' yss ks' pss') := fun h => hbb h.2.2
        have hbb' : (base' != base + (xss.length : Int)) = true := by simp [hbb]
        clear hbb
        go_wp2_with fail
        obtain ⟨e0, e1, e2, e3, -⟩ := ((unhide RR2).all (.int .i64 0) (.slice none 0 0) (.slice none 0 0) (.slice none 0 0)).facts
        exact bodyPost_ret (v := .tuple #[.agg #[.int .i64 0, .slice none 0 0, .slice none 0 0, .slice none 0 0], .int .i64 4]) (by simp [results, Tryz.results48, go_sem, e0, e1, e2, e3]) rfl ⟨MrgGot.no (unhide HJ), bput4 hB2 (by omega) _ _ _ _⟩
    · have HJ : Hid (¬ Joins base xss ks pss base' yss ks' pss') := fun h => hm2 h.2.1
      clear hm2 hr
      obtain ⟨r0, r1, r2, r3, t0, t1, t2, t3⟩ := (unhide RR2).facts
      go_wp2_with fail
      obtain ⟨e0, e1, e2, e3, -⟩ := ((unhide RR2).all (.int .i64 0) (.slice none 0 0) (.slice none 0 0) (.slice none 0 0)).facts
      exact bodyPost_ret (v := .tuple #[.agg #[.int .i64 0, .slice none 0 0, .slice none 0 0, .slice none 0 0], .int .i64 4]) (by simp [results, Tryz.results48, go_sem, e0, e1, e2, e3]) rfl ⟨MrgGot.no (unhide HJ), bput4 hB2 (by omega) _ _ _ _⟩
  · have HJ : Hid (¬ Joins base xss ks pss base' yss ks' pss') := fun h => hm h.1
    clear hm hr
    obtain ⟨r0, r1, r2, r3, t0, t1, t2, t3⟩ := (unhide RR1).facts
    go_wp2_with fail
    obtain ⟨e0, e1, e2, e3, -⟩ := ((unhide RR1).all (.int .i64 0) (.slice none 0 0) (.slice none 0 0) (.slice none 0 0)).facts
    exact bodyPost_ret (v := .tuple #[.agg #[.int .i64 0, .slice none 0 0, .slice none 0 0, .slice none 0 0], .int .i64 4]) (by simp [results, Tryz.results48, go_sem, e0, e1, e2, e3]) rfl ⟨MrgGot.no (unhide HJ), bput4 hB1 (by omega) _ _ _ _⟩

end Go.Proofs.YtbgjgaejfkdceaaGreat
