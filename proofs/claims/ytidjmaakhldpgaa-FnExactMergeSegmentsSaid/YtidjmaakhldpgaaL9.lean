import Derived.Test.YtidjmaakhldpgaaL7
import Derived.Deep.RegionHeld3
import Derived.Deep.DeepCutAuto
namespace Go.Proofs.Ytidjmaakhldpgaa
open Go.RowKit

/-- A segment in a box. -/
def BoxSeg (w : World) (N : Nat) (b : Int) (xs : List (List Int)) (ks : List Int) (pss : List (List Int)) : Prop := ∃ a1 c1 a2 c2 a3 c3, Row4 w N 34 (.int .i64 b) (.slice a1 xs.length c1) (.slice a2 ks.length c2) (.slice a3 pss.length c3) ∧ SegRd w (.agg #[.int .i64 b, .slice a1 xs.length c1, .slice a2 ks.length c2, .slice a3 pss.length c3]) b xs ks pss
/-- The answer for two segments, its segment in a box. -/
def MrgBox (bx c : Value) (w0 wx : World) (J : Prop) (base : Int) (zss : List (List Int)) : Prop := ∃ N b xs ks pss cc, bx = .pointer (some ⟨N, 0, none⟩) ∧ c = .int .i64 cc ∧ MrgIs J base zss b xs ks pss cc ∧ BoxSeg wx N b xs ks pss ∧ w0.heap.size ≤ N ∧ N < wx.heap.size ∧ Below w0.heap.size w0 wx
theorem MrgWant.box {e : Ending} {lo : Nat} {w' : World} {J : Prop} {base : Int} {zss : List (List Int)} (h : MrgWant e lo w' J base zss) : ∃ v b xs ks pss c, e = .returned (.tuple #[v, .int .i64 c]) ∧ MrgIs J base zss b xs ks pss c ∧ (∀ (N : Nat) (d0 d1 d2 d3 : Value), N < lo → SegRd ((((w'.setCell ⟨N, 0, none⟩ d0).setCell ⟨N, 1, none⟩ d1).setCell ⟨N, 2, none⟩ d2).setCell ⟨N, 3, none⟩ d3) v b xs ks pss) ∧ SegRd w' v b xs ks pss := by
  obtain ⟨v, b, xs, ks, pss, c, e1, h1, h2⟩ := h
  exact ⟨v, b, xs, ks, pss, c, e1, h1, fun N d0 d1 d2 d3 hN => (h2.put4 hN d0 d1 d2 d3).rd, h2.rd⟩
theorem MrgGot.box {e : Ending} {lo : Nat} {w' : World} {J : Prop} {base : Int} {zss : List (List Int)} (h : MrgGot e lo w' J base zss) : ∃ v b xs ks pss c, e = .returned (.tuple #[v, .int .i64 c]) ∧ MrgIs J base zss b xs ks pss c ∧ (∀ (N : Nat) (d0 d1 d2 d3 : Value), N < lo → SegRd ((((w'.setCell ⟨N, 0, none⟩ d0).setCell ⟨N, 1, none⟩ d1).setCell ⟨N, 2, none⟩ d2).setCell ⟨N, 3, none⟩ d3) v b xs ks pss) ∧ SegRd w' v b xs ks pss := by
  obtain ⟨v, b, xs, ks, pss, c, e1, h1, -, h2⟩ := h
  exact ⟨v, b, xs, ks, pss, c, e1, h1, fun N d0 d1 d2 d3 hN => (h2.put4 hN d0 d1 d2 d3).rd (by rw [sz_put4]; exact Nat.le_refl _), h2.rd (Nat.le_refl _)⟩

set_option maxHeartbeats 16000000 in
set_option maxRecDepth 100000 in
theorem lawMerge_any (u v : Value) (base base' : Int) (xss pss yss pss' : List (List Int)) (ks ks' : List Int) (w : World) (hu : SegRd w u base xss ks pss) (hv : SegRd w v base' yss ks' pss') (hbb : ∀ x ∈ xss, Bytes x) (hbb' : ∀ x ∈ yss, Bytes x) (hr0 : In64 base) (hr1 : In64 base') :
    Calls Try.prog 5 #[u, v] w fun e w' => e = .returned (.bool true) ∧ Below w.heap.size w w' := by
  have HU := hide hu
  have HV := hide hv
  have HBx := hide hbb
  have HBy := hide hbb'
  have H64 := hide hr0
  have H64' := hide hr1
  obtain ⟨a1, c1, a2, c2, a3, c3, rfl, -⟩ := hu.parts
  obtain ⟨b1, d1, b2, d2, b3, d3, rfl, -⟩ := hv.parts
  have hb0 := below2 w (.cells #[.int .i64 base, .slice a1 xss.length c1, .slice a2 ks.length c2, .slice a3 pss.length c3] 41) (.cells #[.int .i64 base', .slice b1 yss.length d1, .slice b2 ks'.length d2, .slice b3 pss'.length d3] 41)
  have RA := (Row4.new w 41 (.int .i64 base) (.slice a1 xss.length c1) (.slice a2 ks.length c2) (.slice a3 pss.length c3)).alloc (.cells #[.int .i64 base', .slice b1 yss.length d1, .slice b2 ks'.length d2, .slice b3 pss'.length d3] 41)
  have RB := Row4.new (w.alloc (.cells #[.int .i64 base, .slice a1 xss.length c1, .slice a2 ks.length c2, .slice a3 pss.length c3] 41)) 41 (.int .i64 base') (.slice b1 yss.length d1) (.slice b2 ks'.length d2) (.slice b3 pss'.length d3)
  rw [sz_alloc] at RB
  have hzV : ((w.alloc (.cells #[.int .i64 base, .slice a1 xss.length c1, .slice a2 ks.length c2, .slice a3 pss.length c3] 41)).alloc (.cells #[.int .i64 base', .slice b1 yss.length d1, .slice b2 ks'.length d2, .slice b3 pss'.length d3] 41)).heap.size = w.heap.size + 2 := by simp
  clear hu hv hbb hbb' hr0 hr1
  go_enter Try.func5, Try.ntmps5
  go_wp2_with fail
  generalize (w.alloc (.cells #[.int .i64 base, .slice a1 xss.length c1, .slice a2 ks.length c2, .slice a3 pss.length c3] 41)).alloc (.cells #[.int .i64 base', .slice b1 yss.length d1, .slice b2 ks'.length d2, .slice b3 pss'.length d3] 41) = V at *
  refine (szSegment_w _ base 1048576 xss pss ks _ ((unhide HU).below hb0 (Nat.le_refl _)) (by omega) (by omega)).mono ?_
  rintro e w1 ⟨⟨r, rfl, hr⟩, hb1⟩
  have hz1 := hb1.size
  have RA1 := hide (RA.below hb1 (by omega))
  have RB1 := hide (RB.below hb1 (by omega))
  have hB1 : Below w.heap.size w w1 := hb0.trans (hb1.mono (by omega))
  clear RA RB hb0 hb1
  by_cases hn : r < 0
  · clear hr
    go_wp2
    go_ret
    exact ⟨rfl, hB1⟩
  have hr' := hr.resolve_left hn
  have hx : r + xss.length + tot xss + ks.length + pss.length + tot pss ≤ 1048576 := hr'.2
  have h0r : 0 ≤ r := hr'.1
  clear hr hr'
  obtain ⟨g0, g1, g2, g3, -⟩ := (unhide RB1).facts
  go_wp2_with fail
  refine (szSegment_w _ base' r yss pss' ks' _ ((unhide HV).below hB1 (Nat.le_refl _)) (by omega) (by omega)).mono ?_
  rintro e w2 ⟨⟨r2, rfl, hr⟩, hb2⟩
  have hz2 := hb2.size
  have RA2 := hide ((unhide RA1).below hb2 (by omega))
  have RB2 := hide ((unhide RB1).below hb2 (by omega))
  have hB2 : Below w.heap.size w w2 := hB1.trans (hb2.mono (by omega))
  clear RA1 RB1 hB1 hb2 g0 g1 g2 g3
  by_cases hn2 : r2 < 0
  · clear hr
    go_wp2
    go_ret
    exact ⟨rfl, hB2⟩
  have hr' := hr.resolve_left hn2
  have hy : yss.length + tot yss + ks'.length + pss'.length + tot pss' ≤ r := by omega
  have i1 : tot xss ≤ 1048576 := by omega
  have i2 : xss.length ≤ 1048576 := by omega
  have i3 : ks.length ≤ 1048576 := by omega
  have i4 : tot pss ≤ 1048576 := by omega
  have i5 : pss.length ≤ 1048576 := by omega
  have j1 : tot yss ≤ 1048576 := by omega
  have j2 : yss.length ≤ 1048576 := by omega
  have j3 : ks'.length ≤ 1048576 := by omega
  have j4 : tot pss' ≤ 1048576 := by omega
  have j5 : pss'.length ≤ 1048576 := by omega
  have hT : tot xss + tot yss ≤ 1048576 := by omega
  have hL : xss.length + yss.length ≤ 1048576 := by omega
  have hnx : 0 ≤ segN xss ks pss ∧ segN xss ks pss ≤ 1048576 := by unfold segN; omega
  have hny : 0 ≤ segN yss ks' pss' ∧ segN yss ks' pss' ≤ 1048576 := by unfold segN; omega
  have IX : Hid (SegIn base xss ks pss) := ⟨unhide HBx, (unhide H64).1, (unhide H64).2, i1, i2, i3, i4, i5⟩
  have IY : Hid (SegIn base' yss ks' pss') := ⟨unhide HBy, (unhide H64').1, (unhide H64').2, j1, j2, j3, j4, j5⟩
  clear hr hr' hx hy h0r hn
  have hE2 := Below.refl w2.heap.size w2
  have hS : Hid (∀ W' : World, Below w2.heap.size w2 W' → (W'.cell? ⟨w.heap.size, 0, none⟩ = some (.int .i64 base) ∧ W'.cell? ⟨w.heap.size, 1, none⟩ = some (.slice a1 xss.length c1) ∧ W'.cell? ⟨w.heap.size, 2, none⟩ = some (.slice a2 ks.length c2) ∧ W'.cell? ⟨w.heap.size, 3, none⟩ = some (.slice a3 pss.length c3)) ∧ W'.cell? ⟨w.heap.size + 1, 0, none⟩ = some (.int .i64 base') ∧ W'.cell? ⟨w.heap.size + 1, 1, none⟩ = some (.slice b1 yss.length d1) ∧ W'.cell? ⟨w.heap.size + 1, 2, none⟩ = some (.slice b2 ks'.length d2) ∧ W'.cell? ⟨w.heap.size + 1, 3, none⟩ = some (.slice b3 pss'.length d3)) := fun W' hW => by
    have h1 := (((unhide RA2).below hE2 (by omega)).below hW (by omega)).facts
    have h2 := (((unhide RB2).below hE2 (by omega)).below hW (by omega)).facts
    exact ⟨⟨h1.1, h1.2.1, h1.2.2.1, h1.2.2.2.1⟩, ⟨h2.1, h2.2.1, h2.2.2.1, h2.2.2.2.1⟩⟩
  obtain ⟨⟨f0, f1, f2, f3⟩, g0, g1, g2, g3⟩ := unhide hS w2 (Below.refl _ _)
  have hBa : Below w2.heap.size w2 w2 := Below.refl _ _
  have hBaa : ∀ o : Obj, Below w2.heap.size w2 (w2.alloc o) := fun o => below1 _ o
  go_upto_region 8 with fail
  go_cut [6, 7] (fun bx c wx => MrgBox bx c w2 wx (Joins base xss ks pss base' yss ks' pss') base (xss ++ yss))
  case first =>
    go_region_held3 (fun W' => (W'.cell? ⟨w.heap.size, 0, none⟩ = some (.int .i64 base) ∧ W'.cell? ⟨w.heap.size, 1, none⟩ = some (.slice a1 xss.length c1) ∧ W'.cell? ⟨w.heap.size, 2, none⟩ = some (.slice a2 ks.length c2) ∧ W'.cell? ⟨w.heap.size, 3, none⟩ = some (.slice a3 pss.length c3)) ∧ W'.cell? ⟨w.heap.size + 1, 0, none⟩ = some (.int .i64 base') ∧ W'.cell? ⟨w.heap.size + 1, 1, none⟩ = some (.slice b1 yss.length d1) ∧ W'.cell? ⟨w.heap.size + 1, 2, none⟩ = some (.slice b2 ks'.length d2) ∧ W'.cell? ⟨w.heap.size + 1, 3, none⟩ = some (.slice b3 pss'.length d3))
      (first | (with_reducible exact unhide hS _ (hBda _)) | (with_reducible exact unhide hS _ hBd) | (with_reducible exact unhide hS _ (hBp _ _ _ _ _ (by omega))) | (with_reducible exact unhide hS _ (hBca _)) | (with_reducible exact unhide hS _ hBc) | (with_reducible exact unhide hS _ (hBba _)) | (with_reducible exact unhide hS _ hBb) | (with_reducible exact unhide hS _ (hBaa _)) | go_keep)
      (first
        | (go_at_call 22; refine (specMerge_any _ _ base base' xss pss yss pss' ks ks' _ (by first | exact (unhide S3).below hBbc (Nat.le_refl _) | exact (unhide S3).below (hBbc.alloc hBbc.size _) (Nat.le_refl _)) (by first | exact unhide S4 | exact (unhide S4).below (below1 _ _) (Nat.le_refl _)) (unhide IX) (unhide IY) hT hL).mono ?_; rintro e w5 ⟨hg, hb5⟩; have hBd : Below w2.heap.size w2 w5 := (by first | exact hBc.trans (hb5.mono hBc.size) | exact (hBca _).trans (hb5.mono (hBca _).size)); have hBda : ∀ o : Obj, Below w2.heap.size w2 (w5.alloc o) := fun o => hBd.alloc hBd.size o; have hBp : ∀ (N : Nat) (q0 q1 q2 q3 : Value), w2.heap.size ≤ N → Below w2.heap.size w2 ((((w5.setCell ⟨N, 0, none⟩ q0).setCell ⟨N, 1, none⟩ q1).setCell ⟨N, 2, none⟩ q2).setCell ⟨N, 3, none⟩ q3) := fun N q0 q1 q2 q3 hN => bput4 hBd hN q0 q1 q2 q3; have hsd := hb5.size; (try rw [sz_alloc] at hsd); ((first | (have RZ5 := hide ((unhide RZ4).below hb5 (by omega))) | (have RZ5 := hide ((Row4.new w4 34 (.int .i64 0) (.slice none 0 0) (.slice none 0 0) (.slice none 0 0)).below hb5 (by rw [sz_alloc]; exact Nat.lt_succ_self _))) | skip)); obtain ⟨vw, bw, zs, kw, pw, cw, rfl, his, hput, hrd⟩ := hg.box; have HIS := hide his; have RD := hide hrd; have HP := hide hput; obtain ⟨v1a, v1c, v2a, v2c, v3a, v3c, rfl, -⟩ := hrd.parts; (try obtain ⟨r0, r1, r2, r3, t0, t1, t2, t3⟩ := (unhide RZ5).facts); clear his hrd hput hg)
        | (go_at_call 23; refine (toSegment_w _ base' yss pss' ks' _ (by first | exact (unhide HV).below (hB2.trans ((hE2.trans (hBb.mono hE2.size)).mono (by omega))) (Nat.le_refl _) | exact (unhide HV).below (hB2.trans ((hE2.trans ((hBba _).mono hE2.size)).mono (by omega))) (Nat.le_refl _)) j1 j2 j3 j4 j5).mono ?_; rintro e w4 ⟨u4, rfl, hF4, hb4⟩; have hBbc : Below w3.heap.size w3 w4 := (by first | exact hb4 | exact (below1 w3 _).trans (hb4.mono (by rw [sz_alloc]; omega))); have hBc : Below w2.heap.size w2 w4 := hBb.trans (hBbc.mono hBb.size); have hBca : ∀ o : Obj, Below w2.heap.size w2 (w4.alloc o) := fun o => hBc.alloc hBc.size o; have hsc := hb4.size; (try rw [sz_alloc] at hsc); ((first | (have RZ4 := hide ((unhide RZ3).below hb4 (by omega))) | (have RZ4 := hide ((Row4.new w3 34 (.int .i64 0) (.slice none 0 0) (.slice none 0 0) (.slice none 0 0)).below hb4 (by rw [sz_alloc]; exact Nat.lt_succ_self _))) | skip)); have S4 := hide (hF4.rd (Nat.le_refl _)); obtain ⟨y1a, y1c, y2a, y2c, y3a, y3c, rfl, -⟩ := (unhide S4).parts; clear hF4)
        | (go_at_call 23; refine (toSegment_w _ base xss pss ks _ (by first | exact (unhide HU).below ((hB2.trans (hE2.mono (by omega))).drew) (Nat.le_refl _) | exact (unhide HU).below (((hB2.trans (hE2.mono (by omega))).alloc (by omega) _).drew) (Nat.le_refl _)) i1 i2 i3 i4 i5).mono ?_; rintro e w3 ⟨u3, rfl, hF3, hb3⟩; have hBb : Below w2.heap.size w2 w3 := (by first | exact ⟨hb3.os, hb3.tape, hb3.output, hb3.size, hb3.block⟩ | exact (below1 w2 (.cells #[.int .i64 0, .slice none 0 0, .slice none 0 0, .slice none 0 0] 34)).drew.trans (hb3.mono (by show w2.heap.size ≤ (w2.alloc _).heap.size; rw [sz_alloc]; omega))); have hBba : ∀ o : Obj, Below w2.heap.size w2 (w3.alloc o) := fun o => hBb.alloc hBb.size o; have hsb := hBb.size; (try (have hsb2 : (w2.alloc (.cells #[.int .i64 0, .slice none 0 0, .slice none 0 0, .slice none 0 0] 34)).heap.size ≤ w3.heap.size := hb3.size; rw [sz_alloc] at hsb2)); ((first | (have RZ3 := hide ((Row4.new w2 34 (.int .i64 0) (.slice none 0 0) (.slice none 0 0) (.slice none 0 0)).below (show Below (w2.alloc (.cells #[.int .i64 0, .slice none 0 0, .slice none 0 0, .slice none 0 0] 34)).heap.size (w2.alloc (.cells #[.int .i64 0, .slice none 0 0, .slice none 0 0, .slice none 0 0] 34)) w3 from ⟨hb3.os, hb3.tape, hb3.output, hb3.size, hb3.block⟩) (by rw [sz_alloc]; exact Nat.lt_succ_self _))) | skip)); have S3 := hide (hF3.rd (Nat.le_refl _)); obtain ⟨x1a, x1c, x2a, x2c, x3a, x3c, rfl, -⟩ := (unhide S3).parts; clear hF3))
    all_goals go_wp2_with fail
    all_goals go_meet
    all_goals first
      | exact ⟨_, bw, zs, kw, pw, cw, rfl, rfl, unhide HIS, ⟨_, _, _, _, _, _, Row4.new w5 _ _ _ _ _, (unhide RD).below (below1 w5 _) (Nat.le_refl _)⟩, hBd.size, by rw [sz_alloc]; exact Nat.lt_succ_self _, hBda _⟩
      | exact ⟨_, bw, zs, kw, pw, cw, rfl, rfl, unhide HIS, ⟨_, _, _, _, _, _, (unhide RZ5).all _ _ _ _, unhide HP _ _ _ _ _ (by first | omega | (rw [sz_alloc]; omega))⟩, by omega, by rw [sz_put4]; omega, hBp _ _ _ _ _ (by omega)⟩
  case rest =>
    obtain ⟨N5, bw, zs, kw, pw, cw, rfl, rfl, his, ⟨w1a, w1c, w2a, w2c, w3a, w3c, hrow, hrd⟩, hN5, hN5', hE5⟩ := hcut
    have HIS := hide his
    have RW := hide hrd
    have BW := hrow
    have hz5 := hE5.size
    obtain ⟨V5, hV5⟩ : ∃ V5, V5 = wc := ⟨_, rfl⟩
    rw [← hV5] at RW BW hN5' hE5 hz5 ⊢
    clear his hrd hrow hV5 hS hBa hBaa f0 f1 f2 f3 g0 g1 g2 g3
    obtain ⟨f0, f1, f2, f3, -⟩ := ((unhide RA2).below hE5 (by omega)).facts
    go_wp2_with fail
    refine (toSegment_w _ base xss pss ks _ ((unhide HU).below (hB2.trans (hE5.mono (by omega))) (Nat.le_refl _)) i1 i2 i3 i4 i5).mono ?_
    rintro e w6 ⟨u6, rfl, hF6, hb6⟩
    have hz6 := hb6.size
    have HF6 := hide hF6
    obtain ⟨x1a, x1c, x2a, x2c, x3a, x3c, rfl, -⟩ := (hF6.rd (Nat.le_refl _)).parts
    have hE6 : Below w2.heap.size w2 w6 := hE5.trans (hb6.mono (by omega))
    have hD6 : Below V5.heap.size V5 w6 := hb6
    clear hF6 hb6 f0 f1 f2 f3
    have hV6 := below1 w6 (.cells #[.int .i64 base, .slice x1a xss.length x1c, .slice x2a ks.length x2c, .slice x3a pss.length x3c] 34)
    have BX := Row4.new w6 34 (.int .i64 base) (.slice x1a xss.length x1c) (.slice x2a ks.length x2c) (.slice x3a pss.length x3c)
    have hzV6 : (w6.alloc (.cells #[.int .i64 base, .slice x1a xss.length x1c, .slice x2a ks.length x2c, .slice x3a pss.length x3c] 34)).heap.size = w6.heap.size + 1 := sz_alloc _ _
    obtain ⟨g0, g1, g2, g3, -⟩ := (((unhide RB2).below hE6 (by omega)).alloc (.cells #[.int .i64 base, .slice x1a xss.length x1c, .slice x2a ks.length x2c, .slice x3a pss.length x3c] 34)).facts
    go_wp2_with fail
    generalize w6.alloc (.cells #[.int .i64 base, .slice x1a xss.length x1c, .slice x2a ks.length x2c, .slice x3a pss.length x3c] 34) = V6 at *
    refine (toSegment_w _ base' yss pss' ks' _ ((unhide HV).below (hB2.trans ((hE6.trans (hV6.mono (by omega))).mono (by omega))) (Nat.le_refl _)) j1 j2 j3 j4 j5).mono ?_
    rintro e w7 ⟨u7, rfl, hF7, hb7⟩
    have hz7 := hb7.size
    have HF7 := hide hF7
    obtain ⟨y1a, y1c, y2a, y2c, y3a, y3c, rfl, -⟩ := (hF7.rd (Nat.le_refl _)).parts
    have hB67 : Below w6.heap.size w6 w7 := hV6.trans (hb7.mono (by omega))
    have hE7 : Below w2.heap.size w2 w7 := hE6.trans (hB67.mono (by omega))
    have hD7 : Below V5.heap.size V5 w7 := hD6.trans (hB67.mono (by omega))
    have BX7 := hide (BX.below hb7 (by omega))
    have HF67 := hide ((unhide HF6).keep hB67 (Nat.le_refl _))
    clear hF7 hb7 g0 g1 g2 g3 hV6 BX HF6
    have hV7 := below1 w7 (.cells #[.int .i64 base', .slice y1a yss.length y1c, .slice y2a ks'.length y2c, .slice y3a pss'.length y3c] 34)
    have BY := Row4.new w7 34 (.int .i64 base') (.slice y1a yss.length y1c) (.slice y2a ks'.length y2c) (.slice y3a pss'.length y3c)
    have hzV7 : (w7.alloc (.cells #[.int .i64 base', .slice y1a yss.length y1c, .slice y2a ks'.length y2c, .slice y3a pss'.length y3c] 34)).heap.size = w7.heap.size + 1 := sz_alloc _ _
    obtain ⟨f0, f1, f2, f3, -⟩ := ((unhide BX7).alloc (.cells #[.int .i64 base', .slice y1a yss.length y1c, .slice y2a ks'.length y2c, .slice y3a pss'.length y3c] 34)).facts
    obtain ⟨g0, g1, g2, g3, -⟩ := BY.facts
    go_wp2_with fail
    generalize w7.alloc (.cells #[.int .i64 base', .slice y1a yss.length y1c, .slice y2a ks'.length y2c, .slice y3a pss'.length y3c] 34) = V7 at *
    refine (implMerge_any _ _ base base' xss pss yss pss' ks ks' _ (((unhide HF67).rd (by omega)).below hV7 (Nat.le_refl _)) (((unhide HF7).rd (Nat.le_refl _)).below hV7 (Nat.le_refl _)) (unhide IX) (unhide IY) hT hL).mono ?_
    rintro e w8 ⟨hg, hb8⟩
    obtain ⟨vg, bg, zg, kg, pg, cg, rfl, hig, hbd, hF8⟩ := hg
    obtain ⟨rfl, rfl, rfl, rfl, rfl⟩ := (unhide HIS).uniq hig
    obtain ⟨hd1, hd2, hd3⟩ := hbd
    have hz8 := hb8.size
    have HF8 := hide hF8
    obtain ⟨g1a, g1c, g2a, g2c, g3a, g3c, rfl, -⟩ := (hF8.rd (Nat.le_refl _)).parts
    have hB78 : Below w7.heap.size w7 w8 := hV7.trans (hb8.mono (by omega))
    have hE8 : Below w2.heap.size w2 w8 := hE7.trans (hB78.mono (by omega))
    have hD8 : Below V5.heap.size V5 w8 := hD7.trans (hB78.mono (by omega))
    have BX8 := hide ((unhide BX7).below hB78 (by omega))
    have BY8 := hide (BY.below hb8 (by omega))
    have HF68 := hide ((unhide HF67).keep hB78 (by omega))
    have HF78 := hide ((unhide HF7).keep hB78 (Nat.le_refl _))
    clear hF8 hb8 hV7 BY BX7 HF67 HF7 hig f0 f1 f2 f3 g0 g1 g2 g3
    have hV8 := below1 w8 (.cells #[.int .i64 bw, .slice g1a zs.length g1c, .slice g2a kw.length g2c, .slice g3a pw.length g3c] 34)
    have BG := Row4.new w8 34 (.int .i64 bw) (.slice g1a zs.length g1c) (.slice g2a kw.length g2c) (.slice g3a pw.length g3c)
    have hzV8 : (w8.alloc (.cells #[.int .i64 bw, .slice g1a zs.length g1c, .slice g2a kw.length g2c, .slice g3a pw.length g3c] 34)).heap.size = w8.heap.size + 1 := sz_alloc _ _
    obtain ⟨f0, f1, f2, f3, -⟩ := ((BW.below hD8 (by omega)).alloc (.cells #[.int .i64 bw, .slice g1a zs.length g1c, .slice g2a kw.length g2c, .slice g3a pw.length g3c] 34)).facts
    obtain ⟨g0, g1, g2, g3, -⟩ := BG.facts
    go_wp2_with fail
    generalize w8.alloc (.cells #[.int .i64 bw, .slice g1a zs.length g1c, .slice g2a kw.length g2c, .slice g3a pw.length g3c] 34) = V8 at *
    refine (eqSegment_w _ _ bw zs pw kw _ (((unhide HF8).rd (Nat.le_refl _)).below hV8 (Nat.le_refl _)) ((unhide RW).below (hD8.trans (hV8.mono (by omega))) (Nat.le_refl _))).mono ?_
    rintro e w9 ⟨rfl, hb9⟩
    have hz9 := hb9.size
    have hB89 : Below w8.heap.size w8 w9 := hV8.trans (hb9.mono (by omega))
    have hE9 : Below w2.heap.size w2 w9 := hE8.trans (hB89.mono (by omega))
    have hD9 : Below V5.heap.size V5 w9 := hD8.trans (hB89.mono (by omega))
    have BX9 := hide ((unhide BX8).below hB89 (by omega))
    have BY9 := hide ((unhide BY8).below hB89 (by omega))
    have BG9 := hide (BG.below hb9 (by omega))
    have HF69 := hide ((unhide HF68).keep hB89 (by omega))
    have HF79 := hide ((unhide HF78).keep hB89 (by omega))
    have HF89 := hide ((unhide HF8).keep hB89 (Nat.le_refl _))
    clear hb9 hV8 BG BX8 BY8 HF68 HF78 HF8 f0 f1 f2 f3 g0 g1 g2 g3
    have hS : Hid (∀ W' : World, Below w9.heap.size w9 W' → (W'.cell? ⟨w6.heap.size, 0, none⟩ = some (.int .i64 base) ∧ W'.cell? ⟨w6.heap.size, 1, none⟩ = some (.slice x1a xss.length x1c) ∧ W'.cell? ⟨w6.heap.size, 2, none⟩ = some (.slice x2a ks.length x2c) ∧ W'.cell? ⟨w6.heap.size, 3, none⟩ = some (.slice x3a pss.length x3c)) ∧ W'.cell? ⟨w.heap.size, 0, none⟩ = some (.int .i64 base) ∧ W'.cell? ⟨w.heap.size, 1, none⟩ = some (.slice a1 xss.length c1) ∧ W'.cell? ⟨w.heap.size, 2, none⟩ = some (.slice a2 ks.length c2) ∧ W'.cell? ⟨w.heap.size, 3, none⟩ = some (.slice a3 pss.length c3)) := fun W' hW => by
      have h1 := ((unhide BX9).below hW (by omega)).facts
      have h2 := (((unhide RA2).below hE9 (by omega)).below hW (by omega)).facts
      exact ⟨⟨h1.1, h1.2.1, h1.2.2.1, h1.2.2.2.1⟩, ⟨h2.1, h2.2.1, h2.2.2.1, h2.2.2.2.1⟩⟩
    obtain ⟨⟨f0, f1, f2, f3⟩, g0, g1, g2, g3⟩ := unhide hS w9 (Below.refl _ _)
    go_wp2_with fail
    go_region_held3 (fun W' => (W'.cell? ⟨w6.heap.size, 0, none⟩ = some (.int .i64 base) ∧ W'.cell? ⟨w6.heap.size, 1, none⟩ = some (.slice x1a xss.length x1c) ∧ W'.cell? ⟨w6.heap.size, 2, none⟩ = some (.slice x2a ks.length x2c) ∧ W'.cell? ⟨w6.heap.size, 3, none⟩ = some (.slice x3a pss.length x3c)) ∧ W'.cell? ⟨w.heap.size, 0, none⟩ = some (.int .i64 base) ∧ W'.cell? ⟨w.heap.size, 1, none⟩ = some (.slice a1 xss.length c1) ∧ W'.cell? ⟨w.heap.size, 2, none⟩ = some (.slice a2 ks.length c2) ∧ W'.cell? ⟨w.heap.size, 3, none⟩ = some (.slice a3 pss.length c3))
      (first | (with_reducible exact unhide hS _ hB11) | (with_reducible exact unhide hS _ hB10) | go_keep)
      (first
        | (go_at_call 23; refine (toSegment_w _ base xss pss ks _ (by exact (unhide HU).below ((hB2.trans (hE9.mono (by omega))).drew) (Nat.le_refl _)) i1 i2 i3 i4 i5).mono ?_; rintro e w10 ⟨u10, rfl, hF10, hb10⟩; have hB10 : Below w9.heap.size w9 w10 := ⟨hb10.os, hb10.tape, hb10.output, hb10.size, hb10.block⟩; have S10 := hide (hF10.rd (Nat.le_refl _)); obtain ⟨s1a, s1c, s2a, s2c, s3a, s3c, rfl, -⟩ := (unhide S10).parts; clear hF10 hb10)
        | (go_at_call 18; refine (eqSegment_w _ _ base xss pss ks _ (by exact ((unhide HF69).rd (by omega)).below hB10 (Nat.le_refl _)) (by exact unhide S10)).mono ?_; rintro e w11 ⟨rfl, hb11⟩; have hB11 : Below w9.heap.size w9 w11 := hB10.trans (hb11.mono hB10.size); clear hb11))
    have hz11 := hB11.size
    have hE11 : Below w2.heap.size w2 w11 := hE9.trans (hB11.mono (by omega))
    have hD11 : Below V5.heap.size V5 w11 := hD9.trans (hB11.mono (by omega))
    have BX11 := hide ((unhide BX9).below hB11 (by omega))
    have BY11 := hide ((unhide BY9).below hB11 (by omega))
    have BG11 := hide ((unhide BG9).below hB11 (by omega))
    have HF611 := hide ((unhide HF69).keep hB11 (by omega))
    have HF711 := hide ((unhide HF79).keep hB11 (by omega))
    have HF811 := hide ((unhide HF89).keep hB11 (by omega))
    clear hB10 hB11 S10 hS BX9 BY9 BG9 HF69 HF79 HF89 f0 f1 f2 f3 g0 g1 g2 g3
    have hS : Hid (∀ W' : World, Below w11.heap.size w11 W' → (W'.cell? ⟨w7.heap.size, 0, none⟩ = some (.int .i64 base') ∧ W'.cell? ⟨w7.heap.size, 1, none⟩ = some (.slice y1a yss.length y1c) ∧ W'.cell? ⟨w7.heap.size, 2, none⟩ = some (.slice y2a ks'.length y2c) ∧ W'.cell? ⟨w7.heap.size, 3, none⟩ = some (.slice y3a pss'.length y3c)) ∧ W'.cell? ⟨w.heap.size + 1, 0, none⟩ = some (.int .i64 base') ∧ W'.cell? ⟨w.heap.size + 1, 1, none⟩ = some (.slice b1 yss.length d1) ∧ W'.cell? ⟨w.heap.size + 1, 2, none⟩ = some (.slice b2 ks'.length d2) ∧ W'.cell? ⟨w.heap.size + 1, 3, none⟩ = some (.slice b3 pss'.length d3)) := fun W' hW => by
      have h1 := ((unhide BY11).below hW (by omega)).facts
      have h2 := (((unhide RB2).below hE11 (by omega)).below hW (by omega)).facts
      exact ⟨⟨h1.1, h1.2.1, h1.2.2.1, h1.2.2.2.1⟩, ⟨h2.1, h2.2.1, h2.2.2.1, h2.2.2.2.1⟩⟩
    obtain ⟨⟨f0, f1, f2, f3⟩, g0, g1, g2, g3⟩ := unhide hS w11 (Below.refl _ _)
    go_wp2_with fail
    go_region_held3 (fun W' => (W'.cell? ⟨w7.heap.size, 0, none⟩ = some (.int .i64 base') ∧ W'.cell? ⟨w7.heap.size, 1, none⟩ = some (.slice y1a yss.length y1c) ∧ W'.cell? ⟨w7.heap.size, 2, none⟩ = some (.slice y2a ks'.length y2c) ∧ W'.cell? ⟨w7.heap.size, 3, none⟩ = some (.slice y3a pss'.length y3c)) ∧ W'.cell? ⟨w.heap.size + 1, 0, none⟩ = some (.int .i64 base') ∧ W'.cell? ⟨w.heap.size + 1, 1, none⟩ = some (.slice b1 yss.length d1) ∧ W'.cell? ⟨w.heap.size + 1, 2, none⟩ = some (.slice b2 ks'.length d2) ∧ W'.cell? ⟨w.heap.size + 1, 3, none⟩ = some (.slice b3 pss'.length d3))
      (first | (with_reducible exact unhide hS _ hB13) | (with_reducible exact unhide hS _ hB12) | go_keep)
      (first
        | (go_at_call 23; refine (toSegment_w _ base' yss pss' ks' _ (by exact (unhide HV).below ((hB2.trans (hE11.mono (by omega))).drew) (Nat.le_refl _)) j1 j2 j3 j4 j5).mono ?_; rintro e w12 ⟨u12, rfl, hF12, hb12⟩; have hB12 : Below w11.heap.size w11 w12 := ⟨hb12.os, hb12.tape, hb12.output, hb12.size, hb12.block⟩; have S12 := hide (hF12.rd (Nat.le_refl _)); obtain ⟨s1a, s1c, s2a, s2c, s3a, s3c, rfl, -⟩ := (unhide S12).parts; clear hF12 hb12)
        | (go_at_call 18; refine (eqSegment_w _ _ base' yss pss' ks' _ (by exact ((unhide HF711).rd (by omega)).below hB12 (Nat.le_refl _)) (by exact unhide S12)).mono ?_; rintro e w13 ⟨rfl, hb13⟩; have hB13 : Below w11.heap.size w11 w13 := hB12.trans (hb13.mono hB12.size); clear hb13))
    have hz13 := hB13.size
    have hE13 : Below w2.heap.size w2 w13 := hE11.trans (hB13.mono (by omega))
    have hD13 : Below V5.heap.size V5 w13 := hD11.trans (hB13.mono (by omega))
    have BX13 := hide ((unhide BX11).below hB13 (by omega))
    have BY13 := hide ((unhide BY11).below hB13 (by omega))
    have BG13 := hide ((unhide BG11).below hB13 (by omega))
    have HF613 := hide ((unhide HF611).keep hB13 (by omega))
    have HF713 := hide ((unhide HF711).keep hB13 (by omega))
    have HF813 := hide ((unhide HF811).keep hB13 (by omega))
    clear hB12 hB13 S12 hS BX11 BY11 BG11 HF611 HF711 HF811 f0 f1 f2 f3 g0 g1 g2 g3
    obtain ⟨f0, f1, f2, f3, -⟩ := (unhide BX13).facts
    go_wp2_with fail
    refine (markSegment_w _ base 1 xss pss ks V5.heap.size w6.heap.size _ (unhide HF613) (by omega) (by omega) (by omega) (by omega) i1 i3 i4).mono ?_
    rintro e w14 ⟨rfl, -, hb14, hhi14⟩
    have hz14 := hb14.size
    have hE14 : Below w2.heap.size w2 w14 := hE13.trans (hb14.mono (by omega))
    have hD14 : Below V5.heap.size V5 w14 := hD13.trans hb14
    have BY14 := hide (World.rowIs.of_block (unhide BY13) (hhi14 _ (by omega) (by omega)))
    have BG14 := hide (World.rowIs.of_block (unhide BG13) (hhi14 _ (by omega) (by omega)))
    have HF714 := hide ((unhide HF713).same (w' := w14) (fun k k1 k2 => hhi14 k (by omega) (by omega)))
    have HF814 := hide ((unhide HF813).same (w' := w14) (fun k k1 k2 => hhi14 k (by omega) (by omega)))
    clear hb14 hhi14 BX13 BY13 BG13 HF613 HF713 HF813 f0 f1 f2 f3
    obtain ⟨f0, f1, f2, f3, -⟩ := Row4.facts (unhide BY14)
    go_wp2_with fail
    refine (markSegment_w _ base' (1 + segN xss ks pss) yss pss' ks' V6.heap.size w7.heap.size _ (unhide HF714) (by omega) (by omega) (by omega) (by omega) j1 j3 j4).mono ?_
    rintro e w15 ⟨rfl, -, hb15, hhi15⟩
    have hz15 := hb15.size
    have hE15 : Below w2.heap.size w2 w15 := hE14.trans (hb15.mono (by omega))
    have hD15 : Below V5.heap.size V5 w15 := hD14.trans (hb15.mono (by omega))
    have BG15 := hide (World.rowIs.of_block (unhide BG14) (hhi15 _ (by omega) (by omega)))
    have HF815 := hide ((unhide HF814).same (w' := w15) (fun k k1 k2 => hhi15 k (by omega) (by omega)))
    have hk1 : ¬ (1 : Int) + segN xss ks pss + segN yss ks' pss' < 0 := by omega
    clear hb15 hhi15 BY14 BG14 HF714 HF814 f0 f1 f2 f3
    obtain ⟨f0, f1, f2, f3, -⟩ := (BW.below hD15 (by omega)).facts
    obtain ⟨g0, g1, g2, g3, -⟩ := Row4.facts (unhide BG15)
    go_wp2_with fail
    refine (eqSegment_w _ _ bw zs pw kw _ ((unhide HF815).rd (by omega)) ((unhide RW).below hD15 (Nat.le_refl _))).mono ?_
    rintro e w16 ⟨rfl, hb16⟩
    have hz16 := hb16.size
    have hE16 : Below w2.heap.size w2 w16 := hE15.trans (hb16.mono (by omega))
    have hD16 : Below V5.heap.size V5 w16 := hD15.trans (hb16.mono (by omega))
    have BG16 := hide (Row4.below (unhide BG15) hb16 (by omega))
    have HF816 := hide ((unhide HF815).keep hb16 (by omega))
    clear hb16 BG15 HF815 f0 f1 f2 f3 g0 g1 g2 g3
    obtain ⟨g0, g1, g2, g3, -⟩ := Row4.facts (unhide BG16)
    go_wp2_with fail
    refine (markSegment_w _ bw 1 zs pw kw V7.heap.size w8.heap.size _ (unhide HF816) (by omega) (by omega) (by omega) (by omega) hd1 hd2 hd3).mono ?_
    rintro e w17 ⟨rfl, hmk, hb17, hhi17⟩
    have hz17 := hb17.size
    have hE17 : Below w2.heap.size w2 w17 := hE16.trans (hb17.mono (by omega))
    have hD17 : Below V5.heap.size V5 w17 := hD16.trans (hb17.mono (by omega))
    have BG17 := hide (World.rowIs.of_block (unhide BG16) (hhi17 _ (by omega) (by omega)))
    have HM17 := hide hmk
    clear hb17 hhi17 BG16 HF816 hmk g0 g1 g2 g3
    obtain ⟨g0, g1, g2, g3, -⟩ := Row4.facts (unhide BG17)
    have hN : 0 ≤ segN zs kw pw := by unfold segN; omega
    go_wp2_with fail
    refine (heldSegment_w _ bw 1 zs pw kw _ (unhide HM17) (by omega) (by omega) hd1 hd2 hd3).mono ?_
    rintro e w18 ⟨rfl, hb18⟩
    have hz18 := hb18.size
    have hE18 : Below w2.heap.size w2 w18 := hE17.trans (hb18.mono (by omega))
    have hD18 : Below V5.heap.size V5 w18 := hD17.trans (hb18.mono (by omega))
    have hk2 : ¬ (1 : Int) + segN zs kw pw < 0 := by omega
    clear hb18 BG17 HM17 g0 g1 g2 g3
    have hS : Hid (∀ W' : World, Below w18.heap.size w18 W' → (W'.cell? ⟨w.heap.size, 0, none⟩ = some (.int .i64 base) ∧ W'.cell? ⟨w.heap.size, 1, none⟩ = some (.slice a1 xss.length c1) ∧ W'.cell? ⟨w.heap.size, 2, none⟩ = some (.slice a2 ks.length c2) ∧ W'.cell? ⟨w.heap.size, 3, none⟩ = some (.slice a3 pss.length c3)) ∧ W'.cell? ⟨w.heap.size + 1, 0, none⟩ = some (.int .i64 base') ∧ W'.cell? ⟨w.heap.size + 1, 1, none⟩ = some (.slice b1 yss.length d1) ∧ W'.cell? ⟨w.heap.size + 1, 2, none⟩ = some (.slice b2 ks'.length d2) ∧ W'.cell? ⟨w.heap.size + 1, 3, none⟩ = some (.slice b3 pss'.length d3)) := fun W' hW => by
      have h1 := (((unhide RA2).below hE18 (by omega)).below hW (by omega)).facts
      have h2 := (((unhide RB2).below hE18 (by omega)).below hW (by omega)).facts
      exact ⟨⟨h1.1, h1.2.1, h1.2.2.1, h1.2.2.2.1⟩, ⟨h2.1, h2.2.1, h2.2.2.1, h2.2.2.2.1⟩⟩
    obtain ⟨⟨f0, f1, f2, f3⟩, g0, g1, g2, g3⟩ := unhide hS w18 (Below.refl _ _)
    have hBa : Below w18.heap.size w18 w18 := Below.refl _ _
    have hBaa : ∀ o : Obj, Below w18.heap.size w18 (w18.alloc o) := fun o => below1 _ o
    go_upto_region 31 with fail
    go_cut [15, 16] (fun bx c wx => MrgBox bx c w18 wx (Joins base xss ks pss base' yss ks' pss') base (xss ++ yss))
    case first =>
      go_region_held3 (fun W' => (W'.cell? ⟨w.heap.size, 0, none⟩ = some (.int .i64 base) ∧ W'.cell? ⟨w.heap.size, 1, none⟩ = some (.slice a1 xss.length c1) ∧ W'.cell? ⟨w.heap.size, 2, none⟩ = some (.slice a2 ks.length c2) ∧ W'.cell? ⟨w.heap.size, 3, none⟩ = some (.slice a3 pss.length c3)) ∧ W'.cell? ⟨w.heap.size + 1, 0, none⟩ = some (.int .i64 base') ∧ W'.cell? ⟨w.heap.size + 1, 1, none⟩ = some (.slice b1 yss.length d1) ∧ W'.cell? ⟨w.heap.size + 1, 2, none⟩ = some (.slice b2 ks'.length d2) ∧ W'.cell? ⟨w.heap.size + 1, 3, none⟩ = some (.slice b3 pss'.length d3))
        (first | (with_reducible exact unhide hS _ (hBda _)) | (with_reducible exact unhide hS _ hBd) | (with_reducible exact unhide hS _ (hBp _ _ _ _ _ (by omega))) | (with_reducible exact unhide hS _ (hBca _)) | (with_reducible exact unhide hS _ hBc) | (with_reducible exact unhide hS _ (hBba _)) | (with_reducible exact unhide hS _ hBb) | (with_reducible exact unhide hS _ (hBaa _)) | go_keep)
        (first
          | (go_at_call 24; refine (implMerge_any _ _ base base' xss pss yss pss' ks ks' _ (by first | exact (unhide S19).below hBbc (Nat.le_refl _) | exact (unhide S19).below (hBbc.alloc hBbc.size _) (Nat.le_refl _)) (by first | exact unhide S20 | exact (unhide S20).below (below1 _ _) (Nat.le_refl _)) (unhide IX) (unhide IY) hT hL).mono ?_; rintro e w21 ⟨hg, hb21⟩; have hBd : Below w18.heap.size w18 w21 := (by first | exact hBc.trans (hb21.mono hBc.size) | exact (hBca _).trans (hb21.mono (hBca _).size)); have hBda : ∀ o : Obj, Below w18.heap.size w18 (w21.alloc o) := fun o => hBd.alloc hBd.size o; have hBp : ∀ (N : Nat) (q0 q1 q2 q3 : Value), w18.heap.size ≤ N → Below w18.heap.size w18 ((((w21.setCell ⟨N, 0, none⟩ q0).setCell ⟨N, 1, none⟩ q1).setCell ⟨N, 2, none⟩ q2).setCell ⟨N, 3, none⟩ q3) := fun N q0 q1 q2 q3 hN => bput4 hBd hN q0 q1 q2 q3; have hsd := hb21.size; (try rw [sz_alloc] at hsd); ((first | (have RZ21 := hide ((unhide RZ20).below hb21 (by omega))) | (have RZ21 := hide ((Row4.new w20 34 (.int .i64 0) (.slice none 0 0) (.slice none 0 0) (.slice none 0 0)).below hb21 (by rw [sz_alloc]; exact Nat.lt_succ_self _))) | skip)); obtain ⟨vw, bw, zs, kw, pw, cw, rfl, his, hput, hrd⟩ := hg.box; have HIS := hide his; have RD := hide hrd; have HP := hide hput; obtain ⟨v1a, v1c, v2a, v2c, v3a, v3c, rfl, -⟩ := hrd.parts; (try obtain ⟨r0, r1, r2, r3, t0, t1, t2, t3⟩ := (unhide RZ21).facts); clear his hrd hput hg)
          | (go_at_call 23; refine (toSegment_w _ base' yss pss' ks' _ (by first | exact (unhide HV).below (hB2.trans ((hE18.trans (hBb.mono hE18.size)).mono (by omega))) (Nat.le_refl _) | exact (unhide HV).below (hB2.trans ((hE18.trans ((hBba _).mono hE18.size)).mono (by omega))) (Nat.le_refl _)) j1 j2 j3 j4 j5).mono ?_; rintro e w20 ⟨u4, rfl, hF4, hb20⟩; have hBbc : Below w19.heap.size w19 w20 := (by first | exact hb20 | exact (below1 w19 _).trans (hb20.mono (by rw [sz_alloc]; omega))); have hBc : Below w18.heap.size w18 w20 := hBb.trans (hBbc.mono hBb.size); have hBca : ∀ o : Obj, Below w18.heap.size w18 (w20.alloc o) := fun o => hBc.alloc hBc.size o; have hsc := hb20.size; (try rw [sz_alloc] at hsc); ((first | (have RZ20 := hide ((unhide RZ19).below hb20 (by omega))) | (have RZ20 := hide ((Row4.new w19 34 (.int .i64 0) (.slice none 0 0) (.slice none 0 0) (.slice none 0 0)).below hb20 (by rw [sz_alloc]; exact Nat.lt_succ_self _))) | skip)); have S20 := hide (hF4.rd (Nat.le_refl _)); obtain ⟨y1a, y1c, y2a, y2c, y3a, y3c, rfl, -⟩ := (unhide S20).parts; clear hF4)
          | (go_at_call 23; refine (toSegment_w _ base xss pss ks _ (by first | exact (unhide HU).below ((hB2.trans (hE18.mono (by omega))).drew) (Nat.le_refl _) | exact (unhide HU).below (((hB2.trans (hE18.mono (by omega))).alloc (by omega) _).drew) (Nat.le_refl _)) i1 i2 i3 i4 i5).mono ?_; rintro e w19 ⟨u3, rfl, hF3, hb19⟩; have hBb : Below w18.heap.size w18 w19 := (by first | exact ⟨hb19.os, hb19.tape, hb19.output, hb19.size, hb19.block⟩ | exact (below1 w18 (.cells #[.int .i64 0, .slice none 0 0, .slice none 0 0, .slice none 0 0] 34)).drew.trans (hb19.mono (by show w18.heap.size ≤ (w18.alloc _).heap.size; rw [sz_alloc]; omega))); have hBba : ∀ o : Obj, Below w18.heap.size w18 (w19.alloc o) := fun o => hBb.alloc hBb.size o; have hsb := hBb.size; (try (have hsb2 : (w18.alloc (.cells #[.int .i64 0, .slice none 0 0, .slice none 0 0, .slice none 0 0] 34)).heap.size ≤ w19.heap.size := hb19.size; rw [sz_alloc] at hsb2)); ((first | (have RZ19 := hide ((Row4.new w18 34 (.int .i64 0) (.slice none 0 0) (.slice none 0 0) (.slice none 0 0)).below (show Below (w18.alloc (.cells #[.int .i64 0, .slice none 0 0, .slice none 0 0, .slice none 0 0] 34)).heap.size (w18.alloc (.cells #[.int .i64 0, .slice none 0 0, .slice none 0 0, .slice none 0 0] 34)) w19 from ⟨hb19.os, hb19.tape, hb19.output, hb19.size, hb19.block⟩) (by rw [sz_alloc]; exact Nat.lt_succ_self _))) | skip)); have S19 := hide (hF3.rd (Nat.le_refl _)); obtain ⟨x1a, x1c, x2a, x2c, x3a, x3c, rfl, -⟩ := (unhide S19).parts; clear hF3))
      all_goals go_wp2_with fail
      all_goals go_meet
      all_goals first
        | exact ⟨_, bw, zs, kw, pw, cw, rfl, rfl, unhide HIS, ⟨_, _, _, _, _, _, Row4.new w21 _ _ _ _ _, (unhide RD).below (below1 w21 _) (Nat.le_refl _)⟩, hBd.size, by rw [sz_alloc]; exact Nat.lt_succ_self _, hBda _⟩
        | exact ⟨_, bw, zs, kw, pw, cw, rfl, rfl, unhide HIS, ⟨_, _, _, _, _, _, (unhide RZ21).all _ _ _ _, unhide HP _ _ _ _ _ (by first | omega | (rw [sz_alloc]; omega))⟩, by omega, by rw [sz_put4]; omega, hBp _ _ _ _ _ (by omega)⟩
    case rest =>
      obtain ⟨N21, bg, zg, kg, pg, cg, rfl, rfl, hig, ⟨h1a, h1c, h2a, h2c, h3a, h3c, hrow, hrd⟩, hN21, hN21', hE21⟩ := hcut
      obtain ⟨rfl, rfl, rfl, rfl, rfl⟩ := (unhide HIS).uniq hig
      have RH := hide hrd
      obtain ⟨V21, hV21⟩ : ∃ V21, V21 = wc := ⟨_, rfl⟩
      rw [← hV21] at RH hrow hN21' hE21 ⊢
      have hz21 := hE21.size
      have hD21 : Below V5.heap.size V5 V21 := hD18.trans (hE21.mono (by omega))
      clear hig hrd hV21 hS hBa hBaa f0 f1 f2 f3 g0 g1 g2 g3
      obtain ⟨f0, f1, f2, f3, -⟩ := (BW.below hD21 (by omega)).facts
      obtain ⟨g0, g1, g2, g3, -⟩ := hrow.facts
      go_wp2_with fail
      refine (eqSegment_w _ _ bw zs pw kw _ (unhide RH) ((unhide RW).below hD21 (Nat.le_refl _))).mono ?_
      rintro e w22 ⟨rfl, hb22⟩
      have hBf : Below w.heap.size w w22 := hB2.trans (((hE18.trans (hE21.mono (by omega))).trans (hb22.mono (by omega))).mono (by omega))
      clear hb22 f0 f1 f2 f3 g0 g1 g2 g3
      go_wp2
      go_ret
      exact ⟨rfl, hBf⟩

end Go.Proofs.Ytidjmaakhldpgaa
