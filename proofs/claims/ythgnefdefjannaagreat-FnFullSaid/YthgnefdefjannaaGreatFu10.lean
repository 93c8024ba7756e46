import Derived.Test.YthgnefdefjannaaGreatFu9
import Derived.Test.YthgnefdefjannaaGreatIg3
namespace Go.Proofs.YthgnefdefjannaaGreat
open Go.RowKit

theorem run_l4build (x y : Value) (w : World) : Sem.run Tryz.prog (callFunc 25 #[x, y]) w = .ok (.enter 25 #[x, y]) w := by kernel_rfl
/-- What l5near answers. -/
def NrOut (lo N D : Nat) (w : World) (xs : List Int) (B O : List (List Int)) (n t : Nat) (e : Ending) (w' : World) : Prop := (∃ v, e = .returned (.tuple #[v, .int .i64 (1000 - (n : Int)), .int .i64 (20000 - (t : Int))]) ∧ StD lo w' v B O) ∧ CdAt N D w' xs ∧ Mv lo D w w'
theorem mLn_nl (i m : Nat) : NoNl (mLn i m) := fun x hx => by
  simp only [mLn, List.mem_map, List.mem_range] at hx
  obtain ⟨j, -, rfl⟩ := hx
  omega
theorem mny_nl (n t : Nat) : ∀ x ∈ mny n t, NoNl x := fun x hx => by
  simp only [mny, mnyK, List.mem_map, List.mem_range] at hx
  obtain ⟨i, -, rfl⟩ := hx
  exact mLn_nl _ _
theorem mny_len (n t : Nat) : (mny n t).length = n := mnyK_len n t n
theorem mny_fits (n t c : Nat) (hn : 1 ≤ n) (hn2 : n ≤ 1000) (ht : t ≤ 20000) (hc : 1 ≤ c) (hc2 : c ≤ n) : Fits ((0 : Nat) : Int) ((mny n t).take c) := by
  have h1 := mny_tot n t hn
  have h2 := tot_take (mny n t) c
  have h3 : ((mny n t).take c).length = c := by rw [List.length_take, mny_len]; omega
  exact ⟨by omega, by omega, by omega, plain_of (fun l hl => mny_nl n t l (List.mem_of_mem_take hl)), by omega⟩

set_option maxHeartbeats 8000000 in
set_option maxRecDepth 100000 in
theorem l5near_0n (E : Nat → List (List Int) → List Int) (hE : EncE E) (N D c : Nat) (xs : List Int) (w : World) (h : CdAt N D w xs) (hx : Cod xs) (hD : D < w.heap.size) (hk : xs.headD 0 % 2 = 0) (hc : xs.tail.headD 0 * 3 = (c : Int)) (hc1 : ¬ (0 < c ∧ c < 996)) :
    Calls Tryz.prog 11 #[.pointer (some ⟨D, 0, none⟩)] w (NrOut w.heap.size N D w xs.tail.tail ([]) (mny 996 700) 996 700) := by
  obtain ⟨i0, hi, hz0, hz1, hz2⟩ := info_parts Tryz.zinByteS
  have HEE0 := hide hE
  have HX := hide hx
  have hh := hx.head
  have hh2 := hx.tail.head
  obtain ⟨y, hy⟩ : ∃ y, xs.headD 0 = y := ⟨_, rfl⟩
  obtain ⟨z, hz⟩ : ∃ z, xs.tail.headD 0 = z := ⟨_, rfl⟩
  rw [hy] at hk hh
  rw [hz] at hc hh2
  have HY := hide hy
  have HZ := hide hz
  have hcw : IntKind.i64.wrap (z * 3) = (c : Int) := by rw [hc]; exact k64i (by omega) (by omega)
  have hcl : c ≤ 765 := by omega
  have hb0 := below1 w (.cells #[.slice none 0 0, .slice none 0 0] 25)
  have RR := Row2.new w 25 (.slice none 0 0) (.slice none 0 0)
  have hzV : (w.alloc (.cells #[.slice none 0 0, .slice none 0 0] 25)).heap.size = w.heap.size + 1 := sz_alloc _ _
  have H := hide (h.keep hb0 hD)
  obtain ⟨Y, hYY⟩ : ∃ Y, mny 996 700 = Y := ⟨_, rfl⟩
  have hYl : Y.length = 996 := by rw [← hYY]; exact mny_len _ _
  have hYt : tot Y = 700 := by rw [← hYY]; exact mny_tot _ _ (by omega)
  have hYb : ∀ x ∈ Y, Bytes x := by rw [← hYY]; exact fun x hx => bytes_of_mem (mny_byte _ _ x hx)
  rw [hYY]
  have HYY := hide hYY
  have HYL := hide hYl
  have HYT := hide hYt
  have HYB := hide hYb
  clear hy hz hx h hE hYY hYl hYt hYb
  go_enter Tryz.func11, Tryz.ntmps11
  go_wp2_with fail
  generalize w.alloc (.cells #[.slice none 0 0, .slice none 0 0] 25) = V at *
  have hVz : w.heap.size + 1 ≤ V.heap.size := by omega
  clear hzV
  refine (next_any N D xs V (unhide H) (unhide HX)).mono ?_
  rintro e w1 ⟨he, hc1', ho1⟩
  rw [unhide HY] at he
  subst he
  have hM1 : Mv V.heap.size D V w1 := ho1.mv _
  have hz1' : V.heap.size ≤ w1.heap.size := hM1.size
  have HC1 := hide hc1'
  clear ho1 hc1'
  go_wp2_with fail
  refine (l4many_any 996 700 w1 (by omega) (by omega) (by omega)).mono ?_
  rintro e w2 ⟨⟨lv, rfl, ps, hps, hll⟩, hb2⟩
  rw [unhide HYY] at hps
  have hz2' := hb2.size
  have HPS := hide hps
  have HLL := hide hll
  have hpl : 996 ≤ ps.length := by have h9 := congrArg List.length hps; rw [List.length_map, unhide HYL] at h9; omega
  have hpl2 : ps.length ≤ 996 := by have h9 := congrArg List.length hps; rw [List.length_map, unhide HYL] at h9; omega
  obtain ⟨g, cap, cur, e9, -, -, hnc, hcm, -⟩ := hll.own.2.resolve_left (fun q => by have := q.2; omega)
  subst e9
  have hM2 : Mv w1.heap.size D w1 w2 := Below.mv hb2 D
  have HC2 := hide ((unhide HC1).keep hb2 (by omega))
  have hb3 := below1 w2 (.cells #[.slice none 0 0, .slice none 0 0] 25)
  have RS := Row2.new w2 25 (.slice none 0 0) (.slice none 0 0)
  have hzV3 : (w2.alloc (.cells #[.slice none 0 0, .slice none 0 0] 25)).heap.size = w2.heap.size + 1 := sz_alloc _ _
  clear hll hps hb2
  go_wp2_with fail
  generalize w2.alloc (.cells #[.slice none 0 0, .slice none 0 0] 25) = V3 at *
  have hVz3 : w2.heap.size + 1 ≤ V3.heap.size := by omega
  clear hzV3
  refine (next_any N D xs.tail V3 ((unhide HC2).keep hb3 (by omega)) (unhide HX).tail).mono ?_
  rintro e w3 ⟨he, hc3', ho3⟩
  rw [unhide HZ] at he
  subst he
  have hM3 : Mv V3.heap.size D V3 w3 := ho3.mv _
  have hz3' : V3.heap.size ≤ w3.heap.size := hM3.size
  have HC3 := hide hc3'
  have HS3 := hide (RS.mv hM3 (by omega) (by omega))
  have HR3 := hide ((((RR.mv hM1 (by omega) (by omega)).mv hM2 (by omega) (by omega)).below hb3 (by omega)).mv hM3 (by omega) (by omega))
  have hMw : Mv w.heap.size D w w3 := (((Below.mv hb0 D).trans (hM1.mono (by omega))).trans ((hM2.mono (by omega)).trans (Below.mv (hb3.mono (by omega)) D))).trans (hM3.mono (by omega))
  have hss := ((LB.footR (unhide HLL)).same (w' := w3) (fun k hk => by unfold Rng at hk; rw [hM3.block k (by omega) (by omega), hb3.block k hk.2])).at (N := w2.heap.size) (fun k hk => hk.2)
  rw [unhide HPS] at hss
  obtain ⟨a9, c9, e9, h9, hc9⟩ := hss
  simp only [Value.slice.injEq] at e9
  obtain ⟨rfl, e8, rfl⟩ := e9
  obtain ⟨b9, off9, e7, hb9, hcell⟩ := hc9 (by rw [unhide HYL]; omega)
  simp only [Option.some.injEq, Addr.mk.injEq, and_true] at e7
  obtain ⟨rfl, rfl⟩ := e7
  have hYc : Y.length ≤ cap ∧ cap ≤ maxLen := h9
  have hcapc : 996 ≤ cap := by rw [unhide HYL] at hYc; exact hYc.1
  have HSS : Hid (SsAt mB 0 w3.heap.size w3 (.slice (some ⟨g, 0, none⟩) ps.length cap) Y) := SsAt.monoN (N := w2.heap.size) ⟨_, _, by rw [e8], h9, fun _ => ⟨g, 0, rfl, hb9, hcell⟩⟩ (by omega)
  have HS7 := HS3
  have HR7 := HR3
  have HC7 := HC3
  have hM7 := hMw
  have HL7 : Hid (LB (w2.heap.size + 1) w3 (.slice none 0 0) []) := LL.nil
  obtain ⟨f0, f1, f2, f3⟩ := (unhide HS3).facts4
  clear hcell hc9 h9 e8 hYc ho3 hc3'
  rcases (show c = 0 ∨ 996 ≤ c by omega) with hc5 | hc5
  · have hc6 : ¬ (0 : Int) < (c : Int) := by omega
    go_wp2_with fail
    refine (l4copy_any _ Y w3 (unhide HSS) (by have := unhide HYT; omega) (by have := unhide HYL; omega)).mono ?_
    rintro e w5 ⟨ov, rfl, ⟨qs, hqs, hlq⟩, hb5⟩
    have hz5 := hb5.size
    have HLQ := hide hlq
    have HQS := hide hqs
    have HB5 := hide ((unhide HS7).below hb5 (by omega))
    have HR5 := hide ((unhide HR7).below hb5 (by omega))
    have HC5 := hide ((unhide HC7).keep hb5 (by omega))
    have hM5 : Mv w.heap.size D w w5 := hM7.trans (Below.mv (hb5.mono (by omega)) D)
    have HL5 := hide ((unhide HL7).keep hb5 (Nat.le_refl _))
    have hfoot := (unhide HL7)
    have HFIN : Hid (∀ (W : World) (ov : Value), LB w3.heap.size W ov qs → LB (w2.heap.size + 1) W (.slice none 0 0) [] → StL w.heap.size W (.slice none 0 0) ov [] qs) := fun W ov h1 k1 => by
      refine ⟨k1.low (by omega), h1.low (by omega), fun j hj hj2 => ?_, fun p hp q hq h0 h3 e => ?_⟩
      · have := (hfoot.own.lt j hj).2
        have := (h1.own.lt j hj2).1
        omega
      · have := (hfoot.ok p hp).lt h0
        have := h1.lo q hq h3
        omega
    obtain ⟨va, vc, rfl⟩ := own_is hlq.own
    obtain ⟨t0, t1, t2, t3⟩ := (unhide HB5).facts4
    obtain ⟨s0, s1, -⟩ := ((unhide HB5).put1 (u := .slice va qs.length vc)).facts4
    obtain ⟨u0, u1, u2, u3⟩ := ((unhide HR5).other (b' := w2.heap.size) (o := 1) (u := .slice va qs.length vc) (by omega)).facts4
    clear hlq hqs hb5 hfoot
    go_wp2_with fail
    obtain ⟨e0, e1, -⟩ := ((((unhide HR5).other (b' := w2.heap.size) (o := 1) (u := .slice va qs.length vc) (by omega)).put0 (u := .slice none 0 0)).put1 (u := .slice va qs.length vc)).facts4
    have hP : Below w.heap.size w5 (((w5.setCell ⟨w2.heap.size, 1, none⟩ (.slice va qs.length vc)).setCell ⟨w.heap.size, 0, none⟩ (.slice none 0 0)).setCell ⟨w.heap.size, 1, none⟩ (.slice va qs.length vc)) := bput2 (bput (Below.refl _ _) (by omega) _) (Nat.le_refl _) _ _
    have hsd := (unhide HFIN _ _ ((((unhide HLQ).putlo (B := w2.heap.size) (o := 1) (u := .slice va qs.length vc) (by omega)).putlo (B := w.heap.size) (o := 0) (u := .slice none 0 0) (by omega)).putlo (B := w.heap.size) (o := 1) (u := .slice va qs.length vc) (by omega)) ((((unhide HL5).putlo (by omega)).putlo (by omega)).putlo (by omega))).d
    rw [unhide HQS] at hsd
    skip
    exact bodyPost_ret (v := .tuple #[.agg #[.slice none 0 0, .slice va qs.length vc], .int .i64 4, .int .i64 19300]) (by simp [results, Tryz.results11, go_sem, e0, e1]) rfl ⟨⟨_, rfl, hsd⟩, (unhide HC5).keep hP hD, hM5.trans (Below.mv hP D)⟩

  · omega

set_option maxHeartbeats 8000000 in
set_option maxRecDepth 100000 in
theorem l5near_0c (E : Nat → List (List Int) → List Int) (hE : EncE E) (N D c : Nat) (xs : List Int) (w : World) (h : CdAt N D w xs) (hx : Cod xs) (hD : D < w.heap.size) (hk : xs.headD 0 % 2 = 0) (hc : xs.tail.headD 0 * 3 = (c : Int)) (hc1 : 0 < c) (hc2 : c < 996) :
    Calls Tryz.prog 11 #[.pointer (some ⟨D, 0, none⟩)] w (NrOut w.heap.size N D w xs.tail.tail ([E 0 ((mny 996 700).take c)]) ((mny 996 700).drop c) 996 700) := by
  obtain ⟨i0, hi, hz0, hz1, hz2⟩ := info_parts Tryz.zinByteS
  have HEE0 := hide hE
  have HX := hide hx
  have hh := hx.head
  have hh2 := hx.tail.head
  obtain ⟨y, hy⟩ : ∃ y, xs.headD 0 = y := ⟨_, rfl⟩
  obtain ⟨z, hz⟩ : ∃ z, xs.tail.headD 0 = z := ⟨_, rfl⟩
  rw [hy] at hk hh
  rw [hz] at hc hh2
  have HY := hide hy
  have HZ := hide hz
  have hcw : IntKind.i64.wrap (z * 3) = (c : Int) := by rw [hc]; exact k64i (by omega) (by omega)
  have hcl : c ≤ 765 := by omega
  have hc3 : (0 : Int) < (c : Int) := by omega
  have hc4 : (c : Int) < 996 := by omega
  have hb0 := below1 w (.cells #[.slice none 0 0, .slice none 0 0] 25)
  have RR := Row2.new w 25 (.slice none 0 0) (.slice none 0 0)
  have hzV : (w.alloc (.cells #[.slice none 0 0, .slice none 0 0] 25)).heap.size = w.heap.size + 1 := sz_alloc _ _
  have H := hide (h.keep hb0 hD)
  obtain ⟨Y, hYY⟩ : ∃ Y, mny 996 700 = Y := ⟨_, rfl⟩
  have hYl : Y.length = 996 := by rw [← hYY]; exact mny_len _ _
  have hYt : tot Y = 700 := by rw [← hYY]; exact mny_tot _ _ (by omega)
  have hYb : ∀ x ∈ Y, Bytes x := by rw [← hYY]; exact fun x hx => bytes_of_mem (mny_byte _ _ x hx)
  have HFIT := hide (mny_fits 996 700 c (by omega) (by omega) (by omega) (by omega) (by omega))
  rw [hYY] at HFIT
  rw [hYY]
  obtain ⟨X, hXX⟩ : ∃ X, Y.take c = X := ⟨_, rfl⟩
  obtain ⟨Zd, hZd⟩ : ∃ Zd, Y.drop c = Zd := ⟨_, rfl⟩
  have HXB : Hid (∀ x ∈ X, Bytes x) := fun x hx => hYb x (List.mem_of_mem_take (by rw [hXX]; exact hx))
  have hXt : tot X ≤ 20000 := by have := tot_take Y c; rw [hXX] at this; omega
  have hXl : X.length ≤ 1000 := by rw [← hXX, List.length_take]; omega
  have hXd : tot Zd ≤ 20000 := by have := tot_drop Y c; rw [hZd] at this; omega
  have hXe : Zd.length ≤ 1000 := by rw [← hZd, List.length_drop, hYl]; omega
  rw [hXX] at HFIT
  rw [hXX, hZd]
  have HXX := hide hXX
  have HZD := hide hZd
  clear hXX hZd
  have HYY := hide hYY
  have HYL := hide hYl
  have HYT := hide hYt
  have HYB := hide hYb
  clear hy hz hx h hE hYY hYl hYt hYb
  go_enter Tryz.func11, Tryz.ntmps11
  go_wp2_with fail
  generalize w.alloc (.cells #[.slice none 0 0, .slice none 0 0] 25) = V at *
  have hVz : w.heap.size + 1 ≤ V.heap.size := by omega
  clear hzV
  refine (next_any N D xs V (unhide H) (unhide HX)).mono ?_
  rintro e w1 ⟨he, hc1', ho1⟩
  rw [unhide HY] at he
  subst he
  have hM1 : Mv V.heap.size D V w1 := ho1.mv _
  have hz1' : V.heap.size ≤ w1.heap.size := hM1.size
  have HC1 := hide hc1'
  clear ho1 hc1'
  go_wp2_with fail
  refine (l4many_any 996 700 w1 (by omega) (by omega) (by omega)).mono ?_
  rintro e w2 ⟨⟨lv, rfl, ps, hps, hll⟩, hb2⟩
  rw [unhide HYY] at hps
  have hz2' := hb2.size
  have HPS := hide hps
  have HLL := hide hll
  have hpl : 996 ≤ ps.length := by have h9 := congrArg List.length hps; rw [List.length_map, unhide HYL] at h9; omega
  have hpl2 : ps.length ≤ 996 := by have h9 := congrArg List.length hps; rw [List.length_map, unhide HYL] at h9; omega
  obtain ⟨g, cap, cur, e9, -, -, hnc, hcm, -⟩ := hll.own.2.resolve_left (fun q => by have := q.2; omega)
  subst e9
  have hM2 : Mv w1.heap.size D w1 w2 := Below.mv hb2 D
  have HC2 := hide ((unhide HC1).keep hb2 (by omega))
  have hb3 := below1 w2 (.cells #[.slice none 0 0, .slice none 0 0] 25)
  have RS := Row2.new w2 25 (.slice none 0 0) (.slice none 0 0)
  have hzV3 : (w2.alloc (.cells #[.slice none 0 0, .slice none 0 0] 25)).heap.size = w2.heap.size + 1 := sz_alloc _ _
  clear hll hps hb2
  go_wp2_with fail
  generalize w2.alloc (.cells #[.slice none 0 0, .slice none 0 0] 25) = V3 at *
  have hVz3 : w2.heap.size + 1 ≤ V3.heap.size := by omega
  clear hzV3
  refine (next_any N D xs.tail V3 ((unhide HC2).keep hb3 (by omega)) (unhide HX).tail).mono ?_
  rintro e w3 ⟨he, hc3', ho3⟩
  rw [unhide HZ] at he
  subst he
  have hM3 : Mv V3.heap.size D V3 w3 := ho3.mv _
  have hz3' : V3.heap.size ≤ w3.heap.size := hM3.size
  have HC3 := hide hc3'
  have HS3 := hide (RS.mv hM3 (by omega) (by omega))
  have HR3 := hide ((((RR.mv hM1 (by omega) (by omega)).mv hM2 (by omega) (by omega)).below hb3 (by omega)).mv hM3 (by omega) (by omega))
  have hMw : Mv w.heap.size D w w3 := (((Below.mv hb0 D).trans (hM1.mono (by omega))).trans ((hM2.mono (by omega)).trans (Below.mv (hb3.mono (by omega)) D))).trans (hM3.mono (by omega))
  have hss := ((LB.footR (unhide HLL)).same (w' := w3) (fun k hk => by unfold Rng at hk; rw [hM3.block k (by omega) (by omega), hb3.block k hk.2])).at (N := w2.heap.size) (fun k hk => hk.2)
  rw [unhide HPS] at hss
  obtain ⟨a9, c9, e9, h9, hc9⟩ := hss
  simp only [Value.slice.injEq] at e9
  obtain ⟨rfl, e8, rfl⟩ := e9
  obtain ⟨b9, off9, e7, hb9, hcell⟩ := hc9 (by rw [unhide HYL]; omega)
  simp only [Option.some.injEq, Addr.mk.injEq, and_true] at e7
  obtain ⟨rfl, rfl⟩ := e7
  have hYc : Y.length ≤ cap ∧ cap ≤ maxLen := h9
  have hcapc : 996 ≤ cap := by rw [unhide HYL] at hYc; exact hYc.1
  have HSS : Hid (SsAt mB 0 w3.heap.size w3 (.slice (some ⟨g, 0, none⟩) c cap) X) := by
    have := SsAt.monoN (N' := w3.heap.size) (SsAt.take (k := c) (by rw [unhide HYL]; omega) h9 hb9 hcell) (by omega)
    rw [unhide HXX] at this
    exact this
  have HSD9 : Hid (SsAt mB 0 w2.heap.size w3 (.slice (some ⟨g, c, none⟩) (ps.length - c) (cap - c)) Zd) := by
    have := SsAt.drop (xss := Y) (k := c) (m := ps.length - c) (cap := cap - c) (by rw [unhide HYL]; omega) ⟨by omega, by omega⟩ hb9 hcell
    rw [Nat.zero_add, unhide HZD] at this
    exact this
  obtain ⟨f0, f1, f2, f3⟩ := (unhide HS3).facts4
  have hcp : (c : Int) ≤ (ps.length : Int) := by omega
  have hcp2 : c ≤ ps.length := by omega
  have hcp3 : c ≤ cap := by omega
  have hcp4 : (c : Int) ≤ (cap : Int) := by omega
  have hcp5 : c < cap := by omega
  have hS : Hid (∀ W' : World, Below w3.heap.size w3 W' → W'.cell? ⟨w2.heap.size, 0, none⟩ = some (.slice none 0 0) ∧ W'.frozen? ⟨w2.heap.size, 0, none⟩ = false) := fun W' hW => by
    have := ((unhide HS3).below hW (by omega)).facts4
    exact ⟨this.1, this.2.2.1⟩
  have hS2 : Hid (∀ W' : World, Below (w2.heap.size + 1) w3 W' → W'.cell? ⟨w2.heap.size, 0, none⟩ = some (.slice none 0 0) ∧ W'.frozen? ⟨w2.heap.size, 0, none⟩ = false) := fun W' hW => by
    have := ((unhide HS3).below hW (by omega)).facts4
    exact ⟨this.1, this.2.2.1⟩
  clear hcell hc9 h9 e8 hYc ho3 hc3'
  go_wp2_with fail
  go_region_law (
    (first
      | (refine step_call_o 25 #[.const (.int .i64 0), .tmp 33] _ rfl #[.int .i64 0, .slice (some ⟨g, 0, none⟩) c cap] rfl (by first | (simp [Act.eval]; done) | (simp [Act.eval, Act.put]; done)) (run_l4build _ _) (l4build_any 0 _ X _ (by exact unhide HSS) (unhide HXB) (by omega) (by omega) (by omega) (by omega)) ?_; rintro e w4 ⟨⟨v4, ks, pss, rfl, hsr, hat⟩, hb4⟩; have hB4 : Below w3.heap.size w3 w4 := ⟨hb4.os, hb4.tape, hb4.output, hb4.size, hb4.block⟩; have hz4 := hB4.size; have HENC : Hid (EncIn 0 X ks pss) := (built_enc (unhide HFIT) hsr (unhide HXB) (by have := segR_len hsr (by omega); omega) (by have := segR_len hsr (by omega); omega)); have HENE : Hid (encL 0 X ks pss = E 0 X) := unhide HEE0 0 X ks pss hsr; have HRD := hide hat.rd; obtain ⟨p1, q1, p2, q2, p3, q3, rfl⟩ := hat.rd.val; obtain ⟨d4, z4⟩ := unhide hS _ hB4; clear hsr hat hb4; refine ⟨_, rfl, ?_⟩)
      | (refine step_call_o 24 #[.tmp 34] _ rfl #[.agg #[.int .i64 0, .slice p1 X.length q1, .slice p2 ks.length q2, .slice p3 pss.length q3]] rfl (by first | (simp [Act.eval]; done) | (simp [Act.eval, Act.put]; done)) (run_l4encode _) (l4encode_any _ 0 X pss ks _ (by exact unhide HRD) (unhide HENC)) ?_; rintro e w6 ⟨⟨v6, rfl, hown6⟩, hb6⟩; rw [unhide HENE] at hown6; have hB6 : Below w4.heap.size w4 w6 := ⟨hb6.os, hb6.tape, hb6.output, hb6.size, hb6.block⟩; have hB36 : Below w3.heap.size w3 w6 := hB4.trans (hB6.mono hz4); have hz6 := hB36.size; have Hown6 : Hid (w6.ownsRow w4.heap.size 5 1 v6 (E 0 X).length ((E 0 X).map mB)) := hown6; have Hpu : Hid (∀ (w' : World) (v' : Value), w'.ownsRow (w2.heap.size + 1) 22 1 v' (([] : List (Cl Int)).length + 1) (([] : List (Cl Int)).map Cl.v ++ [v6]) → (w6.alloc (.cells #[v6] 22)).grownBy w' (Value.slice none 0 0).ownBlock → ∃ p : Cl Int, p.xs = E 0 X ∧ LB (w2.heap.size + 1) w' v' ([] ++ [p]) ∧ Below (w2.heap.size + 1) w4 w') := LB.push (LL.nil (w := w4)) (by omega) hB6 (Below.refl _ w4) (unhide Hown6); obtain ⟨ya, yc, rfl⟩ := own_is hown6; obtain ⟨d6, z6⟩ := unhide hS _ hB36; obtain ⟨d7, z7⟩ := unhide hS _ (hB36.alloc hz6 (.cells #[.slice ya (E 0 X).length yc] 22)); clear hown6 hb6; refine ⟨_, rfl, ?_⟩)
      | (refine step_append_lies _ rfl (.tmp 30) (.tmp 36) 23 rfl (w2.heap.size + 1) 22 i0 (.slice none 0 0) 1 24 Tryz.underlying23 hi hz0 hz1 hz2 rfl (by decide) (.slice none 0 0) 0 [] (by first | (simp [Act.eval]; done) | (simp [Act.eval, Act.put]; done)) (World.ownsRow_nil _ _ _ _) ⟨w6.heap.size, 0, none⟩ 1 1 [.slice ya (E 0 X).length yc] (by first | (simp [Act.eval]; done) | (simp [Act.eval, Act.put]; done)) rfl (by refine Pushd.news (w := w6) (cs := #[.slice ya (E 0 X).length yc]) (t := 22) ?_; exact ⟨rfl, rfl, rfl, rfl⟩) (by intro u hu; simp at hu; subst hu; rfl) (by decide) (by unfold maxLen; omega) (by omega) (by show w2.heap.size + 1 ≤ (w6.alloc _).heap.size; rw [sz_alloc]; omega) (w6.heap.size + 1) (sz_alloc w6 _) (fun gg cap' w7 q1 q2 q3 q4 => ?_); have h7 := hide (unhide Hpu w7 (.slice (some ⟨gg, 0, none⟩) (0 + 1) cap') q1 q2); have hB7 : Below (w2.heap.size + 1) w3 w7 := (by obtain ⟨_, _, _, r⟩ := unhide h7; exact (hB4.mono (by omega)).trans r); obtain ⟨c7, zz7⟩ := unhide hS2 _ hB7; clear q1 q2 q3 q4)))
  all_goals
    obtain ⟨p, r1, r2, r3⟩ := unhide h7
    have HP := hide r1
    have r2' : LB (w2.heap.size + 1) w7 (.slice (some ⟨gg, 0, none⟩) 1 cap') [p] := r2
    have HL7' := hide (r2'.putlo (B := w2.heap.size) (o := 0) (u := .slice (some ⟨gg, 0, none⟩) 1 cap') (Nat.lt_succ_self _))
    have HS7' := hide (((unhide HS3).below hB7 (Nat.lt_succ_self _)).put0 (u := .slice (some ⟨gg, 0, none⟩) 1 cap'))
    have HR7' := hide (((unhide HR3).below hB7 (by omega)).other (b' := w2.heap.size) (o := 0) (u := .slice (some ⟨gg, 0, none⟩) 1 cap') (by omega))
    have hB37 : Below w2.heap.size w3 (w7.setCell ⟨w2.heap.size, 0, none⟩ (.slice (some ⟨gg, 0, none⟩) 1 cap')) := bput (hB7.mono (by omega)) (Nat.le_refl _) _
    obtain ⟨y0, y1, -⟩ := (unhide HS7').facts4
    clear r1 r2 r3 r2' h7 hB7
    go_wp2_with fail
    generalize w7.setCell ⟨w2.heap.size, 0, none⟩ (.slice (some ⟨gg, 0, none⟩) 1 cap') = W7 at *
    have hzW : w3.heap.size ≤ W7.heap.size := hB37.size
    have HL7 : Hid (LB (w2.heap.size + 1) W7 (.slice (some ⟨gg, 0, none⟩) 1 cap') [p]) := HL7'
    have HS7 := HS7'
    have HR7 := HR7'
    have HC7 := hide ((unhide HC3).keep hB37 (by omega))
    have hM7 : Mv w.heap.size D w W7 := hMw.trans (Below.mv (hB37.mono (by omega)) D)
    refine (l4copy_any _ Zd W7 (((unhide HSD9).under hB37 (Nat.le_refl _)).monoN (by omega)) (by omega) (by omega)).mono ?_
    rintro e w5 ⟨ov, rfl, ⟨qs, hqs, hlq⟩, hb5⟩
    have hz5 := hb5.size
    have HLQ := hide hlq
    have HQS := hide hqs
    have HB5 := hide ((unhide HS7).below hb5 (by omega))
    have HR5 := hide ((unhide HR7).below hb5 (by omega))
    have HC5 := hide ((unhide HC7).keep hb5 (by omega))
    have hM5 : Mv w.heap.size D w w5 := hM7.trans (Below.mv (hb5.mono (by omega)) D)
    have HL5 := hide ((unhide HL7).keep hb5 (Nat.le_refl _))
    have hfoot := (unhide HL7)
    have HFIN : Hid (∀ (W : World) (ov : Value), LB W7.heap.size W ov qs → LB (w2.heap.size + 1) W (.slice (some ⟨gg, 0, none⟩) 1 cap') [p] → StL w.heap.size W (.slice (some ⟨gg, 0, none⟩) 1 cap') ov [p] qs) := fun W ov h1 k1 => by
      refine ⟨k1.low (by omega), h1.low (by omega), fun j hj hj2 => ?_, fun p hp q hq h0 h3 e => ?_⟩
      · have := (hfoot.own.lt j hj).2
        have := (h1.own.lt j hj2).1
        omega
      · have := (hfoot.ok p hp).lt h0
        have := h1.lo q hq h3
        omega
    obtain ⟨va, vc, rfl⟩ := own_is hlq.own
    obtain ⟨t0, t1, t2, t3⟩ := (unhide HB5).facts4
    obtain ⟨s0, s1, -⟩ := ((unhide HB5).put1 (u := .slice va qs.length vc)).facts4
    obtain ⟨u0, u1, u2, u3⟩ := ((unhide HR5).other (b' := w2.heap.size) (o := 1) (u := .slice va qs.length vc) (by omega)).facts4
    clear hlq hqs hb5 hfoot
    go_wp2_with fail
    obtain ⟨e0, e1, -⟩ := ((((unhide HR5).other (b' := w2.heap.size) (o := 1) (u := .slice va qs.length vc) (by omega)).put0 (u := .slice (some ⟨gg, 0, none⟩) 1 cap')).put1 (u := .slice va qs.length vc)).facts4
    have hP : Below w.heap.size w5 (((w5.setCell ⟨w2.heap.size, 1, none⟩ (.slice va qs.length vc)).setCell ⟨w.heap.size, 0, none⟩ (.slice (some ⟨gg, 0, none⟩) 1 cap')).setCell ⟨w.heap.size, 1, none⟩ (.slice va qs.length vc)) := bput2 (bput (Below.refl _ _) (by omega) _) (Nat.le_refl _) _ _
    have hsd := (unhide HFIN _ _ ((((unhide HLQ).putlo (B := w2.heap.size) (o := 1) (u := .slice va qs.length vc) (by omega)).putlo (B := w.heap.size) (o := 0) (u := .slice (some ⟨gg, 0, none⟩) 1 cap') (by omega)).putlo (B := w.heap.size) (o := 1) (u := .slice va qs.length vc) (by omega)) ((((unhide HL5).putlo (by omega)).putlo (by omega)).putlo (by omega))).d
    rw [unhide HQS] at hsd
    rw [show [p].map Cl.xs = [E 0 X] by rw [List.map_singleton, unhide HP]] at hsd
    exact bodyPost_ret (v := .tuple #[.agg #[.slice (some ⟨gg, 0, none⟩) 1 cap', .slice va qs.length vc], .int .i64 4, .int .i64 19300]) (by simp [results, Tryz.results11, go_sem, e0, e1]) rfl ⟨⟨_, rfl, hsd⟩, (unhide HC5).keep hP hD, hM5.trans (Below.mv hP D)⟩

set_option maxHeartbeats 8000000 in
set_option maxRecDepth 100000 in
theorem l5near_1n (E : Nat → List (List Int) → List Int) (hE : EncE E) (N D c : Nat) (xs : List Int) (w : World) (h : CdAt N D w xs) (hx : Cod xs) (hD : D < w.heap.size) (hk : xs.headD 0 % 2 = 1) (hc : xs.tail.headD 0 * 3 = (c : Int)) (hc1 : ¬ (0 < c ∧ c < 30)) :
    Calls Tryz.prog 11 #[.pointer (some ⟨D, 0, none⟩)] w (NrOut w.heap.size N D w xs.tail.tail ([]) (mny 30 19960) 30 19960) := by
  obtain ⟨i0, hi, hz0, hz1, hz2⟩ := info_parts Tryz.zinByteS
  have HEE0 := hide hE
  have HX := hide hx
  have hh := hx.head
  have hh2 := hx.tail.head
  obtain ⟨y, hy⟩ : ∃ y, xs.headD 0 = y := ⟨_, rfl⟩
  obtain ⟨z, hz⟩ : ∃ z, xs.tail.headD 0 = z := ⟨_, rfl⟩
  rw [hy] at hk hh
  rw [hz] at hc hh2
  have HY := hide hy
  have HZ := hide hz
  have hcw : IntKind.i64.wrap (z * 3) = (c : Int) := by rw [hc]; exact k64i (by omega) (by omega)
  have hcl : c ≤ 765 := by omega
  have hb0 := below1 w (.cells #[.slice none 0 0, .slice none 0 0] 25)
  have RR := Row2.new w 25 (.slice none 0 0) (.slice none 0 0)
  have hzV : (w.alloc (.cells #[.slice none 0 0, .slice none 0 0] 25)).heap.size = w.heap.size + 1 := sz_alloc _ _
  have H := hide (h.keep hb0 hD)
  obtain ⟨Y, hYY⟩ : ∃ Y, mny 30 19960 = Y := ⟨_, rfl⟩
  have hYl : Y.length = 30 := by rw [← hYY]; exact mny_len _ _
  have hYt : tot Y = 19960 := by rw [← hYY]; exact mny_tot _ _ (by omega)
  have hYb : ∀ x ∈ Y, Bytes x := by rw [← hYY]; exact fun x hx => bytes_of_mem (mny_byte _ _ x hx)
  rw [hYY]
  have HYY := hide hYY
  have HYL := hide hYl
  have HYT := hide hYt
  have HYB := hide hYb
  clear hy hz hx h hE hYY hYl hYt hYb
  go_enter Tryz.func11, Tryz.ntmps11
  go_wp2_with fail
  generalize w.alloc (.cells #[.slice none 0 0, .slice none 0 0] 25) = V at *
  have hVz : w.heap.size + 1 ≤ V.heap.size := by omega
  clear hzV
  refine (next_any N D xs V (unhide H) (unhide HX)).mono ?_
  rintro e w1 ⟨he, hc1', ho1⟩
  rw [unhide HY] at he
  subst he
  have hM1 : Mv V.heap.size D V w1 := ho1.mv _
  have hz1' : V.heap.size ≤ w1.heap.size := hM1.size
  have HC1 := hide hc1'
  clear ho1 hc1'
  go_wp2_with fail
  refine (l4many_any 30 19960 w1 (by omega) (by omega) (by omega)).mono ?_
  rintro e w2 ⟨⟨lv, rfl, ps, hps, hll⟩, hb2⟩
  rw [unhide HYY] at hps
  have hz2' := hb2.size
  have HPS := hide hps
  have HLL := hide hll
  have hpl : 30 ≤ ps.length := by have h9 := congrArg List.length hps; rw [List.length_map, unhide HYL] at h9; omega
  have hpl2 : ps.length ≤ 30 := by have h9 := congrArg List.length hps; rw [List.length_map, unhide HYL] at h9; omega
  obtain ⟨g, cap, cur, e9, -, -, hnc, hcm, -⟩ := hll.own.2.resolve_left (fun q => by have := q.2; omega)
  subst e9
  have hM2 : Mv w1.heap.size D w1 w2 := Below.mv hb2 D
  have HC2 := hide ((unhide HC1).keep hb2 (by omega))
  have hb3 := below1 w2 (.cells #[.slice none 0 0, .slice none 0 0] 25)
  have RS := Row2.new w2 25 (.slice none 0 0) (.slice none 0 0)
  have hzV3 : (w2.alloc (.cells #[.slice none 0 0, .slice none 0 0] 25)).heap.size = w2.heap.size + 1 := sz_alloc _ _
  clear hll hps hb2
  go_wp2_with fail
  generalize w2.alloc (.cells #[.slice none 0 0, .slice none 0 0] 25) = V3 at *
  have hVz3 : w2.heap.size + 1 ≤ V3.heap.size := by omega
  clear hzV3
  refine (next_any N D xs.tail V3 ((unhide HC2).keep hb3 (by omega)) (unhide HX).tail).mono ?_
  rintro e w3 ⟨he, hc3', ho3⟩
  rw [unhide HZ] at he
  subst he
  have hM3 : Mv V3.heap.size D V3 w3 := ho3.mv _
  have hz3' : V3.heap.size ≤ w3.heap.size := hM3.size
  have HC3 := hide hc3'
  have HS3 := hide (RS.mv hM3 (by omega) (by omega))
  have HR3 := hide ((((RR.mv hM1 (by omega) (by omega)).mv hM2 (by omega) (by omega)).below hb3 (by omega)).mv hM3 (by omega) (by omega))
  have hMw : Mv w.heap.size D w w3 := (((Below.mv hb0 D).trans (hM1.mono (by omega))).trans ((hM2.mono (by omega)).trans (Below.mv (hb3.mono (by omega)) D))).trans (hM3.mono (by omega))
  have hss := ((LB.footR (unhide HLL)).same (w' := w3) (fun k hk => by unfold Rng at hk; rw [hM3.block k (by omega) (by omega), hb3.block k hk.2])).at (N := w2.heap.size) (fun k hk => hk.2)
  rw [unhide HPS] at hss
  obtain ⟨a9, c9, e9, h9, hc9⟩ := hss
  simp only [Value.slice.injEq] at e9
  obtain ⟨rfl, e8, rfl⟩ := e9
  obtain ⟨b9, off9, e7, hb9, hcell⟩ := hc9 (by rw [unhide HYL]; omega)
  simp only [Option.some.injEq, Addr.mk.injEq, and_true] at e7
  obtain ⟨rfl, rfl⟩ := e7
  have hYc : Y.length ≤ cap ∧ cap ≤ maxLen := h9
  have hcapc : 30 ≤ cap := by rw [unhide HYL] at hYc; exact hYc.1
  have HSS : Hid (SsAt mB 0 w3.heap.size w3 (.slice (some ⟨g, 0, none⟩) ps.length cap) Y) := SsAt.monoN (N := w2.heap.size) ⟨_, _, by rw [e8], h9, fun _ => ⟨g, 0, rfl, hb9, hcell⟩⟩ (by omega)
  have HS7 := HS3
  have HR7 := HR3
  have HC7 := HC3
  have hM7 := hMw
  have HL7 : Hid (LB (w2.heap.size + 1) w3 (.slice none 0 0) []) := LL.nil
  obtain ⟨f0, f1, f2, f3⟩ := (unhide HS3).facts4
  clear hcell hc9 h9 e8 hYc ho3 hc3'
  rcases (show c = 0 ∨ 30 ≤ c by omega) with hc5 | hc5
  · have hc6 : ¬ (0 : Int) < (c : Int) := by omega
    go_wp2_with fail
    refine (l4copy_any _ Y w3 (unhide HSS) (by have := unhide HYT; omega) (by have := unhide HYL; omega)).mono ?_
    rintro e w5 ⟨ov, rfl, ⟨qs, hqs, hlq⟩, hb5⟩
    have hz5 := hb5.size
    have HLQ := hide hlq
    have HQS := hide hqs
    have HB5 := hide ((unhide HS7).below hb5 (by omega))
    have HR5 := hide ((unhide HR7).below hb5 (by omega))
    have HC5 := hide ((unhide HC7).keep hb5 (by omega))
    have hM5 : Mv w.heap.size D w w5 := hM7.trans (Below.mv (hb5.mono (by omega)) D)
    have HL5 := hide ((unhide HL7).keep hb5 (Nat.le_refl _))
    have hfoot := (unhide HL7)
    have HFIN : Hid (∀ (W : World) (ov : Value), LB w3.heap.size W ov qs → LB (w2.heap.size + 1) W (.slice none 0 0) [] → StL w.heap.size W (.slice none 0 0) ov [] qs) := fun W ov h1 k1 => by
      refine ⟨k1.low (by omega), h1.low (by omega), fun j hj hj2 => ?_, fun p hp q hq h0 h3 e => ?_⟩
      · have := (hfoot.own.lt j hj).2
        have := (h1.own.lt j hj2).1
        omega
      · have := (hfoot.ok p hp).lt h0
        have := h1.lo q hq h3
        omega
    obtain ⟨va, vc, rfl⟩ := own_is hlq.own
    obtain ⟨t0, t1, t2, t3⟩ := (unhide HB5).facts4
    obtain ⟨s0, s1, -⟩ := ((unhide HB5).put1 (u := .slice va qs.length vc)).facts4
    obtain ⟨u0, u1, u2, u3⟩ := ((unhide HR5).other (b' := w2.heap.size) (o := 1) (u := .slice va qs.length vc) (by omega)).facts4
    clear hlq hqs hb5 hfoot
    go_wp2_with fail
    obtain ⟨e0, e1, -⟩ := ((((unhide HR5).other (b' := w2.heap.size) (o := 1) (u := .slice va qs.length vc) (by omega)).put0 (u := .slice none 0 0)).put1 (u := .slice va qs.length vc)).facts4
    have hP : Below w.heap.size w5 (((w5.setCell ⟨w2.heap.size, 1, none⟩ (.slice va qs.length vc)).setCell ⟨w.heap.size, 0, none⟩ (.slice none 0 0)).setCell ⟨w.heap.size, 1, none⟩ (.slice va qs.length vc)) := bput2 (bput (Below.refl _ _) (by omega) _) (Nat.le_refl _) _ _
    have hsd := (unhide HFIN _ _ ((((unhide HLQ).putlo (B := w2.heap.size) (o := 1) (u := .slice va qs.length vc) (by omega)).putlo (B := w.heap.size) (o := 0) (u := .slice none 0 0) (by omega)).putlo (B := w.heap.size) (o := 1) (u := .slice va qs.length vc) (by omega)) ((((unhide HL5).putlo (by omega)).putlo (by omega)).putlo (by omega))).d
    rw [unhide HQS] at hsd
    skip
    exact bodyPost_ret (v := .tuple #[.agg #[.slice none 0 0, .slice va qs.length vc], .int .i64 970, .int .i64 40]) (by simp [results, Tryz.results11, go_sem, e0, e1]) rfl ⟨⟨_, rfl, hsd⟩, (unhide HC5).keep hP hD, hM5.trans (Below.mv hP D)⟩

  · have hc6 : (0 : Int) < (c : Int) := by omega
    have hc7 : ¬ (c : Int) < 30 := by omega
    go_wp2_with fail
    refine (l4copy_any _ Y w3 (unhide HSS) (by have := unhide HYT; omega) (by have := unhide HYL; omega)).mono ?_
    rintro e w5 ⟨ov, rfl, ⟨qs, hqs, hlq⟩, hb5⟩
    have hz5 := hb5.size
    have HLQ := hide hlq
    have HQS := hide hqs
    have HB5 := hide ((unhide HS7).below hb5 (by omega))
    have HR5 := hide ((unhide HR7).below hb5 (by omega))
    have HC5 := hide ((unhide HC7).keep hb5 (by omega))
    have hM5 : Mv w.heap.size D w w5 := hM7.trans (Below.mv (hb5.mono (by omega)) D)
    have HL5 := hide ((unhide HL7).keep hb5 (Nat.le_refl _))
    have hfoot := (unhide HL7)
    have HFIN : Hid (∀ (W : World) (ov : Value), LB w3.heap.size W ov qs → LB (w2.heap.size + 1) W (.slice none 0 0) [] → StL w.heap.size W (.slice none 0 0) ov [] qs) := fun W ov h1 k1 => by
      refine ⟨k1.low (by omega), h1.low (by omega), fun j hj hj2 => ?_, fun p hp q hq h0 h3 e => ?_⟩
      · have := (hfoot.own.lt j hj).2
        have := (h1.own.lt j hj2).1
        omega
      · have := (hfoot.ok p hp).lt h0
        have := h1.lo q hq h3
        omega
    obtain ⟨va, vc, rfl⟩ := own_is hlq.own
    obtain ⟨t0, t1, t2, t3⟩ := (unhide HB5).facts4
    obtain ⟨s0, s1, -⟩ := ((unhide HB5).put1 (u := .slice va qs.length vc)).facts4
    obtain ⟨u0, u1, u2, u3⟩ := ((unhide HR5).other (b' := w2.heap.size) (o := 1) (u := .slice va qs.length vc) (by omega)).facts4
    clear hlq hqs hb5 hfoot
    go_wp2_with fail
    obtain ⟨e0, e1, -⟩ := ((((unhide HR5).other (b' := w2.heap.size) (o := 1) (u := .slice va qs.length vc) (by omega)).put0 (u := .slice none 0 0)).put1 (u := .slice va qs.length vc)).facts4
    have hP : Below w.heap.size w5 (((w5.setCell ⟨w2.heap.size, 1, none⟩ (.slice va qs.length vc)).setCell ⟨w.heap.size, 0, none⟩ (.slice none 0 0)).setCell ⟨w.heap.size, 1, none⟩ (.slice va qs.length vc)) := bput2 (bput (Below.refl _ _) (by omega) _) (Nat.le_refl _) _ _
    have hsd := (unhide HFIN _ _ ((((unhide HLQ).putlo (B := w2.heap.size) (o := 1) (u := .slice va qs.length vc) (by omega)).putlo (B := w.heap.size) (o := 0) (u := .slice none 0 0) (by omega)).putlo (B := w.heap.size) (o := 1) (u := .slice va qs.length vc) (by omega)) ((((unhide HL5).putlo (by omega)).putlo (by omega)).putlo (by omega))).d
    rw [unhide HQS] at hsd
    skip
    exact bodyPost_ret (v := .tuple #[.agg #[.slice none 0 0, .slice va qs.length vc], .int .i64 970, .int .i64 40]) (by simp [results, Tryz.results11, go_sem, e0, e1]) rfl ⟨⟨_, rfl, hsd⟩, (unhide HC5).keep hP hD, hM5.trans (Below.mv hP D)⟩


set_option maxHeartbeats 8000000 in
set_option maxRecDepth 100000 in
theorem l5near_1c (E : Nat → List (List Int) → List Int) (hE : EncE E) (N D c : Nat) (xs : List Int) (w : World) (h : CdAt N D w xs) (hx : Cod xs) (hD : D < w.heap.size) (hk : xs.headD 0 % 2 = 1) (hc : xs.tail.headD 0 * 3 = (c : Int)) (hc1 : 0 < c) (hc2 : c < 30) :
    Calls Tryz.prog 11 #[.pointer (some ⟨D, 0, none⟩)] w (NrOut w.heap.size N D w xs.tail.tail ([E 0 ((mny 30 19960).take c)]) ((mny 30 19960).drop c) 30 19960) := by
  obtain ⟨i0, hi, hz0, hz1, hz2⟩ := info_parts Tryz.zinByteS
  have HEE0 := hide hE
  have HX := hide hx
  have hh := hx.head
  have hh2 := hx.tail.head
  obtain ⟨y, hy⟩ : ∃ y, xs.headD 0 = y := ⟨_, rfl⟩
  obtain ⟨z, hz⟩ : ∃ z, xs.tail.headD 0 = z := ⟨_, rfl⟩
  rw [hy] at hk hh
  rw [hz] at hc hh2
  have HY := hide hy
  have HZ := hide hz
  have hcw : IntKind.i64.wrap (z * 3) = (c : Int) := by rw [hc]; exact k64i (by omega) (by omega)
  have hcl : c ≤ 765 := by omega
  have hc3 : (0 : Int) < (c : Int) := by omega
  have hc4 : (c : Int) < 30 := by omega
  have hb0 := below1 w (.cells #[.slice none 0 0, .slice none 0 0] 25)
  have RR := Row2.new w 25 (.slice none 0 0) (.slice none 0 0)
  have hzV : (w.alloc (.cells #[.slice none 0 0, .slice none 0 0] 25)).heap.size = w.heap.size + 1 := sz_alloc _ _
  have H := hide (h.keep hb0 hD)
  obtain ⟨Y, hYY⟩ : ∃ Y, mny 30 19960 = Y := ⟨_, rfl⟩
  have hYl : Y.length = 30 := by rw [← hYY]; exact mny_len _ _
  have hYt : tot Y = 19960 := by rw [← hYY]; exact mny_tot _ _ (by omega)
  have hYb : ∀ x ∈ Y, Bytes x := by rw [← hYY]; exact fun x hx => bytes_of_mem (mny_byte _ _ x hx)
  have HFIT := hide (mny_fits 30 19960 c (by omega) (by omega) (by omega) (by omega) (by omega))
  rw [hYY] at HFIT
  rw [hYY]
  obtain ⟨X, hXX⟩ : ∃ X, Y.take c = X := ⟨_, rfl⟩
  obtain ⟨Zd, hZd⟩ : ∃ Zd, Y.drop c = Zd := ⟨_, rfl⟩
  have HXB : Hid (∀ x ∈ X, Bytes x) := fun x hx => hYb x (List.mem_of_mem_take (by rw [hXX]; exact hx))
  have hXt : tot X ≤ 20000 := by have := tot_take Y c; rw [hXX] at this; omega
  have hXl : X.length ≤ 1000 := by rw [← hXX, List.length_take]; omega
  have hXd : tot Zd ≤ 20000 := by have := tot_drop Y c; rw [hZd] at this; omega
  have hXe : Zd.length ≤ 1000 := by rw [← hZd, List.length_drop, hYl]; omega
  rw [hXX] at HFIT
  rw [hXX, hZd]
  have HXX := hide hXX
  have HZD := hide hZd
  clear hXX hZd
  have HYY := hide hYY
  have HYL := hide hYl
  have HYT := hide hYt
  have HYB := hide hYb
  clear hy hz hx h hE hYY hYl hYt hYb
  go_enter Tryz.func11, Tryz.ntmps11
  go_wp2_with fail
  generalize w.alloc (.cells #[.slice none 0 0, .slice none 0 0] 25) = V at *
  have hVz : w.heap.size + 1 ≤ V.heap.size := by omega
  clear hzV
  refine (next_any N D xs V (unhide H) (unhide HX)).mono ?_
  rintro e w1 ⟨he, hc1', ho1⟩
  rw [unhide HY] at he
  subst he
  have hM1 : Mv V.heap.size D V w1 := ho1.mv _
  have hz1' : V.heap.size ≤ w1.heap.size := hM1.size
  have HC1 := hide hc1'
  clear ho1 hc1'
  go_wp2_with fail
  refine (l4many_any 30 19960 w1 (by omega) (by omega) (by omega)).mono ?_
  rintro e w2 ⟨⟨lv, rfl, ps, hps, hll⟩, hb2⟩
  rw [unhide HYY] at hps
  have hz2' := hb2.size
  have HPS := hide hps
  have HLL := hide hll
  have hpl : 30 ≤ ps.length := by have h9 := congrArg List.length hps; rw [List.length_map, unhide HYL] at h9; omega
  have hpl2 : ps.length ≤ 30 := by have h9 := congrArg List.length hps; rw [List.length_map, unhide HYL] at h9; omega
  obtain ⟨g, cap, cur, e9, -, -, hnc, hcm, -⟩ := hll.own.2.resolve_left (fun q => by have := q.2; omega)
  subst e9
  have hM2 : Mv w1.heap.size D w1 w2 := Below.mv hb2 D
  have HC2 := hide ((unhide HC1).keep hb2 (by omega))
  have hb3 := below1 w2 (.cells #[.slice none 0 0, .slice none 0 0] 25)
  have RS := Row2.new w2 25 (.slice none 0 0) (.slice none 0 0)
  have hzV3 : (w2.alloc (.cells #[.slice none 0 0, .slice none 0 0] 25)).heap.size = w2.heap.size + 1 := sz_alloc _ _
  clear hll hps hb2
  go_wp2_with fail
  generalize w2.alloc (.cells #[.slice none 0 0, .slice none 0 0] 25) = V3 at *
  have hVz3 : w2.heap.size + 1 ≤ V3.heap.size := by omega
  clear hzV3
  refine (next_any N D xs.tail V3 ((unhide HC2).keep hb3 (by omega)) (unhide HX).tail).mono ?_
  rintro e w3 ⟨he, hc3', ho3⟩
  rw [unhide HZ] at he
  subst he
  have hM3 : Mv V3.heap.size D V3 w3 := ho3.mv _
  have hz3' : V3.heap.size ≤ w3.heap.size := hM3.size
  have HC3 := hide hc3'
  have HS3 := hide (RS.mv hM3 (by omega) (by omega))
  have HR3 := hide ((((RR.mv hM1 (by omega) (by omega)).mv hM2 (by omega) (by omega)).below hb3 (by omega)).mv hM3 (by omega) (by omega))
  have hMw : Mv w.heap.size D w w3 := (((Below.mv hb0 D).trans (hM1.mono (by omega))).trans ((hM2.mono (by omega)).trans (Below.mv (hb3.mono (by omega)) D))).trans (hM3.mono (by omega))
  have hss := ((LB.footR (unhide HLL)).same (w' := w3) (fun k hk => by unfold Rng at hk; rw [hM3.block k (by omega) (by omega), hb3.block k hk.2])).at (N := w2.heap.size) (fun k hk => hk.2)
  rw [unhide HPS] at hss
  obtain ⟨a9, c9, e9, h9, hc9⟩ := hss
  simp only [Value.slice.injEq] at e9
  obtain ⟨rfl, e8, rfl⟩ := e9
  obtain ⟨b9, off9, e7, hb9, hcell⟩ := hc9 (by rw [unhide HYL]; omega)
  simp only [Option.some.injEq, Addr.mk.injEq, and_true] at e7
  obtain ⟨rfl, rfl⟩ := e7
  have hYc : Y.length ≤ cap ∧ cap ≤ maxLen := h9
  have hcapc : 30 ≤ cap := by rw [unhide HYL] at hYc; exact hYc.1
  have HSS : Hid (SsAt mB 0 w3.heap.size w3 (.slice (some ⟨g, 0, none⟩) c cap) X) := by
    have := SsAt.monoN (N' := w3.heap.size) (SsAt.take (k := c) (by rw [unhide HYL]; omega) h9 hb9 hcell) (by omega)
    rw [unhide HXX] at this
    exact this
  have HSD9 : Hid (SsAt mB 0 w2.heap.size w3 (.slice (some ⟨g, c, none⟩) (ps.length - c) (cap - c)) Zd) := by
    have := SsAt.drop (xss := Y) (k := c) (m := ps.length - c) (cap := cap - c) (by rw [unhide HYL]; omega) ⟨by omega, by omega⟩ hb9 hcell
    rw [Nat.zero_add, unhide HZD] at this
    exact this
  obtain ⟨f0, f1, f2, f3⟩ := (unhide HS3).facts4
  have hcp : (c : Int) ≤ (ps.length : Int) := by omega
  have hcp2 : c ≤ ps.length := by omega
  have hcp3 : c ≤ cap := by omega
  have hcp4 : (c : Int) ≤ (cap : Int) := by omega
  have hcp5 : c < cap := by omega
  have hS : Hid (∀ W' : World, Below w3.heap.size w3 W' → W'.cell? ⟨w2.heap.size, 0, none⟩ = some (.slice none 0 0) ∧ W'.frozen? ⟨w2.heap.size, 0, none⟩ = false) := fun W' hW => by
    have := ((unhide HS3).below hW (by omega)).facts4
    exact ⟨this.1, this.2.2.1⟩
  have hS2 : Hid (∀ W' : World, Below (w2.heap.size + 1) w3 W' → W'.cell? ⟨w2.heap.size, 0, none⟩ = some (.slice none 0 0) ∧ W'.frozen? ⟨w2.heap.size, 0, none⟩ = false) := fun W' hW => by
    have := ((unhide HS3).below hW (by omega)).facts4
    exact ⟨this.1, this.2.2.1⟩
  clear hcell hc9 h9 e8 hYc ho3 hc3'
  go_wp2_with fail
  go_region_law (
    (first
      | (refine step_call_o 25 #[.const (.int .i64 0), .tmp 33] _ rfl #[.int .i64 0, .slice (some ⟨g, 0, none⟩) c cap] rfl (by first | (simp [Act.eval]; done) | (simp [Act.eval, Act.put]; done)) (run_l4build _ _) (l4build_any 0 _ X _ (by exact unhide HSS) (unhide HXB) (by omega) (by omega) (by omega) (by omega)) ?_; rintro e w4 ⟨⟨v4, ks, pss, rfl, hsr, hat⟩, hb4⟩; have hB4 : Below w3.heap.size w3 w4 := ⟨hb4.os, hb4.tape, hb4.output, hb4.size, hb4.block⟩; have hz4 := hB4.size; have HENC : Hid (EncIn 0 X ks pss) := (built_enc (unhide HFIT) hsr (unhide HXB) (by have := segR_len hsr (by omega); omega) (by have := segR_len hsr (by omega); omega)); have HENE : Hid (encL 0 X ks pss = E 0 X) := unhide HEE0 0 X ks pss hsr; have HRD := hide hat.rd; obtain ⟨p1, q1, p2, q2, p3, q3, rfl⟩ := hat.rd.val; obtain ⟨d4, z4⟩ := unhide hS _ hB4; clear hsr hat hb4; refine ⟨_, rfl, ?_⟩)
      | (refine step_call_o 24 #[.tmp 34] _ rfl #[.agg #[.int .i64 0, .slice p1 X.length q1, .slice p2 ks.length q2, .slice p3 pss.length q3]] rfl (by first | (simp [Act.eval]; done) | (simp [Act.eval, Act.put]; done)) (run_l4encode _) (l4encode_any _ 0 X pss ks _ (by exact unhide HRD) (unhide HENC)) ?_; rintro e w6 ⟨⟨v6, rfl, hown6⟩, hb6⟩; rw [unhide HENE] at hown6; have hB6 : Below w4.heap.size w4 w6 := ⟨hb6.os, hb6.tape, hb6.output, hb6.size, hb6.block⟩; have hB36 : Below w3.heap.size w3 w6 := hB4.trans (hB6.mono hz4); have hz6 := hB36.size; have Hown6 : Hid (w6.ownsRow w4.heap.size 5 1 v6 (E 0 X).length ((E 0 X).map mB)) := hown6; have Hpu : Hid (∀ (w' : World) (v' : Value), w'.ownsRow (w2.heap.size + 1) 22 1 v' (([] : List (Cl Int)).length + 1) (([] : List (Cl Int)).map Cl.v ++ [v6]) → (w6.alloc (.cells #[v6] 22)).grownBy w' (Value.slice none 0 0).ownBlock → ∃ p : Cl Int, p.xs = E 0 X ∧ LB (w2.heap.size + 1) w' v' ([] ++ [p]) ∧ Below (w2.heap.size + 1) w4 w') := LB.push (LL.nil (w := w4)) (by omega) hB6 (Below.refl _ w4) (unhide Hown6); obtain ⟨ya, yc, rfl⟩ := own_is hown6; obtain ⟨d6, z6⟩ := unhide hS _ hB36; obtain ⟨d7, z7⟩ := unhide hS _ (hB36.alloc hz6 (.cells #[.slice ya (E 0 X).length yc] 22)); clear hown6 hb6; refine ⟨_, rfl, ?_⟩)
      | (refine step_append_lies _ rfl (.tmp 30) (.tmp 36) 23 rfl (w2.heap.size + 1) 22 i0 (.slice none 0 0) 1 24 Tryz.underlying23 hi hz0 hz1 hz2 rfl (by decide) (.slice none 0 0) 0 [] (by first | (simp [Act.eval]; done) | (simp [Act.eval, Act.put]; done)) (World.ownsRow_nil _ _ _ _) ⟨w6.heap.size, 0, none⟩ 1 1 [.slice ya (E 0 X).length yc] (by first | (simp [Act.eval]; done) | (simp [Act.eval, Act.put]; done)) rfl (by refine Pushd.news (w := w6) (cs := #[.slice ya (E 0 X).length yc]) (t := 22) ?_; exact ⟨rfl, rfl, rfl, rfl⟩) (by intro u hu; simp at hu; subst hu; rfl) (by decide) (by unfold maxLen; omega) (by omega) (by show w2.heap.size + 1 ≤ (w6.alloc _).heap.size; rw [sz_alloc]; omega) (w6.heap.size + 1) (sz_alloc w6 _) (fun gg cap' w7 q1 q2 q3 q4 => ?_); have h7 := hide (unhide Hpu w7 (.slice (some ⟨gg, 0, none⟩) (0 + 1) cap') q1 q2); have hB7 : Below (w2.heap.size + 1) w3 w7 := (by obtain ⟨_, _, _, r⟩ := unhide h7; exact (hB4.mono (by omega)).trans r); obtain ⟨c7, zz7⟩ := unhide hS2 _ hB7; clear q1 q2 q3 q4)))
  all_goals
    obtain ⟨p, r1, r2, r3⟩ := unhide h7
    have HP := hide r1
    have r2' : LB (w2.heap.size + 1) w7 (.slice (some ⟨gg, 0, none⟩) 1 cap') [p] := r2
    have HL7' := hide (r2'.putlo (B := w2.heap.size) (o := 0) (u := .slice (some ⟨gg, 0, none⟩) 1 cap') (Nat.lt_succ_self _))
    have HS7' := hide (((unhide HS3).below hB7 (Nat.lt_succ_self _)).put0 (u := .slice (some ⟨gg, 0, none⟩) 1 cap'))
    have HR7' := hide (((unhide HR3).below hB7 (by omega)).other (b' := w2.heap.size) (o := 0) (u := .slice (some ⟨gg, 0, none⟩) 1 cap') (by omega))
    have hB37 : Below w2.heap.size w3 (w7.setCell ⟨w2.heap.size, 0, none⟩ (.slice (some ⟨gg, 0, none⟩) 1 cap')) := bput (hB7.mono (by omega)) (Nat.le_refl _) _
    obtain ⟨y0, y1, -⟩ := (unhide HS7').facts4
    clear r1 r2 r3 r2' h7 hB7
    go_wp2_with fail
    generalize w7.setCell ⟨w2.heap.size, 0, none⟩ (.slice (some ⟨gg, 0, none⟩) 1 cap') = W7 at *
    have hzW : w3.heap.size ≤ W7.heap.size := hB37.size
    have HL7 : Hid (LB (w2.heap.size + 1) W7 (.slice (some ⟨gg, 0, none⟩) 1 cap') [p]) := HL7'
    have HS7 := HS7'
    have HR7 := HR7'
    have HC7 := hide ((unhide HC3).keep hB37 (by omega))
    have hM7 : Mv w.heap.size D w W7 := hMw.trans (Below.mv (hB37.mono (by omega)) D)
    refine (l4copy_any _ Zd W7 (((unhide HSD9).under hB37 (Nat.le_refl _)).monoN (by omega)) (by omega) (by omega)).mono ?_
    rintro e w5 ⟨ov, rfl, ⟨qs, hqs, hlq⟩, hb5⟩
    have hz5 := hb5.size
    have HLQ := hide hlq
    have HQS := hide hqs
    have HB5 := hide ((unhide HS7).below hb5 (by omega))
    have HR5 := hide ((unhide HR7).below hb5 (by omega))
    have HC5 := hide ((unhide HC7).keep hb5 (by omega))
    have hM5 : Mv w.heap.size D w w5 := hM7.trans (Below.mv (hb5.mono (by omega)) D)
    have HL5 := hide ((unhide HL7).keep hb5 (Nat.le_refl _))
    have hfoot := (unhide HL7)
    have HFIN : Hid (∀ (W : World) (ov : Value), LB W7.heap.size W ov qs → LB (w2.heap.size + 1) W (.slice (some ⟨gg, 0, none⟩) 1 cap') [p] → StL w.heap.size W (.slice (some ⟨gg, 0, none⟩) 1 cap') ov [p] qs) := fun W ov h1 k1 => by
      refine ⟨k1.low (by omega), h1.low (by omega), fun j hj hj2 => ?_, fun p hp q hq h0 h3 e => ?_⟩
      · have := (hfoot.own.lt j hj).2
        have := (h1.own.lt j hj2).1
        omega
      · have := (hfoot.ok p hp).lt h0
        have := h1.lo q hq h3
        omega
    obtain ⟨va, vc, rfl⟩ := own_is hlq.own
    obtain ⟨t0, t1, t2, t3⟩ := (unhide HB5).facts4
    obtain ⟨s0, s1, -⟩ := ((unhide HB5).put1 (u := .slice va qs.length vc)).facts4
    obtain ⟨u0, u1, u2, u3⟩ := ((unhide HR5).other (b' := w2.heap.size) (o := 1) (u := .slice va qs.length vc) (by omega)).facts4
    clear hlq hqs hb5 hfoot
    go_wp2_with fail
    obtain ⟨e0, e1, -⟩ := ((((unhide HR5).other (b' := w2.heap.size) (o := 1) (u := .slice va qs.length vc) (by omega)).put0 (u := .slice (some ⟨gg, 0, none⟩) 1 cap')).put1 (u := .slice va qs.length vc)).facts4
    have hP : Below w.heap.size w5 (((w5.setCell ⟨w2.heap.size, 1, none⟩ (.slice va qs.length vc)).setCell ⟨w.heap.size, 0, none⟩ (.slice (some ⟨gg, 0, none⟩) 1 cap')).setCell ⟨w.heap.size, 1, none⟩ (.slice va qs.length vc)) := bput2 (bput (Below.refl _ _) (by omega) _) (Nat.le_refl _) _ _
    have hsd := (unhide HFIN _ _ ((((unhide HLQ).putlo (B := w2.heap.size) (o := 1) (u := .slice va qs.length vc) (by omega)).putlo (B := w.heap.size) (o := 0) (u := .slice (some ⟨gg, 0, none⟩) 1 cap') (by omega)).putlo (B := w.heap.size) (o := 1) (u := .slice va qs.length vc) (by omega)) ((((unhide HL5).putlo (by omega)).putlo (by omega)).putlo (by omega))).d
    rw [unhide HQS] at hsd
    rw [show [p].map Cl.xs = [E 0 X] by rw [List.map_singleton, unhide HP]] at hsd
    exact bodyPost_ret (v := .tuple #[.agg #[.slice (some ⟨gg, 0, none⟩) 1 cap', .slice va qs.length vc], .int .i64 970, .int .i64 40]) (by simp [results, Tryz.results11, go_sem, e0, e1]) rfl ⟨⟨_, rfl, hsd⟩, (unhide HC5).keep hP hD, hM5.trans (Below.mv hP D)⟩

end Go.Proofs.YthgnefdefjannaaGreat
