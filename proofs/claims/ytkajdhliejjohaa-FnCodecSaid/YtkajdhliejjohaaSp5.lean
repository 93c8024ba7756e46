import Derived.Test.YtkajdhliejjohaaSp4
namespace Go.Proofs.Ytkajdhliejjohaa
open Go.RowKit


set_option maxHeartbeats 8000000 in
set_option maxRecDepth 100000 in
theorem l4spoil_5 (N D lo m1 m2 : Nat) (xs : List Int) (base : Int) (lv kv pv : Value) (ps qs : List (Cl Int)) (ks : List Int) (w : World) (h : CdAt N D w xs) (hx : Cod xs) (hD : D < lo) (hlo : lo ≤ w.heap.size) (hs : SegP lo m1 m2 w lv kv pv ps qs ks) (hb0 : 0 ≤ base) (hb1 : base ≤ 1000) (hk : xs.headD 0 % 10 = 5) (i : Nat) (hn0 : 0 < ks.length) (hkl : ks.length ≤ 1048576) (hi9 : (xs.tail.headD 0).toNat % ks.length = i) :
    Calls Try.prog 15 #[.agg #[.int .i64 base, lv, kv, pv], .pointer (some ⟨D, 0, none⟩)] w (Spoilt N D lo w xs.tail.tail (base) (ps.map Cl.xs) (ks.set i (xs.tail.headD 0)) (qs.map Cl.xs) (fun _ => True)) := by
  obtain ⟨i0, hi, hz0, hz1, hz2⟩ := info_parts Try.zinInt
  have hb01 := And.intro hb0 hb1
  clear hb01
  have HX := hide hx
  have hh := hx.head
  have hh2 := hx.tail.head
  obtain ⟨k, hy⟩ : ∃ y, xs.headD 0 = y := ⟨_, rfl⟩
  obtain ⟨y, hy2⟩ : ∃ y, xs.tail.headD 0 = y := ⟨_, rfl⟩
  rw [hy] at hk hh
  rw [hy2] at hh2
  have hz9 : (xs.tail.headD 0).toNat = y.toNat := by rw [hy2]
  rw [hz9] at hi9
  clear hz9
  have HI9 := hide hi9
  clear hi9
  rw [hy2]
  have HY := hide hy
  have HY2 := hide hy2
  have HS := hide hs
  obtain ⟨la, lc, rfl⟩ := own_is hs.ln.own
  obtain ⟨ka, kc, rfl⟩ := own_is hs.ky
  obtain ⟨pa, pc, rfl⟩ := own_is hs.po.own
  have hb00 := below2 w (.cells #[.int .i64 base, .slice la ps.length lc, .slice ka ks.length kc, .slice pa qs.length pc] 28) (.cells #[.int .i64 0, .slice none 0 0, .slice none 0 0, .slice none 0 0] 28)
  have RA := (Row4.new w 28 (.int .i64 base) (.slice la ps.length lc) (.slice ka ks.length kc) (.slice pa qs.length pc)).alloc (.cells #[.int .i64 0, .slice none 0 0, .slice none 0 0, .slice none 0 0] 28)
  have RB := Row4.new (w.alloc (.cells #[.int .i64 base, .slice la ps.length lc, .slice ka ks.length kc, .slice pa qs.length pc] 28)) 28 (.int .i64 0) (.slice none 0 0) (.slice none 0 0) (.slice none 0 0)
  rw [sz_alloc] at RB
  have hzV : ((w.alloc (.cells #[.int .i64 base, .slice la ps.length lc, .slice ka ks.length kc, .slice pa qs.length pc] 28)).alloc (.cells #[.int .i64 0, .slice none 0 0, .slice none 0 0, .slice none 0 0] 28)).heap.size = w.heap.size + 2 := by simp
  have H := hide (h.keep hb00 (by omega))
  clear hx hy hy2 hs h
  go_enter Try.func15, Try.ntmps15
  go_wp2_with fail
  generalize (w.alloc (.cells #[.int .i64 base, .slice la ps.length lc, .slice ka ks.length kc, .slice pa qs.length pc] 28)).alloc (.cells #[.int .i64 0, .slice none 0 0, .slice none 0 0, .slice none 0 0] 28) = V at *
  have hVz' : w.heap.size + 2 ≤ V.heap.size := by omega
  clear hzV
  refine (next_any N D xs V (unhide H) (unhide HX)).mono ?_
  rintro e w1 ⟨he, hc1, ho1⟩
  rw [unhide HY] at he
  subst he
  have hz1' : V.heap.size ≤ w1.heap.size := Nat.le_of_eq ho1.size.symm
  have RA1 := RA.mv (ho1.mv V.heap.size) (by omega) (by omega)
  have RB1 := RB.mv (ho1.mv V.heap.size) (by omega) (by omega)
  have hM1 : Mv w.heap.size D w w1 := (Below.mv hb00 D).trans (ho1.mv w.heap.size)
  clear RA RB ho1 hb00 H
  go_wp2_with fail
  refine (next_any N D xs.tail w1 hc1 (unhide HX).tail).mono ?_
  rintro e w2 ⟨he, hc2, ho2⟩
  rw [unhide HY2] at he
  subst he
  have hz2' : w1.heap.size ≤ w2.heap.size := Nat.le_of_eq ho2.size.symm
  have hZ2 : w.heap.size + 2 ≤ w2.heap.size := by omega
  have HRA := hide (RA1.mv (ho2.mv w1.heap.size) (by omega) (by omega))
  have HRB := hide (RB1.mv (ho2.mv w1.heap.size) (by omega) (by omega))
  have hM2 := hM1.trans (ho2.mv w.heap.size)
  have HC2 := hide hc2
  have HE2 : Hid (∀ k, lo ≤ k → k < w.heap.size → w2.heap[k]? = w.heap[k]?) := fun k k1 k2 => hM2.block k k2 (by omega)
  have HS2 := hide ((unhide HS).same (w' := w2) (unhide HE2))
  obtain ⟨f0, f1, f2, f3, z0, z1, z2, z3⟩ := (unhide HRA).facts
  obtain ⟨g0, g1, g2, g3, t0, t1, t2, t3⟩ := (unhide HRB).facts
  clear RA1 RB1 hc1 hc2 ho2 hM1 hz1' hz2' hVz'
  have ho1 := (unhide HS).o1
  have ho2 := (unhide HS).o2
  have hi9 := unhide HI9
  have hlt : i < ks.length := by rw [← hi9]; exact Nat.mod_lt _ hn0
  have hd1 : ((ks.length : Int) == 0) = false := by simpa using (by omega : ¬ ks.length = 0)
  have hd2 : ¬ (ks.length : Int) = 0 := by omega
  have hyy : y = ((y.toNat : Nat) : Int) := by omega
  have hq1 : y.tmod (ks.length : Int) = (i : Int) := by rw [Int.tmod_eq_emod_of_nonneg hh2.1, hyy, ← hi9]; rfl
  have hq2 : y % (ks.length : Int) = (i : Int) := by rw [hyy, ← hi9]; rfl
  have hw1 : IntKind.i64.wrap (i : Int) = (i : Int) := k64i (by omega) (by omega)
  have hm2 : (0 : Int) < (ks.length : Int) := by omega
  have hm4 : (i : Int) < (ks.length : Int) := by omega
  clear hi9 hyy
  rcases (unhide HS2).ky.2 with ⟨e9, hz9⟩ | ⟨g, cap, cur, e9, hbg, hgc, hnc, hcm, -⟩
  · omega
  · simp only [Value.slice.injEq] at e9
    obtain ⟨rfl, -, rfl⟩ := e9
    have hgw : g < w.heap.size := ((unhide HS).ky.lt g rfl).2
    have hgm : g < m2 := (unhide HS).kg g rfl
    have hcg : w2.cell? ⟨g, i, none⟩ = some (.int .i64 (ks[i]?.getD 0)) := by
      rw [(unhide HS2).ky.cellAt i (by omega), List.getElem?_map, List.getElem?_eq_getElem hlt]
      rfl
    have hfg : w2.frozen? ⟨g, i, none⟩ = false := (unhide HS2).ky.frozenAt i
    have hset := own_set (u := mI y) (unhide HS2).ky hlt
    rw [← List.map_set] at hset
    have HSET := hide hset
    clear hset hgc
    go_upto_region 14 with fail
    go_region
    all_goals
      obtain ⟨w5, hw5⟩ : ∃ w5, w5 = w2.setCell ⟨g, i, none⟩ (.int .i64 y) := ⟨_, rfl⟩
      have hz5 : w2.heap.size ≤ w5.heap.size := by rw [hw5, sz_put]; exact Nat.le_refl _
      have HE5 : Hid (∀ k, k ≠ g → w5.heap[k]? = w2.heap[k]?) := fun k k1 => by rw [hw5]; exact Below.heap_setCell _ _ _ _ (by exact k1)
      have HKS : Hid (w5.ownsRow m1 3 1 (.slice (some ⟨g, 0, none⟩) ks.length kc) ks.length ((ks.set i y).map mI)) := by rw [hw5]; exact unhide HSET
      have RA5 := hide ((unhide HRA).blk (unhide HE5 w.heap.size (by omega)))
      have RB5 := hide ((unhide HRB).blk (unhide HE5 (w.heap.size + 1) (by omega)))
      have hB5 : Below lo w2 w5 := by rw [hw5]; exact bput (Below.refl _ _) (by omega) _
      have HC5 := hide ((unhide HC2).keep hB5 hD)
      have HM5 := hide ((hM2.mono hlo).trans (Below.mv hB5 D))
      have HSG : Hid (SgS (fun k => k ≠ w.heap.size ∧ k ≠ w.heap.size + 1 ∧ k < w5.heap.size) w5 (.agg #[.int .i64 base, .slice la ps.length lc, .slice (some ⟨g, 0, none⟩) ks.length kc, .slice pa qs.length pc]) base (ps.map Cl.xs) (ks.set i y) (qs.map Cl.xs)) :=
        ⟨_, _, _, rfl, (unhide HS).lines (fun k k1 k2 k3 => ⟨⟨by omega, by omega, by omega⟩, (unhide HE5 k (by omega)).trans (unhide HE2 k (by omega) (by omega))⟩), own_s (unhide HKS) (fun q hq => by have : g = q := Option.some.inj hq; subst this; exact ⟨by omega, by omega, by omega⟩), (unhide HS).posts (fun k k1 k3 => ⟨⟨by omega, by omega, by omega⟩, (unhide HE5 k (by omega)).trans (unhide HE2 k (by omega) (by omega))⟩)⟩
      rw [show (w2.setCell ⟨g, i, none⟩ (.int .i64 y)) = w5 from hw5.symm]
      clear hw5 hB5 hcg hfg
      clear f0 f1 f2 f3 z0 z1 z2 z3 g0 g1 g2 g3 t0 t1 t2 t3
      obtain ⟨s0, s1, s2, s3, -⟩ := (unhide RA5).facts
      obtain ⟨u0, u1, u2, u3, v0, v1, v2, v3⟩ := (unhide RB5).facts
      obtain ⟨x0, x1, x2, x3, y0, y1, y2, y3⟩ := (unhide RA5).facts
      go_wp2_with fail
      obtain ⟨e0, e1, e2, e3, -⟩ := (((((unhide RB5).put0 (u := .int .i64 base)).put1 (u := .slice la ps.length lc)).put2 (u := .slice (some ⟨g, 0, none⟩) ks.length kc)).put3 (u := .slice pa qs.length pc)).facts
      have hBW := bput4 (Below.refl w.heap.size w5) (Nat.le_succ _) (.int .i64 base) (.slice la ps.length lc) (.slice (some ⟨g, 0, none⟩) ks.length kc) (.slice pa qs.length pc)
      have hzW : w5.heap.size ≤ ((((w5.setCell ⟨w.heap.size + 1, 0, none⟩ (.int .i64 base)).setCell ⟨w.heap.size + 1, 1, none⟩ (.slice la ps.length lc)).setCell ⟨w.heap.size + 1, 2, none⟩ (.slice (some ⟨g, 0, none⟩) ks.length kc)).setCell ⟨w.heap.size + 1, 3, none⟩ (.slice pa qs.length pc)).heap.size := hBW.size
      have hEW : ∀ k, k ≠ w.heap.size → k ≠ w.heap.size + 1 → ((((w5.setCell ⟨w.heap.size + 1, 0, none⟩ (.int .i64 base)).setCell ⟨w.heap.size + 1, 1, none⟩ (.slice la ps.length lc)).setCell ⟨w.heap.size + 1, 2, none⟩ (.slice (some ⟨g, 0, none⟩) ks.length kc)).setCell ⟨w.heap.size + 1, 3, none⟩ (.slice pa qs.length pc)).heap[k]? = w5.heap[k]? := fun k k1 k2 => by
        rw [Below.heap_setCell _ _ _ _ (by exact k2), Below.heap_setCell _ _ _ _ (by exact k2), Below.heap_setCell _ _ _ _ (by exact k2), Below.heap_setCell _ _ _ _ (by exact k2)]
      have hsd := ((unhide HSG).same (fun k hk => hEW k hk.1 hk.2.1)).rd (fun k hk => Nat.lt_of_lt_of_le hk.2.2 hzW)
      exact bodyPost_ret (v := .agg #[.int .i64 base, .slice la ps.length lc, .slice (some ⟨g, 0, none⟩) ks.length kc, .slice pa qs.length pc]) (by simp [results, Try.results15, go_sem, e0, e1, e2, e3]) rfl ⟨⟨_, rfl, hsd.below ((Below.refl _ _).drew) (Nat.le_refl _)⟩, (unhide HC5).keep hBW.drew (by omega), (unhide HM5).trans (Below.mv (hBW.drew.mono hlo) D), trivial⟩

set_option maxHeartbeats 8000000 in
set_option maxRecDepth 100000 in
theorem l4spoil_6 (N D lo m1 m2 : Nat) (xs : List Int) (base : Int) (lv kv pv : Value) (ps qs : List (Cl Int)) (ks : List Int) (w : World) (h : CdAt N D w xs) (hx : Cod xs) (hD : D < lo) (hlo : lo ≤ w.heap.size) (hs : SegP lo m1 m2 w lv kv pv ps qs ks) (hb0 : 0 ≤ base) (hb1 : base ≤ 1000) (hk : xs.headD 0 % 10 = 6) (i : Nat) (hn0 : 0 < qs.length) (hql : qs.length ≤ 1048576) (hi9 : (xs.tail.headD 0).toNat % qs.length = i) :
    Calls Try.prog 15 #[.agg #[.int .i64 base, lv, kv, pv], .pointer (some ⟨D, 0, none⟩)] w (Spoilt N D lo w xs.tail.tail (base) (ps.map Cl.xs) (ks) ((qs.map Cl.xs).set i [base + xs.tail.headD 0 % 3]) (fun _ => True)) := by
  obtain ⟨i0, hi, hz0, hz1, hz2⟩ := info_parts Try.zinInt
  have hb01 := And.intro hb0 hb1
  clear hb01
  have HX := hide hx
  have hh := hx.head
  have hh2 := hx.tail.head
  obtain ⟨k, hy⟩ : ∃ y, xs.headD 0 = y := ⟨_, rfl⟩
  obtain ⟨y, hy2⟩ : ∃ y, xs.tail.headD 0 = y := ⟨_, rfl⟩
  rw [hy] at hk hh
  rw [hy2] at hh2
  have hz9 : (xs.tail.headD 0).toNat = y.toNat := by rw [hy2]
  rw [hz9] at hi9
  clear hz9
  have HI9 := hide hi9
  clear hi9
  rw [hy2]
  obtain ⟨x, hx9⟩ : ∃ x, base + y % 3 = x := ⟨_, rfl⟩
  rw [hx9]
  have hxw : IntKind.i64.wrap (base + y % 3) = x := by rw [k64i (by omega) (by omega)]; exact hx9
  have hxx : 0 ≤ x ∧ x ≤ 1002 := by omega
  have HY := hide hy
  have HY2 := hide hy2
  have HS := hide hs
  obtain ⟨la, lc, rfl⟩ := own_is hs.ln.own
  obtain ⟨ka, kc, rfl⟩ := own_is hs.ky
  obtain ⟨pa, pc, rfl⟩ := own_is hs.po.own
  have hb00 := below2 w (.cells #[.int .i64 base, .slice la ps.length lc, .slice ka ks.length kc, .slice pa qs.length pc] 28) (.cells #[.int .i64 0, .slice none 0 0, .slice none 0 0, .slice none 0 0] 28)
  have RA := (Row4.new w 28 (.int .i64 base) (.slice la ps.length lc) (.slice ka ks.length kc) (.slice pa qs.length pc)).alloc (.cells #[.int .i64 0, .slice none 0 0, .slice none 0 0, .slice none 0 0] 28)
  have RB := Row4.new (w.alloc (.cells #[.int .i64 base, .slice la ps.length lc, .slice ka ks.length kc, .slice pa qs.length pc] 28)) 28 (.int .i64 0) (.slice none 0 0) (.slice none 0 0) (.slice none 0 0)
  rw [sz_alloc] at RB
  have hzV : ((w.alloc (.cells #[.int .i64 base, .slice la ps.length lc, .slice ka ks.length kc, .slice pa qs.length pc] 28)).alloc (.cells #[.int .i64 0, .slice none 0 0, .slice none 0 0, .slice none 0 0] 28)).heap.size = w.heap.size + 2 := by simp
  have H := hide (h.keep hb00 (by omega))
  clear hx hy hy2 hs h
  go_enter Try.func15, Try.ntmps15
  go_wp2_with fail
  generalize (w.alloc (.cells #[.int .i64 base, .slice la ps.length lc, .slice ka ks.length kc, .slice pa qs.length pc] 28)).alloc (.cells #[.int .i64 0, .slice none 0 0, .slice none 0 0, .slice none 0 0] 28) = V at *
  have hVz' : w.heap.size + 2 ≤ V.heap.size := by omega
  clear hzV
  refine (next_any N D xs V (unhide H) (unhide HX)).mono ?_
  rintro e w1 ⟨he, hc1, ho1⟩
  rw [unhide HY] at he
  subst he
  have hz1' : V.heap.size ≤ w1.heap.size := Nat.le_of_eq ho1.size.symm
  have RA1 := RA.mv (ho1.mv V.heap.size) (by omega) (by omega)
  have RB1 := RB.mv (ho1.mv V.heap.size) (by omega) (by omega)
  have hM1 : Mv w.heap.size D w w1 := (Below.mv hb00 D).trans (ho1.mv w.heap.size)
  clear RA RB ho1 hb00 H
  go_wp2_with fail
  refine (next_any N D xs.tail w1 hc1 (unhide HX).tail).mono ?_
  rintro e w2 ⟨he, hc2, ho2⟩
  rw [unhide HY2] at he
  subst he
  have hz2' : w1.heap.size ≤ w2.heap.size := Nat.le_of_eq ho2.size.symm
  have hZ2 : w.heap.size + 2 ≤ w2.heap.size := by omega
  have HRA := hide (RA1.mv (ho2.mv w1.heap.size) (by omega) (by omega))
  have HRB := hide (RB1.mv (ho2.mv w1.heap.size) (by omega) (by omega))
  have hM2 := hM1.trans (ho2.mv w.heap.size)
  have HC2 := hide hc2
  have HE2 : Hid (∀ k, lo ≤ k → k < w.heap.size → w2.heap[k]? = w.heap[k]?) := fun k k1 k2 => hM2.block k k2 (by omega)
  have HS2 := hide ((unhide HS).same (w' := w2) (unhide HE2))
  obtain ⟨f0, f1, f2, f3, z0, z1, z2, z3⟩ := (unhide HRA).facts
  obtain ⟨g0, g1, g2, g3, t0, t1, t2, t3⟩ := (unhide HRB).facts
  clear RA1 RB1 hc1 hc2 ho2 hM1 hz1' hz2' hVz'
  have ho1 := (unhide HS).o1
  have ho2 := (unhide HS).o2
  have hi9 := unhide HI9
  have hlt : i < qs.length := by rw [← hi9]; exact Nat.mod_lt _ hn0
  have hd1 : ((qs.length : Int) == 0) = false := by simpa using (by omega : ¬ qs.length = 0)
  have hd2 : ¬ (qs.length : Int) = 0 := by omega
  have hyy : y = ((y.toNat : Nat) : Int) := by omega
  have hq1 : y.tmod (qs.length : Int) = (i : Int) := by rw [Int.tmod_eq_emod_of_nonneg hh2.1, hyy, ← hi9]; rfl
  have hq2 : y % (qs.length : Int) = (i : Int) := by rw [hyy, ← hi9]; rfl
  have hw1 : IntKind.i64.wrap (i : Int) = (i : Int) := k64i (by omega) (by omega)
  have hm2 : (0 : Int) < (qs.length : Int) := by omega
  have hm4 : (i : Int) < (qs.length : Int) := by omega
  clear hi9 hyy
  rcases (unhide HS2).po.own.2 with ⟨e9, hz9⟩ | ⟨g, cap, cur, e9, hbg, hgc, hnc, hcm, -⟩
  · omega
  · simp only [Value.slice.injEq] at e9
    obtain ⟨rfl, -, rfl⟩ := e9
    have hgw : m2 ≤ g ∧ g < w.heap.size := (unhide HS).po.own.lt g rfl
    obtain ⟨q, hq⟩ : ∃ q, qs[i]? = some q := ⟨qs[i], by simp [hlt]⟩
    have hqm : q ∈ qs := List.mem_of_getElem? hq
    have hcg : w2.cell? ⟨g, i, none⟩ = some q.v := by
      rw [(unhide HS2).po.own.cellAt i (by omega), List.getElem?_map, hq]
      rfl
    have hfg : w2.frozen? ⟨g, i, none⟩ = false := (unhide HS2).po.own.frozenAt i
    have hA := below1 w2 (.cells #[.int .i64 x] 3)
    have hcg2 : (w2.alloc (.cells #[.int .i64 x] 3)).cell? ⟨g, i, none⟩ = some q.v := by rw [hA.cell (p := ⟨g, i, none⟩) (by show g < w2.heap.size; omega)]; exact hcg
    have hfg2 : (w2.alloc (.cells #[.int .i64 x] 3)).frozen? ⟨g, i, none⟩ = false := by rw [World.frozen?_of_block (w := w2) (a := ⟨g, i, none⟩) (hA.block g (by omega))]; exact hfg
    obtain ⟨p0, p1, p2, p3, -⟩ := ((unhide HRA).alloc (.cells #[.int .i64 x] 3)).facts
    have hset := own_set (u := .slice (some ⟨w2.heap.size, 0, none⟩) 1 1) ((unhide HS2).po.own.alloc (.cells #[.int .i64 x] 3)) hlt
    have HSET := hide hset
    have hlit : (w2.alloc (.cells #[.int .i64 x] 3)).heap[w2.heap.size]? = some (.cells #[.int .i64 x] 3 (0, 0)) := by
      show (w2.heap.push _)[w2.heap.size]? = _
      simp
    have HLIT := hide hlit
    have hzA : (w2.alloc (.cells #[.int .i64 x] 3)).heap.size = w2.heap.size + 1 := sz_alloc _ _
    have HA := hide hA
    clear hset hgc hlit hA
    go_upto_region 16 with fail
    go_region
    all_goals
      obtain ⟨w5, hw5⟩ : ∃ w5, w5 = (w2.alloc (.cells #[.int .i64 x] 3)).setCell ⟨g, i, none⟩ (.slice (some ⟨w2.heap.size, 0, none⟩) 1 1) := ⟨_, rfl⟩
      have hz5 : w2.heap.size + 1 ≤ w5.heap.size := by rw [hw5, sz_put, hzA]; exact Nat.le_refl _
      have HE5 : Hid (∀ k, k ≠ g → k < w2.heap.size → w5.heap[k]? = w2.heap[k]?) := fun k k1 k2 => by rw [hw5, Below.heap_setCell _ _ _ _ (by exact k1)]; exact (unhide HA).block k k2
      have hlit5 : w5.heap[w2.heap.size]? = some (.cells #[.int .i64 x] 3 (0, 0)) := by rw [hw5, Below.heap_setCell _ _ _ _ (by show w2.heap.size ≠ g; omega)]; exact unhide HLIT
      have HKS : w5.ownsRow m2 25 1 (.slice (some ⟨g, 0, none⟩) qs.length pc) qs.length ((qs.map Cl.v).set i (.slice (some ⟨w2.heap.size, 0, none⟩) 1 1)) := by rw [hw5]; exact unhide HSET
      have RA5 := hide ((unhide HRA).blk (unhide HE5 w.heap.size (by omega) (by omega)))
      have RB5 := hide ((unhide HRB).blk (unhide HE5 (w.heap.size + 1) (by omega) (by omega)))
      have hB5 : Below lo w2 w5 := by rw [hw5]; exact bput ((unhide HA).mono (by omega)) (by omega) _
      have HC5 := hide ((unhide HC2).keep hB5 hD)
      have HM5 := hide ((hM2.mono hlo).trans (Below.mv hB5 D))
      have hnr : ∀ q ∈ qs, 0 < q.xs.length → (fun k => k ≠ w.heap.size ∧ k ≠ w.heap.size + 1 ∧ k < w5.heap.size) q.b ∧ w5.heap[q.b]? = w.heap[q.b]? := fun q hq h0 => by
        have q1 := (unhide HS).po.lo q hq h0
        have q2 := ((unhide HS).po.ok q hq).lt h0
        exact ⟨⟨by omega, by omega, by omega⟩, (unhide HE5 q.b (fun e => (unhide HS).po.not_row (by decide) ((unhide HS).po.ok q hq) rfl h0 (by rw [e]; rfl)) (by omega)).trans (unhide HE2 q.b (by omega) (by omega))⟩
      have hps5 : SsS mI (fun k => k ≠ w.heap.size ∧ k ≠ w.heap.size + 1 ∧ k < w5.heap.size) w5 (.slice (some ⟨g, 0, none⟩) qs.length pc) ((qs.map Cl.xs).set i [x]) := row_set_s HKS (fun q hq => by have : g = q := Option.some.inj hq; subst this; exact ⟨by omega, by omega, by omega⟩) (by simp) (by simpa using hlt) (fun j s _ hs => ll_vs (unhide HS).po hnr j s hs) (lit_s hlit5 ⟨by omega, by omega, by omega⟩ rfl (by unfold maxLen; omega) rfl)
      have HSG : Hid (SgS (fun k => k ≠ w.heap.size ∧ k ≠ w.heap.size + 1 ∧ k < w5.heap.size) w5 (.agg #[.int .i64 base, .slice la ps.length lc, .slice ka ks.length kc, .slice (some ⟨g, 0, none⟩) qs.length pc]) base (ps.map Cl.xs) ks ((qs.map Cl.xs).set i [x])) :=
        ⟨_, _, _, rfl, (unhide HS).lines (fun k k1 k2 k3 => ⟨⟨by omega, by omega, by omega⟩, (unhide HE5 k (by omega) (by omega)).trans (unhide HE2 k (by omega) (by omega))⟩), (unhide HS).keys (fun k k1 k2 k3 => ⟨⟨by omega, by omega, by omega⟩, (unhide HE5 k (by omega) (by omega)).trans (unhide HE2 k (by omega) (by omega))⟩), hps5⟩
      rw [show ((w2.alloc (.cells #[.int .i64 x] 3)).setCell ⟨g, i, none⟩ (.slice (some ⟨w2.heap.size, 0, none⟩) 1 1)) = w5 from hw5.symm]
      clear hw5 hB5 hcg hfg hcg2 hfg2 HKS hnr hps5 hlit5 p0 p1 p2 p3 hzA
      clear f0 f1 f2 f3 z0 z1 z2 z3 g0 g1 g2 g3 t0 t1 t2 t3
      obtain ⟨s0, s1, s2, s3, -⟩ := (unhide RA5).facts
      obtain ⟨u0, u1, u2, u3, v0, v1, v2, v3⟩ := (unhide RB5).facts
      obtain ⟨x0, x1, x2, x3, y0, y1, y2, y3⟩ := (unhide RA5).facts
      go_wp2_with fail
      obtain ⟨e0, e1, e2, e3, -⟩ := (((((unhide RB5).put0 (u := .int .i64 base)).put1 (u := .slice la ps.length lc)).put2 (u := .slice ka ks.length kc)).put3 (u := .slice (some ⟨g, 0, none⟩) qs.length pc)).facts
      have hBW := bput4 (Below.refl w.heap.size w5) (Nat.le_succ _) (.int .i64 base) (.slice la ps.length lc) (.slice ka ks.length kc) (.slice (some ⟨g, 0, none⟩) qs.length pc)
      have hzW : w5.heap.size ≤ ((((w5.setCell ⟨w.heap.size + 1, 0, none⟩ (.int .i64 base)).setCell ⟨w.heap.size + 1, 1, none⟩ (.slice la ps.length lc)).setCell ⟨w.heap.size + 1, 2, none⟩ (.slice ka ks.length kc)).setCell ⟨w.heap.size + 1, 3, none⟩ (.slice (some ⟨g, 0, none⟩) qs.length pc)).heap.size := hBW.size
      have hEW : ∀ k, k ≠ w.heap.size → k ≠ w.heap.size + 1 → ((((w5.setCell ⟨w.heap.size + 1, 0, none⟩ (.int .i64 base)).setCell ⟨w.heap.size + 1, 1, none⟩ (.slice la ps.length lc)).setCell ⟨w.heap.size + 1, 2, none⟩ (.slice ka ks.length kc)).setCell ⟨w.heap.size + 1, 3, none⟩ (.slice (some ⟨g, 0, none⟩) qs.length pc)).heap[k]? = w5.heap[k]? := fun k k1 k2 => by
        rw [Below.heap_setCell _ _ _ _ (by exact k2), Below.heap_setCell _ _ _ _ (by exact k2), Below.heap_setCell _ _ _ _ (by exact k2), Below.heap_setCell _ _ _ _ (by exact k2)]
      have hsd := ((unhide HSG).same (fun k hk => hEW k hk.1 hk.2.1)).rd (fun k hk => Nat.lt_of_lt_of_le hk.2.2 hzW)
      exact bodyPost_ret (v := .agg #[.int .i64 base, .slice la ps.length lc, .slice ka ks.length kc, .slice (some ⟨g, 0, none⟩) qs.length pc]) (by simp [results, Try.results15, go_sem, e0, e1, e2, e3]) rfl ⟨⟨_, rfl, hsd.below ((Below.refl _ _).drew) (Nat.le_refl _)⟩, (unhide HC5).keep hBW.drew (by omega), (unhide HM5).trans (Below.mv (hBW.drew.mono hlo) D), trivial⟩

end Go.Proofs.Ytkajdhliejjohaa
