import Derived.Test.YtkajdhliejjohaaSp3
namespace Go.Proofs.Ytkajdhliejjohaa
open Go.RowKit

set_option maxHeartbeats 8000000 in
set_option maxRecDepth 100000 in
theorem l4spoil_1k (N D lo m1 m2 : Nat) (xs : List Int) (base : Int) (lv kv pv : Value) (ps qs : List (Cl Int)) (ks : List Int) (w : World) (h : CdAt N D w xs) (hx : Cod xs) (hD : D < lo) (hlo : lo ≤ w.heap.size) (hs : SegP lo m1 m2 w lv kv pv ps qs ks) (hb0 : 0 ≤ base) (hb1 : base ≤ 1000) (hk : xs.headD 0 % 10 = 1) :
    Calls Try.prog 15 #[.agg #[.int .i64 base, lv, kv, pv], .pointer (some ⟨D, 0, none⟩)] w (Spoilt N D lo w xs.tail.tail (-1) (ps.map Cl.xs) (ks) (qs.map Cl.xs) (Kept D w (.agg #[.int .i64 base, lv, kv, pv]) base (ps.map Cl.xs) ks (qs.map Cl.xs))) := by
  obtain ⟨i0, hi, hz0, hz1, hz2⟩ := info_parts Try.zinInt
  have hb01 := And.intro hb0 hb1
  clear hb01
  have HX := hide hx
  have hh := hx.head
  have hh2 := hx.tail.head
  obtain ⟨k, hy⟩ : ∃ y, xs.headD 0 = y := ⟨_, rfl⟩
  obtain ⟨y, hy2⟩ : ∃ y, xs.tail.headD 0 = y := ⟨_, rfl⟩
  rw [hy] at hk hh
  rw [hy2] at hh2
  have HY := hide hy
  have HY2 := hide hy2
  have HS := hide hs
  obtain ⟨la, lc, rfl⟩ := own_is hs.ln.own
  obtain ⟨ka, kc, rfl⟩ := own_is hs.ky
  obtain ⟨pa, pc, rfl⟩ := own_is hs.po.own
  have hb00 := below2 w (.cells #[.int .i64 base, .slice la ps.length lc, .slice ka ks.length kc, .slice pa qs.length pc] 28) (.cells #[.int .i64 0, .slice none 0 0, .slice none 0 0, .slice none 0 0] 28)
  have RA := (Row4.new w 28 (.int .i64 base) (.slice la ps.length lc) (.slice ka ks.length kc) (.slice pa qs.length pc)).alloc (.cells #[.int .i64 0, .slice none 0 0, .slice none 0 0, .slice none 0 0] 28)
  have RB := Row4.new (w.alloc (.cells #[.int .i64 base, .slice la ps.length lc, .slice ka ks.length kc, .slice pa qs.length pc] 28)) 28 (.int .i64 0) (.slice none 0 0) (.slice none 0 0) (.slice none 0 0)
  rw [sz_alloc] at RB
  have hzV : ((w.alloc (.cells #[.int .i64 base, .slice la ps.length lc, .slice ka ks.length kc, .slice pa qs.length pc] 28)).alloc (.cells #[.int .i64 0, .slice none 0 0, .slice none 0 0, .slice none 0 0] 28)).heap.size = w.heap.size + 2 := by simp
  have H := hide (h.keep hb00 (by omega))
  clear hx hy hy2 hs h
  go_enter Try.func15, Try.ntmps15
  go_wp2_with fail
  generalize (w.alloc (.cells #[.int .i64 base, .slice la ps.length lc, .slice ka ks.length kc, .slice pa qs.length pc] 28)).alloc (.cells #[.int .i64 0, .slice none 0 0, .slice none 0 0, .slice none 0 0] 28) = V at *
  have hVz' : w.heap.size + 2 ≤ V.heap.size := by omega
  clear hzV
  refine (next_any N D xs V (unhide H) (unhide HX)).mono ?_
  rintro e w1 ⟨he, hc1, ho1⟩
  rw [unhide HY] at he
  subst he
  have hz1' : V.heap.size ≤ w1.heap.size := Nat.le_of_eq ho1.size.symm
  have RA1 := RA.mv (ho1.mv V.heap.size) (by omega) (by omega)
  have RB1 := RB.mv (ho1.mv V.heap.size) (by omega) (by omega)
  have hM1 : Mv w.heap.size D w w1 := (Below.mv hb00 D).trans (ho1.mv w.heap.size)
  clear RA RB ho1 hb00 H
  go_wp2_with fail
  refine (next_any N D xs.tail w1 hc1 (unhide HX).tail).mono ?_
  rintro e w2 ⟨he, hc2, ho2⟩
  rw [unhide HY2] at he
  subst he
  have hz2' : w1.heap.size ≤ w2.heap.size := Nat.le_of_eq ho2.size.symm
  have hZ2 : w.heap.size + 2 ≤ w2.heap.size := by omega
  have HRA := hide (RA1.mv (ho2.mv w1.heap.size) (by omega) (by omega))
  have HRB := hide (RB1.mv (ho2.mv w1.heap.size) (by omega) (by omega))
  have hM2 := hM1.trans (ho2.mv w.heap.size)
  have HC2 := hide hc2
  have HE2 : Hid (∀ k, lo ≤ k → k < w.heap.size → w2.heap[k]? = w.heap[k]?) := fun k k1 k2 => hM2.block k k2 (by omega)
  have HS2 := hide ((unhide HS).same (w' := w2) (unhide HE2))
  obtain ⟨f0, f1, f2, f3, z0, z1, z2, z3⟩ := (unhide HRA).facts
  obtain ⟨g0, g1, g2, g3, t0, t1, t2, t3⟩ := (unhide HRB).facts
  clear RA1 RB1 hc1 hc2 ho2 hM1 hz1' hz2' hVz'
  have ho1 := (unhide HS).o1
  have ho2 := (unhide HS).o2
  obtain ⟨w5, hw5⟩ : ∃ w5, w5 = w2 := ⟨_, rfl⟩
  have hin : SsS mB (fun k => k ≠ w.heap.size ∧ k ≠ w.heap.size + 1 ∧ k < w5.heap.size) w5 (.slice la ps.length lc) (ps.map Cl.xs) ∧ SlS mI (fun k => k ≠ w.heap.size ∧ k ≠ w.heap.size + 1 ∧ k < w5.heap.size) w5 (.slice ka ks.length kc) ks ∧ SsS mI (fun k => k ≠ w.heap.size ∧ k ≠ w.heap.size + 1 ∧ k < w5.heap.size) w5 (.slice pa qs.length pc) (qs.map Cl.xs) := by
    rw [hw5]
    exact ⟨(unhide HS).lines (fun k k1 k2 k3 => ⟨⟨by omega, by omega, by omega⟩, unhide HE2 k (by omega) (by omega)⟩), (unhide HS).keys (fun k k1 k2 k3 => ⟨⟨by omega, by omega, by omega⟩, unhide HE2 k (by omega) (by omega)⟩), (unhide HS).posts (fun k k1 k3 => ⟨⟨by omega, by omega, by omega⟩, unhide HE2 k (by omega) (by omega)⟩)⟩
  have HSG : Hid (SgS (fun k => k ≠ w.heap.size ∧ k ≠ w.heap.size + 1 ∧ k < w5.heap.size) w5 (.agg #[.int .i64 (-1), .slice la ps.length lc, .slice ka ks.length kc, .slice pa qs.length pc]) (-1) (ps.map Cl.xs) ks (qs.map Cl.xs)) := ⟨_, _, _, rfl, hin.1, hin.2.1, hin.2.2⟩
  have HOLD : Hid (SgS (fun k => k ≠ w.heap.size ∧ k ≠ w.heap.size + 1 ∧ k < w5.heap.size) w5 (.agg #[.int .i64 base, .slice la ps.length lc, .slice ka ks.length kc, .slice pa qs.length pc]) base (ps.map Cl.xs) ks (qs.map Cl.xs)) := ⟨_, _, _, rfl, hin.1, hin.2.1, hin.2.2⟩
  have HROW : Hid (∀ (b : Nat) (c0 c1 c2 c3 : Value), b ≠ D → Row4 w b 28 c0 c1 c2 c3 → Row4 w5 b 28 c0 c1 c2 c3) := fun b c0 c1 c2 c3 hbD hr => by rw [hw5]; exact World.rowIs.of_block hr (hM2.block b (World.rowIs.lt hr) hbD)
  have hz5 : w.heap.size + 2 ≤ w5.heap.size := by rw [hw5]; exact hZ2
  rw [← hw5] at HRA HRB HC2 hM2 ⊢
  have RA5 := HRA
  have RB5 := HRB
  have HC5 := HC2
  have HM5 := hide (hM2.mono hlo)
  clear f0 f1 f2 f3 z0 z1 z2 z3 g0 g1 g2 g3 t0 t1 t2 t3
  clear hw5 hin
  obtain ⟨s0, s1, s2, s3, -⟩ := ((unhide RA5).put0 (u := .int .i64 (-1))).facts
  obtain ⟨u0, u1, u2, u3, v0, v1, v2, v3⟩ := ((unhide RB5).other (b' := w.heap.size) (o := 0) (u := .int .i64 (-1)) (by omega)).facts
  obtain ⟨x0, x1, x2, x3, y0, y1, y2, y3⟩ := (unhide RA5).facts
  go_wp2_with fail
  obtain ⟨e0, e1, e2, e3, -⟩ := ((((((unhide RB5).other (b' := w.heap.size) (o := 0) (u := .int .i64 (-1)) (by omega)).put0 (u := .int .i64 (-1))).put1 (u := .slice la ps.length lc)).put2 (u := .slice ka ks.length kc)).put3 (u := .slice pa qs.length pc)).facts
  have hBW := bput4 (bput (o := 0) (Below.refl w.heap.size w5) (Nat.le_refl _) (.int .i64 (-1))) (Nat.le_succ _) (.int .i64 (-1)) (.slice la ps.length lc) (.slice ka ks.length kc) (.slice pa qs.length pc)
  have hzW : w5.heap.size ≤ (((((w5.setCell ⟨w.heap.size, 0, none⟩ (.int .i64 (-1))).setCell ⟨w.heap.size + 1, 0, none⟩ (.int .i64 (-1))).setCell ⟨w.heap.size + 1, 1, none⟩ (.slice la ps.length lc)).setCell ⟨w.heap.size + 1, 2, none⟩ (.slice ka ks.length kc)).setCell ⟨w.heap.size + 1, 3, none⟩ (.slice pa qs.length pc)).heap.size := hBW.size
  have hEW : ∀ k, k ≠ w.heap.size → k ≠ w.heap.size + 1 → (((((w5.setCell ⟨w.heap.size, 0, none⟩ (.int .i64 (-1))).setCell ⟨w.heap.size + 1, 0, none⟩ (.int .i64 (-1))).setCell ⟨w.heap.size + 1, 1, none⟩ (.slice la ps.length lc)).setCell ⟨w.heap.size + 1, 2, none⟩ (.slice ka ks.length kc)).setCell ⟨w.heap.size + 1, 3, none⟩ (.slice pa qs.length pc)).heap[k]? = w5.heap[k]? := fun k k1 k2 => by
    rw [Below.heap_setCell _ _ _ _ (by exact k2), Below.heap_setCell _ _ _ _ (by exact k2), Below.heap_setCell _ _ _ _ (by exact k2), Below.heap_setCell _ _ _ _ (by exact k2)]
    exact Below.heap_setCell _ _ _ _ (by exact k1)
  have hsd := ((unhide HSG).same (fun k hk => hEW k hk.1 hk.2.1)).rd (fun k hk => Nat.lt_of_lt_of_le hk.2.2 hzW)
  exact bodyPost_ret (v := .agg #[.int .i64 (-1), .slice la ps.length lc, .slice ka ks.length kc, .slice pa qs.length pc]) (by simp [results, Try.results15, go_sem, e0, e1, e2, e3]) rfl ⟨⟨_, rfl, hsd⟩, (unhide HC5).keep hBW (by omega), (unhide HM5).trans (Below.mv (hBW.mono hlo) D), ⟨((unhide HOLD).same (fun k hk => hEW k hk.1 hk.2.1)).rd (fun k hk => Nat.lt_of_lt_of_le hk.2.2 hzW), fun b c0 c1 c2 c3 hbD hr => World.rowIs.of_block (unhide HROW b c0 c1 c2 c3 hbD hr) (hEW b (by have := World.rowIs.lt hr; omega) (by have := World.rowIs.lt hr; omega))⟩⟩

end Go.Proofs.Ytkajdhliejjohaa
