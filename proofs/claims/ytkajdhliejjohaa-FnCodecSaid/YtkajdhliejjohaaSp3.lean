import Derived.Test.YtkajdhliejjohaaSp2
import Derived.Deep.DeepAppendRoom
namespace Go.Proofs.Ytkajdhliejjohaa
open Go.RowKit

theorem Row4.blk {w w' : World} {b : Nat} {t : TypeId} {c0 c1 c2 c3 : Value} (h : Row4 w b t c0 c1 c2 c3) (e : w'.heap[b]? = w.heap[b]?) : Row4 w' b t c0 c1 c2 c3 := World.rowIs.of_block h e
/-- What stays where it was. -/
def Kept (D : Nat) (w : World) (v : Value) (base : Int) (xss : List (List Int)) (ks : List Int) (pss : List (List Int)) (w' : World) : Prop := SegRd w' v base xss ks pss ∧ ∀ (b : Nat) (c0 c1 c2 c3 : Value), b ≠ D → Row4 w b 28 c0 c1 c2 c3 → Row4 w' b 28 c0 c1 c2 c3

set_option maxHeartbeats 8000000 in
set_option maxRecDepth 100000 in
theorem l4spoil_n4 (N D lo m1 m2 : Nat) (xs : List Int) (base : Int) (lv kv pv : Value) (ps qs : List (Cl Int)) (ks : List Int) (w : World) (h : CdAt N D w xs) (hx : Cod xs) (hD : D < lo) (hlo : lo ≤ w.heap.size) (hs : SegP lo m1 m2 w lv kv pv ps qs ks) (hb0 : 0 ≤ base) (hb1 : base ≤ 1000) (hk : xs.headD 0 % 10 = 4) (hn0 : ks.length = 0 ∧ qs.length = 0) :
    Calls Try.prog 15 #[.agg #[.int .i64 base, lv, kv, pv], .pointer (some ⟨D, 0, none⟩)] w (Spoilt N D lo w xs.tail.tail (base) ([]) (ks) (qs.map Cl.xs) (fun _ => True)) := by
  obtain ⟨i0, hi, hz0, hz1, hz2⟩ := info_parts Try.zinInt
  have hb01 := And.intro hb0 hb1
  clear hb01
  have HX := hide hx
  have hh := hx.head
  have hh2 := hx.tail.head
  obtain ⟨k, hy⟩ : ∃ y, xs.headD 0 = y := ⟨_, rfl⟩
  obtain ⟨y, hy2⟩ : ∃ y, xs.tail.headD 0 = y := ⟨_, rfl⟩
  rw [hy] at hk hh
  rw [hy2] at hh2
  have hl0 : ¬ (0 : Int) < (ks.length : Int) := by omega
  have hl1 : ¬ (0 : Int) < (qs.length : Int) := by omega
  have HN0 := hide hn0
  clear hn0
  have HY := hide hy
  have HY2 := hide hy2
  have HS := hide hs
  obtain ⟨la, lc, rfl⟩ := own_is hs.ln.own
  obtain ⟨ka, kc, rfl⟩ := own_is hs.ky
  obtain ⟨pa, pc, rfl⟩ := own_is hs.po.own
  have hb00 := below2 w (.cells #[.int .i64 base, .slice la ps.length lc, .slice ka ks.length kc, .slice pa qs.length pc] 28) (.cells #[.int .i64 0, .slice none 0 0, .slice none 0 0, .slice none 0 0] 28)
  have RA := (Row4.new w 28 (.int .i64 base) (.slice la ps.length lc) (.slice ka ks.length kc) (.slice pa qs.length pc)).alloc (.cells #[.int .i64 0, .slice none 0 0, .slice none 0 0, .slice none 0 0] 28)
  have RB := Row4.new (w.alloc (.cells #[.int .i64 base, .slice la ps.length lc, .slice ka ks.length kc, .slice pa qs.length pc] 28)) 28 (.int .i64 0) (.slice none 0 0) (.slice none 0 0) (.slice none 0 0)
  rw [sz_alloc] at RB
  have hzV : ((w.alloc (.cells #[.int .i64 base, .slice la ps.length lc, .slice ka ks.length kc, .slice pa qs.length pc] 28)).alloc (.cells #[.int .i64 0, .slice none 0 0, .slice none 0 0, .slice none 0 0] 28)).heap.size = w.heap.size + 2 := by simp
  have H := hide (h.keep hb00 (by omega))
  clear hx hy hy2 hs h
  go_enter Try.func15, Try.ntmps15
  go_wp2_with fail
  generalize (w.alloc (.cells #[.int .i64 base, .slice la ps.length lc, .slice ka ks.length kc, .slice pa qs.length pc] 28)).alloc (.cells #[.int .i64 0, .slice none 0 0, .slice none 0 0, .slice none 0 0] 28) = V at *
  have hVz' : w.heap.size + 2 ≤ V.heap.size := by omega
  clear hzV
  refine (next_any N D xs V (unhide H) (unhide HX)).mono ?_
  rintro e w1 ⟨he, hc1, ho1⟩
  rw [unhide HY] at he
  subst he
  have hz1' : V.heap.size ≤ w1.heap.size := Nat.le_of_eq ho1.size.symm
  have RA1 := RA.mv (ho1.mv V.heap.size) (by omega) (by omega)
  have RB1 := RB.mv (ho1.mv V.heap.size) (by omega) (by omega)
  have hM1 : Mv w.heap.size D w w1 := (Below.mv hb00 D).trans (ho1.mv w.heap.size)
  clear RA RB ho1 hb00 H
  go_wp2_with fail
  refine (next_any N D xs.tail w1 hc1 (unhide HX).tail).mono ?_
  rintro e w2 ⟨he, hc2, ho2⟩
  rw [unhide HY2] at he
  subst he
  have hz2' : w1.heap.size ≤ w2.heap.size := Nat.le_of_eq ho2.size.symm
  have hZ2 : w.heap.size + 2 ≤ w2.heap.size := by omega
  have HRA := hide (RA1.mv (ho2.mv w1.heap.size) (by omega) (by omega))
  have HRB := hide (RB1.mv (ho2.mv w1.heap.size) (by omega) (by omega))
  have hM2 := hM1.trans (ho2.mv w.heap.size)
  have HC2 := hide hc2
  have HE2 : Hid (∀ k, lo ≤ k → k < w.heap.size → w2.heap[k]? = w.heap[k]?) := fun k k1 k2 => hM2.block k k2 (by omega)
  have HS2 := hide ((unhide HS).same (w' := w2) (unhide HE2))
  obtain ⟨f0, f1, f2, f3, z0, z1, z2, z3⟩ := (unhide HRA).facts
  obtain ⟨g0, g1, g2, g3, t0, t1, t2, t3⟩ := (unhide HRB).facts
  clear RA1 RB1 hc1 hc2 ho2 hM1 hz1' hz2' hVz'
  have ho1 := (unhide HS).o1
  have ho2 := (unhide HS).o2
  obtain ⟨w5, hw5⟩ : ∃ w5, w5 = w2 := ⟨_, rfl⟩
  have HSG : Hid (SgS (fun k => k ≠ w.heap.size ∧ k ≠ w.heap.size + 1 ∧ k < w5.heap.size) w5 (.agg #[.int .i64 base, .slice none 0 0, .slice ka ks.length kc, .slice pa qs.length pc]) base [] ks (qs.map Cl.xs)) := by
    rw [hw5]
    exact ⟨_, _, _, rfl, SsS.nil _ _ _ _ _ (Nat.zero_le _), (unhide HS).keys (fun k k1 k2 k3 => ⟨⟨by omega, by omega, by omega⟩, unhide HE2 k (by omega) (by omega)⟩), (unhide HS).posts (fun k k1 k3 => ⟨⟨by omega, by omega, by omega⟩, unhide HE2 k (by omega) (by omega)⟩)⟩
  rw [← hw5] at HRA HRB HC2 hM2 ⊢
  have RA5 := HRA
  have RB5 := HRB
  have HC5 := HC2
  have HM5 := hide (hM2.mono hlo)
  have hz5 : w.heap.size + 2 ≤ w5.heap.size := by rw [hw5]; exact hZ2
  clear f0 f1 f2 f3 z0 z1 z2 z3 g0 g1 g2 g3 t0 t1 t2 t3
  clear hw5
  obtain ⟨s0, s1, s2, s3, -⟩ := ((unhide RA5).put1 (u := .slice none 0 0)).facts
  obtain ⟨u0, u1, u2, u3, v0, v1, v2, v3⟩ := ((unhide RB5).other (b' := w.heap.size) (o := 1) (u := .slice none 0 0) (by omega)).facts
  obtain ⟨x0, x1, x2, x3, y0, y1, y2, y3⟩ := (unhide RA5).facts
  go_wp2_with fail
  obtain ⟨e0, e1, e2, e3, -⟩ := ((((((unhide RB5).other (b' := w.heap.size) (o := 1) (u := .slice none 0 0) (by omega)).put0 (u := .int .i64 base)).put1 (u := .slice none 0 0)).put2 (u := .slice ka ks.length kc)).put3 (u := .slice pa qs.length pc)).facts
  have hBW := bput4 (bput (o := 1) (Below.refl w.heap.size w5) (Nat.le_refl _) (.slice none 0 0)) (Nat.le_succ _) (.int .i64 base) (.slice none 0 0) (.slice ka ks.length kc) (.slice pa qs.length pc)
  have hzW : w5.heap.size ≤ (((((w5.setCell ⟨w.heap.size, 1, none⟩ (.slice none 0 0)).setCell ⟨w.heap.size + 1, 0, none⟩ (.int .i64 base)).setCell ⟨w.heap.size + 1, 1, none⟩ (.slice none 0 0)).setCell ⟨w.heap.size + 1, 2, none⟩ (.slice ka ks.length kc)).setCell ⟨w.heap.size + 1, 3, none⟩ (.slice pa qs.length pc)).heap.size := hBW.size
  have hEW : ∀ k, k ≠ w.heap.size → k ≠ w.heap.size + 1 → (((((w5.setCell ⟨w.heap.size, 1, none⟩ (.slice none 0 0)).setCell ⟨w.heap.size + 1, 0, none⟩ (.int .i64 base)).setCell ⟨w.heap.size + 1, 1, none⟩ (.slice none 0 0)).setCell ⟨w.heap.size + 1, 2, none⟩ (.slice ka ks.length kc)).setCell ⟨w.heap.size + 1, 3, none⟩ (.slice pa qs.length pc)).heap[k]? = w5.heap[k]? := fun k k1 k2 => by
    rw [Below.heap_setCell _ _ _ _ (by exact k2), Below.heap_setCell _ _ _ _ (by exact k2), Below.heap_setCell _ _ _ _ (by exact k2), Below.heap_setCell _ _ _ _ (by exact k2)]
    exact Below.heap_setCell _ _ _ _ (by exact k1)
  have hsd := ((unhide HSG).same (fun k hk => hEW k hk.1 hk.2.1)).rd (fun k hk => Nat.lt_of_lt_of_le hk.2.2 hzW)
  exact bodyPost_ret (v := .agg #[.int .i64 base, .slice none 0 0, .slice ka ks.length kc, .slice pa qs.length pc]) (by simp [results, Try.results15, go_sem, e0, e1, e2, e3]) rfl ⟨⟨_, rfl, hsd⟩, (unhide HC5).keep hBW (by omega), (unhide HM5).trans (Below.mv (hBW.mono hlo) D), trivial⟩

set_option maxHeartbeats 8000000 in
set_option maxRecDepth 100000 in
theorem l4spoil_n5 (N D lo m1 m2 : Nat) (xs : List Int) (base : Int) (lv kv pv : Value) (ps qs : List (Cl Int)) (ks : List Int) (w : World) (h : CdAt N D w xs) (hx : Cod xs) (hD : D < lo) (hlo : lo ≤ w.heap.size) (hs : SegP lo m1 m2 w lv kv pv ps qs ks) (hb0 : 0 ≤ base) (hb1 : base ≤ 1000) (hk : xs.headD 0 % 10 = 5) (hn0 : ks.length = 0 ∧ qs.length = 0) :
    Calls Try.prog 15 #[.agg #[.int .i64 base, lv, kv, pv], .pointer (some ⟨D, 0, none⟩)] w (Spoilt N D lo w xs.tail.tail (base) ([]) (ks) (qs.map Cl.xs) (fun _ => True)) := by
  obtain ⟨i0, hi, hz0, hz1, hz2⟩ := info_parts Try.zinInt
  have hb01 := And.intro hb0 hb1
  clear hb01
  have HX := hide hx
  have hh := hx.head
  have hh2 := hx.tail.head
  obtain ⟨k, hy⟩ : ∃ y, xs.headD 0 = y := ⟨_, rfl⟩
  obtain ⟨y, hy2⟩ : ∃ y, xs.tail.headD 0 = y := ⟨_, rfl⟩
  rw [hy] at hk hh
  rw [hy2] at hh2
  have hl0 : ¬ (0 : Int) < (ks.length : Int) := by omega
  have hl1 : ¬ (0 : Int) < (qs.length : Int) := by omega
  have HN0 := hide hn0
  clear hn0
  have HY := hide hy
  have HY2 := hide hy2
  have HS := hide hs
  obtain ⟨la, lc, rfl⟩ := own_is hs.ln.own
  obtain ⟨ka, kc, rfl⟩ := own_is hs.ky
  obtain ⟨pa, pc, rfl⟩ := own_is hs.po.own
  have hb00 := below2 w (.cells #[.int .i64 base, .slice la ps.length lc, .slice ka ks.length kc, .slice pa qs.length pc] 28) (.cells #[.int .i64 0, .slice none 0 0, .slice none 0 0, .slice none 0 0] 28)
  have RA := (Row4.new w 28 (.int .i64 base) (.slice la ps.length lc) (.slice ka ks.length kc) (.slice pa qs.length pc)).alloc (.cells #[.int .i64 0, .slice none 0 0, .slice none 0 0, .slice none 0 0] 28)
  have RB := Row4.new (w.alloc (.cells #[.int .i64 base, .slice la ps.length lc, .slice ka ks.length kc, .slice pa qs.length pc] 28)) 28 (.int .i64 0) (.slice none 0 0) (.slice none 0 0) (.slice none 0 0)
  rw [sz_alloc] at RB
  have hzV : ((w.alloc (.cells #[.int .i64 base, .slice la ps.length lc, .slice ka ks.length kc, .slice pa qs.length pc] 28)).alloc (.cells #[.int .i64 0, .slice none 0 0, .slice none 0 0, .slice none 0 0] 28)).heap.size = w.heap.size + 2 := by simp
  have H := hide (h.keep hb00 (by omega))
  clear hx hy hy2 hs h
  go_enter Try.func15, Try.ntmps15
  go_wp2_with fail
  generalize (w.alloc (.cells #[.int .i64 base, .slice la ps.length lc, .slice ka ks.length kc, .slice pa qs.length pc] 28)).alloc (.cells #[.int .i64 0, .slice none 0 0, .slice none 0 0, .slice none 0 0] 28) = V at *
  have hVz' : w.heap.size + 2 ≤ V.heap.size := by omega
  clear hzV
  refine (next_any N D xs V (unhide H) (unhide HX)).mono ?_
  rintro e w1 ⟨he, hc1, ho1⟩
  rw [unhide HY] at he
  subst he
  have hz1' : V.heap.size ≤ w1.heap.size := Nat.le_of_eq ho1.size.symm
  have RA1 := RA.mv (ho1.mv V.heap.size) (by omega) (by omega)
  have RB1 := RB.mv (ho1.mv V.heap.size) (by omega) (by omega)
  have hM1 : Mv w.heap.size D w w1 := (Below.mv hb00 D).trans (ho1.mv w.heap.size)
  clear RA RB ho1 hb00 H
  go_wp2_with fail
  refine (next_any N D xs.tail w1 hc1 (unhide HX).tail).mono ?_
  rintro e w2 ⟨he, hc2, ho2⟩
  rw [unhide HY2] at he
  subst he
  have hz2' : w1.heap.size ≤ w2.heap.size := Nat.le_of_eq ho2.size.symm
  have hZ2 : w.heap.size + 2 ≤ w2.heap.size := by omega
  have HRA := hide (RA1.mv (ho2.mv w1.heap.size) (by omega) (by omega))
  have HRB := hide (RB1.mv (ho2.mv w1.heap.size) (by omega) (by omega))
  have hM2 := hM1.trans (ho2.mv w.heap.size)
  have HC2 := hide hc2
  have HE2 : Hid (∀ k, lo ≤ k → k < w.heap.size → w2.heap[k]? = w.heap[k]?) := fun k k1 k2 => hM2.block k k2 (by omega)
  have HS2 := hide ((unhide HS).same (w' := w2) (unhide HE2))
  obtain ⟨f0, f1, f2, f3, z0, z1, z2, z3⟩ := (unhide HRA).facts
  obtain ⟨g0, g1, g2, g3, t0, t1, t2, t3⟩ := (unhide HRB).facts
  clear RA1 RB1 hc1 hc2 ho2 hM1 hz1' hz2' hVz'
  have ho1 := (unhide HS).o1
  have ho2 := (unhide HS).o2
  obtain ⟨w5, hw5⟩ : ∃ w5, w5 = w2 := ⟨_, rfl⟩
  have HSG : Hid (SgS (fun k => k ≠ w.heap.size ∧ k ≠ w.heap.size + 1 ∧ k < w5.heap.size) w5 (.agg #[.int .i64 base, .slice none 0 0, .slice ka ks.length kc, .slice pa qs.length pc]) base [] ks (qs.map Cl.xs)) := by
    rw [hw5]
    exact ⟨_, _, _, rfl, SsS.nil _ _ _ _ _ (Nat.zero_le _), (unhide HS).keys (fun k k1 k2 k3 => ⟨⟨by omega, by omega, by omega⟩, unhide HE2 k (by omega) (by omega)⟩), (unhide HS).posts (fun k k1 k3 => ⟨⟨by omega, by omega, by omega⟩, unhide HE2 k (by omega) (by omega)⟩)⟩
  rw [← hw5] at HRA HRB HC2 hM2 ⊢
  have RA5 := HRA
  have RB5 := HRB
  have HC5 := HC2
  have HM5 := hide (hM2.mono hlo)
  have hz5 : w.heap.size + 2 ≤ w5.heap.size := by rw [hw5]; exact hZ2
  clear f0 f1 f2 f3 z0 z1 z2 z3 g0 g1 g2 g3 t0 t1 t2 t3
  clear hw5
  obtain ⟨s0, s1, s2, s3, -⟩ := ((unhide RA5).put1 (u := .slice none 0 0)).facts
  obtain ⟨u0, u1, u2, u3, v0, v1, v2, v3⟩ := ((unhide RB5).other (b' := w.heap.size) (o := 1) (u := .slice none 0 0) (by omega)).facts
  obtain ⟨x0, x1, x2, x3, y0, y1, y2, y3⟩ := (unhide RA5).facts
  go_wp2_with fail
  obtain ⟨e0, e1, e2, e3, -⟩ := ((((((unhide RB5).other (b' := w.heap.size) (o := 1) (u := .slice none 0 0) (by omega)).put0 (u := .int .i64 base)).put1 (u := .slice none 0 0)).put2 (u := .slice ka ks.length kc)).put3 (u := .slice pa qs.length pc)).facts
  have hBW := bput4 (bput (o := 1) (Below.refl w.heap.size w5) (Nat.le_refl _) (.slice none 0 0)) (Nat.le_succ _) (.int .i64 base) (.slice none 0 0) (.slice ka ks.length kc) (.slice pa qs.length pc)
  have hzW : w5.heap.size ≤ (((((w5.setCell ⟨w.heap.size, 1, none⟩ (.slice none 0 0)).setCell ⟨w.heap.size + 1, 0, none⟩ (.int .i64 base)).setCell ⟨w.heap.size + 1, 1, none⟩ (.slice none 0 0)).setCell ⟨w.heap.size + 1, 2, none⟩ (.slice ka ks.length kc)).setCell ⟨w.heap.size + 1, 3, none⟩ (.slice pa qs.length pc)).heap.size := hBW.size
  have hEW : ∀ k, k ≠ w.heap.size → k ≠ w.heap.size + 1 → (((((w5.setCell ⟨w.heap.size, 1, none⟩ (.slice none 0 0)).setCell ⟨w.heap.size + 1, 0, none⟩ (.int .i64 base)).setCell ⟨w.heap.size + 1, 1, none⟩ (.slice none 0 0)).setCell ⟨w.heap.size + 1, 2, none⟩ (.slice ka ks.length kc)).setCell ⟨w.heap.size + 1, 3, none⟩ (.slice pa qs.length pc)).heap[k]? = w5.heap[k]? := fun k k1 k2 => by
    rw [Below.heap_setCell _ _ _ _ (by exact k2), Below.heap_setCell _ _ _ _ (by exact k2), Below.heap_setCell _ _ _ _ (by exact k2), Below.heap_setCell _ _ _ _ (by exact k2)]
    exact Below.heap_setCell _ _ _ _ (by exact k1)
  have hsd := ((unhide HSG).same (fun k hk => hEW k hk.1 hk.2.1)).rd (fun k hk => Nat.lt_of_lt_of_le hk.2.2 hzW)
  exact bodyPost_ret (v := .agg #[.int .i64 base, .slice none 0 0, .slice ka ks.length kc, .slice pa qs.length pc]) (by simp [results, Try.results15, go_sem, e0, e1, e2, e3]) rfl ⟨⟨_, rfl, hsd⟩, (unhide HC5).keep hBW (by omega), (unhide HM5).trans (Below.mv (hBW.mono hlo) D), trivial⟩

set_option maxHeartbeats 8000000 in
set_option maxRecDepth 100000 in
theorem l4spoil_n6 (N D lo m1 m2 : Nat) (xs : List Int) (base : Int) (lv kv pv : Value) (ps qs : List (Cl Int)) (ks : List Int) (w : World) (h : CdAt N D w xs) (hx : Cod xs) (hD : D < lo) (hlo : lo ≤ w.heap.size) (hs : SegP lo m1 m2 w lv kv pv ps qs ks) (hb0 : 0 ≤ base) (hb1 : base ≤ 1000) (hk : xs.headD 0 % 10 = 6) (hn0 : ks.length = 0 ∧ qs.length = 0) :
    Calls Try.prog 15 #[.agg #[.int .i64 base, lv, kv, pv], .pointer (some ⟨D, 0, none⟩)] w (Spoilt N D lo w xs.tail.tail (base) ([]) (ks) (qs.map Cl.xs) (fun _ => True)) := by
  obtain ⟨i0, hi, hz0, hz1, hz2⟩ := info_parts Try.zinInt
  have hb01 := And.intro hb0 hb1
  clear hb01
  have HX := hide hx
  have hh := hx.head
  have hh2 := hx.tail.head
  obtain ⟨k, hy⟩ : ∃ y, xs.headD 0 = y := ⟨_, rfl⟩
  obtain ⟨y, hy2⟩ : ∃ y, xs.tail.headD 0 = y := ⟨_, rfl⟩
  rw [hy] at hk hh
  rw [hy2] at hh2
  have hl0 : ¬ (0 : Int) < (ks.length : Int) := by omega
  have hl1 : ¬ (0 : Int) < (qs.length : Int) := by omega
  have HN0 := hide hn0
  clear hn0
  have HY := hide hy
  have HY2 := hide hy2
  have HS := hide hs
  obtain ⟨la, lc, rfl⟩ := own_is hs.ln.own
  obtain ⟨ka, kc, rfl⟩ := own_is hs.ky
  obtain ⟨pa, pc, rfl⟩ := own_is hs.po.own
  have hb00 := below2 w (.cells #[.int .i64 base, .slice la ps.length lc, .slice ka ks.length kc, .slice pa qs.length pc] 28) (.cells #[.int .i64 0, .slice none 0 0, .slice none 0 0, .slice none 0 0] 28)
  have RA := (Row4.new w 28 (.int .i64 base) (.slice la ps.length lc) (.slice ka ks.length kc) (.slice pa qs.length pc)).alloc (.cells #[.int .i64 0, .slice none 0 0, .slice none 0 0, .slice none 0 0] 28)
  have RB := Row4.new (w.alloc (.cells #[.int .i64 base, .slice la ps.length lc, .slice ka ks.length kc, .slice pa qs.length pc] 28)) 28 (.int .i64 0) (.slice none 0 0) (.slice none 0 0) (.slice none 0 0)
  rw [sz_alloc] at RB
  have hzV : ((w.alloc (.cells #[.int .i64 base, .slice la ps.length lc, .slice ka ks.length kc, .slice pa qs.length pc] 28)).alloc (.cells #[.int .i64 0, .slice none 0 0, .slice none 0 0, .slice none 0 0] 28)).heap.size = w.heap.size + 2 := by simp
  have H := hide (h.keep hb00 (by omega))
  clear hx hy hy2 hs h
  go_enter Try.func15, Try.ntmps15
  go_wp2_with fail
  generalize (w.alloc (.cells #[.int .i64 base, .slice la ps.length lc, .slice ka ks.length kc, .slice pa qs.length pc] 28)).alloc (.cells #[.int .i64 0, .slice none 0 0, .slice none 0 0, .slice none 0 0] 28) = V at *
  have hVz' : w.heap.size + 2 ≤ V.heap.size := by omega
  clear hzV
  refine (next_any N D xs V (unhide H) (unhide HX)).mono ?_
  rintro e w1 ⟨he, hc1, ho1⟩
  rw [unhide HY] at he
  subst he
  have hz1' : V.heap.size ≤ w1.heap.size := Nat.le_of_eq ho1.size.symm
  have RA1 := RA.mv (ho1.mv V.heap.size) (by omega) (by omega)
  have RB1 := RB.mv (ho1.mv V.heap.size) (by omega) (by omega)
  have hM1 : Mv w.heap.size D w w1 := (Below.mv hb00 D).trans (ho1.mv w.heap.size)
  clear RA RB ho1 hb00 H
  go_wp2_with fail
  refine (next_any N D xs.tail w1 hc1 (unhide HX).tail).mono ?_
  rintro e w2 ⟨he, hc2, ho2⟩
  rw [unhide HY2] at he
  subst he
  have hz2' : w1.heap.size ≤ w2.heap.size := Nat.le_of_eq ho2.size.symm
  have hZ2 : w.heap.size + 2 ≤ w2.heap.size := by omega
  have HRA := hide (RA1.mv (ho2.mv w1.heap.size) (by omega) (by omega))
  have HRB := hide (RB1.mv (ho2.mv w1.heap.size) (by omega) (by omega))
  have hM2 := hM1.trans (ho2.mv w.heap.size)
  have HC2 := hide hc2
  have HE2 : Hid (∀ k, lo ≤ k → k < w.heap.size → w2.heap[k]? = w.heap[k]?) := fun k k1 k2 => hM2.block k k2 (by omega)
  have HS2 := hide ((unhide HS).same (w' := w2) (unhide HE2))
  obtain ⟨f0, f1, f2, f3, z0, z1, z2, z3⟩ := (unhide HRA).facts
  obtain ⟨g0, g1, g2, g3, t0, t1, t2, t3⟩ := (unhide HRB).facts
  clear RA1 RB1 hc1 hc2 ho2 hM1 hz1' hz2' hVz'
  have ho1 := (unhide HS).o1
  have ho2 := (unhide HS).o2
  obtain ⟨w5, hw5⟩ : ∃ w5, w5 = w2 := ⟨_, rfl⟩
  have HSG : Hid (SgS (fun k => k ≠ w.heap.size ∧ k ≠ w.heap.size + 1 ∧ k < w5.heap.size) w5 (.agg #[.int .i64 base, .slice none 0 0, .slice ka ks.length kc, .slice pa qs.length pc]) base [] ks (qs.map Cl.xs)) := by
    rw [hw5]
    exact ⟨_, _, _, rfl, SsS.nil _ _ _ _ _ (Nat.zero_le _), (unhide HS).keys (fun k k1 k2 k3 => ⟨⟨by omega, by omega, by omega⟩, unhide HE2 k (by omega) (by omega)⟩), (unhide HS).posts (fun k k1 k3 => ⟨⟨by omega, by omega, by omega⟩, unhide HE2 k (by omega) (by omega)⟩)⟩
  rw [← hw5] at HRA HRB HC2 hM2 ⊢
  have RA5 := HRA
  have RB5 := HRB
  have HC5 := HC2
  have HM5 := hide (hM2.mono hlo)
  have hz5 : w.heap.size + 2 ≤ w5.heap.size := by rw [hw5]; exact hZ2
  clear f0 f1 f2 f3 z0 z1 z2 z3 g0 g1 g2 g3 t0 t1 t2 t3
  clear hw5
  obtain ⟨s0, s1, s2, s3, -⟩ := ((unhide RA5).put1 (u := .slice none 0 0)).facts
  obtain ⟨u0, u1, u2, u3, v0, v1, v2, v3⟩ := ((unhide RB5).other (b' := w.heap.size) (o := 1) (u := .slice none 0 0) (by omega)).facts
  obtain ⟨x0, x1, x2, x3, y0, y1, y2, y3⟩ := (unhide RA5).facts
  go_wp2_with fail
  obtain ⟨e0, e1, e2, e3, -⟩ := ((((((unhide RB5).other (b' := w.heap.size) (o := 1) (u := .slice none 0 0) (by omega)).put0 (u := .int .i64 base)).put1 (u := .slice none 0 0)).put2 (u := .slice ka ks.length kc)).put3 (u := .slice pa qs.length pc)).facts
  have hBW := bput4 (bput (o := 1) (Below.refl w.heap.size w5) (Nat.le_refl _) (.slice none 0 0)) (Nat.le_succ _) (.int .i64 base) (.slice none 0 0) (.slice ka ks.length kc) (.slice pa qs.length pc)
  have hzW : w5.heap.size ≤ (((((w5.setCell ⟨w.heap.size, 1, none⟩ (.slice none 0 0)).setCell ⟨w.heap.size + 1, 0, none⟩ (.int .i64 base)).setCell ⟨w.heap.size + 1, 1, none⟩ (.slice none 0 0)).setCell ⟨w.heap.size + 1, 2, none⟩ (.slice ka ks.length kc)).setCell ⟨w.heap.size + 1, 3, none⟩ (.slice pa qs.length pc)).heap.size := hBW.size
  have hEW : ∀ k, k ≠ w.heap.size → k ≠ w.heap.size + 1 → (((((w5.setCell ⟨w.heap.size, 1, none⟩ (.slice none 0 0)).setCell ⟨w.heap.size + 1, 0, none⟩ (.int .i64 base)).setCell ⟨w.heap.size + 1, 1, none⟩ (.slice none 0 0)).setCell ⟨w.heap.size + 1, 2, none⟩ (.slice ka ks.length kc)).setCell ⟨w.heap.size + 1, 3, none⟩ (.slice pa qs.length pc)).heap[k]? = w5.heap[k]? := fun k k1 k2 => by
    rw [Below.heap_setCell _ _ _ _ (by exact k2), Below.heap_setCell _ _ _ _ (by exact k2), Below.heap_setCell _ _ _ _ (by exact k2), Below.heap_setCell _ _ _ _ (by exact k2)]
    exact Below.heap_setCell _ _ _ _ (by exact k1)
  have hsd := ((unhide HSG).same (fun k hk => hEW k hk.1 hk.2.1)).rd (fun k hk => Nat.lt_of_lt_of_le hk.2.2 hzW)
  exact bodyPost_ret (v := .agg #[.int .i64 base, .slice none 0 0, .slice ka ks.length kc, .slice pa qs.length pc]) (by simp [results, Try.results15, go_sem, e0, e1, e2, e3]) rfl ⟨⟨_, rfl, hsd⟩, (unhide HC5).keep hBW (by omega), (unhide HM5).trans (Below.mv (hBW.mono hlo) D), trivial⟩

set_option maxHeartbeats 8000000 in
set_option maxRecDepth 100000 in
theorem l4spoil_n7 (N D lo m1 m2 : Nat) (xs : List Int) (base : Int) (lv kv pv : Value) (ps qs : List (Cl Int)) (ks : List Int) (w : World) (h : CdAt N D w xs) (hx : Cod xs) (hD : D < lo) (hlo : lo ≤ w.heap.size) (hs : SegP lo m1 m2 w lv kv pv ps qs ks) (hb0 : 0 ≤ base) (hb1 : base ≤ 1000) (hk : xs.headD 0 % 10 = 7) (hn0 : ks.length = 0 ∧ qs.length = 0) :
    Calls Try.prog 15 #[.agg #[.int .i64 base, lv, kv, pv], .pointer (some ⟨D, 0, none⟩)] w (Spoilt N D lo w xs.tail.tail (base) ([]) (ks) (qs.map Cl.xs) (fun _ => True)) := by
  obtain ⟨i0, hi, hz0, hz1, hz2⟩ := info_parts Try.zinInt
  have hb01 := And.intro hb0 hb1
  clear hb01
  have HX := hide hx
  have hh := hx.head
  have hh2 := hx.tail.head
  obtain ⟨k, hy⟩ : ∃ y, xs.headD 0 = y := ⟨_, rfl⟩
  obtain ⟨y, hy2⟩ : ∃ y, xs.tail.headD 0 = y := ⟨_, rfl⟩
  rw [hy] at hk hh
  rw [hy2] at hh2
  have hl0 : ¬ (0 : Int) < (ks.length : Int) := by omega
  have hl1 : ¬ (0 : Int) < (qs.length : Int) := by omega
  have HN0 := hide hn0
  clear hn0
  have HY := hide hy
  have HY2 := hide hy2
  have HS := hide hs
  obtain ⟨la, lc, rfl⟩ := own_is hs.ln.own
  obtain ⟨ka, kc, rfl⟩ := own_is hs.ky
  obtain ⟨pa, pc, rfl⟩ := own_is hs.po.own
  have hb00 := below2 w (.cells #[.int .i64 base, .slice la ps.length lc, .slice ka ks.length kc, .slice pa qs.length pc] 28) (.cells #[.int .i64 0, .slice none 0 0, .slice none 0 0, .slice none 0 0] 28)
  have RA := (Row4.new w 28 (.int .i64 base) (.slice la ps.length lc) (.slice ka ks.length kc) (.slice pa qs.length pc)).alloc (.cells #[.int .i64 0, .slice none 0 0, .slice none 0 0, .slice none 0 0] 28)
  have RB := Row4.new (w.alloc (.cells #[.int .i64 base, .slice la ps.length lc, .slice ka ks.length kc, .slice pa qs.length pc] 28)) 28 (.int .i64 0) (.slice none 0 0) (.slice none 0 0) (.slice none 0 0)
  rw [sz_alloc] at RB
  have hzV : ((w.alloc (.cells #[.int .i64 base, .slice la ps.length lc, .slice ka ks.length kc, .slice pa qs.length pc] 28)).alloc (.cells #[.int .i64 0, .slice none 0 0, .slice none 0 0, .slice none 0 0] 28)).heap.size = w.heap.size + 2 := by simp
  have H := hide (h.keep hb00 (by omega))
  clear hx hy hy2 hs h
  go_enter Try.func15, Try.ntmps15
  go_wp2_with fail
  generalize (w.alloc (.cells #[.int .i64 base, .slice la ps.length lc, .slice ka ks.length kc, .slice pa qs.length pc] 28)).alloc (.cells #[.int .i64 0, .slice none 0 0, .slice none 0 0, .slice none 0 0] 28) = V at *
  have hVz' : w.heap.size + 2 ≤ V.heap.size := by omega
  clear hzV
  refine (next_any N D xs V (unhide H) (unhide HX)).mono ?_
  rintro e w1 ⟨he, hc1, ho1⟩
  rw [unhide HY] at he
  subst he
  have hz1' : V.heap.size ≤ w1.heap.size := Nat.le_of_eq ho1.size.symm
  have RA1 := RA.mv (ho1.mv V.heap.size) (by omega) (by omega)
  have RB1 := RB.mv (ho1.mv V.heap.size) (by omega) (by omega)
  have hM1 : Mv w.heap.size D w w1 := (Below.mv hb00 D).trans (ho1.mv w.heap.size)
  clear RA RB ho1 hb00 H
  go_wp2_with fail
  refine (next_any N D xs.tail w1 hc1 (unhide HX).tail).mono ?_
  rintro e w2 ⟨he, hc2, ho2⟩
  rw [unhide HY2] at he
  subst he
  have hz2' : w1.heap.size ≤ w2.heap.size := Nat.le_of_eq ho2.size.symm
  have hZ2 : w.heap.size + 2 ≤ w2.heap.size := by omega
  have HRA := hide (RA1.mv (ho2.mv w1.heap.size) (by omega) (by omega))
  have HRB := hide (RB1.mv (ho2.mv w1.heap.size) (by omega) (by omega))
  have hM2 := hM1.trans (ho2.mv w.heap.size)
  have HC2 := hide hc2
  have HE2 : Hid (∀ k, lo ≤ k → k < w.heap.size → w2.heap[k]? = w.heap[k]?) := fun k k1 k2 => hM2.block k k2 (by omega)
  have HS2 := hide ((unhide HS).same (w' := w2) (unhide HE2))
  obtain ⟨f0, f1, f2, f3, z0, z1, z2, z3⟩ := (unhide HRA).facts
  obtain ⟨g0, g1, g2, g3, t0, t1, t2, t3⟩ := (unhide HRB).facts
  clear RA1 RB1 hc1 hc2 ho2 hM1 hz1' hz2' hVz'
  have ho1 := (unhide HS).o1
  have ho2 := (unhide HS).o2
  obtain ⟨w5, hw5⟩ : ∃ w5, w5 = w2 := ⟨_, rfl⟩
  have HSG : Hid (SgS (fun k => k ≠ w.heap.size ∧ k ≠ w.heap.size + 1 ∧ k < w5.heap.size) w5 (.agg #[.int .i64 base, .slice none 0 0, .slice ka ks.length kc, .slice pa qs.length pc]) base [] ks (qs.map Cl.xs)) := by
    rw [hw5]
    exact ⟨_, _, _, rfl, SsS.nil _ _ _ _ _ (Nat.zero_le _), (unhide HS).keys (fun k k1 k2 k3 => ⟨⟨by omega, by omega, by omega⟩, unhide HE2 k (by omega) (by omega)⟩), (unhide HS).posts (fun k k1 k3 => ⟨⟨by omega, by omega, by omega⟩, unhide HE2 k (by omega) (by omega)⟩)⟩
  rw [← hw5] at HRA HRB HC2 hM2 ⊢
  have RA5 := HRA
  have RB5 := HRB
  have HC5 := HC2
  have HM5 := hide (hM2.mono hlo)
  have hz5 : w.heap.size + 2 ≤ w5.heap.size := by rw [hw5]; exact hZ2
  clear f0 f1 f2 f3 z0 z1 z2 z3 g0 g1 g2 g3 t0 t1 t2 t3
  clear hw5
  obtain ⟨s0, s1, s2, s3, -⟩ := ((unhide RA5).put1 (u := .slice none 0 0)).facts
  obtain ⟨u0, u1, u2, u3, v0, v1, v2, v3⟩ := ((unhide RB5).other (b' := w.heap.size) (o := 1) (u := .slice none 0 0) (by omega)).facts
  obtain ⟨x0, x1, x2, x3, y0, y1, y2, y3⟩ := (unhide RA5).facts
  go_wp2_with fail
  obtain ⟨e0, e1, e2, e3, -⟩ := ((((((unhide RB5).other (b' := w.heap.size) (o := 1) (u := .slice none 0 0) (by omega)).put0 (u := .int .i64 base)).put1 (u := .slice none 0 0)).put2 (u := .slice ka ks.length kc)).put3 (u := .slice pa qs.length pc)).facts
  have hBW := bput4 (bput (o := 1) (Below.refl w.heap.size w5) (Nat.le_refl _) (.slice none 0 0)) (Nat.le_succ _) (.int .i64 base) (.slice none 0 0) (.slice ka ks.length kc) (.slice pa qs.length pc)
  have hzW : w5.heap.size ≤ (((((w5.setCell ⟨w.heap.size, 1, none⟩ (.slice none 0 0)).setCell ⟨w.heap.size + 1, 0, none⟩ (.int .i64 base)).setCell ⟨w.heap.size + 1, 1, none⟩ (.slice none 0 0)).setCell ⟨w.heap.size + 1, 2, none⟩ (.slice ka ks.length kc)).setCell ⟨w.heap.size + 1, 3, none⟩ (.slice pa qs.length pc)).heap.size := hBW.size
  have hEW : ∀ k, k ≠ w.heap.size → k ≠ w.heap.size + 1 → (((((w5.setCell ⟨w.heap.size, 1, none⟩ (.slice none 0 0)).setCell ⟨w.heap.size + 1, 0, none⟩ (.int .i64 base)).setCell ⟨w.heap.size + 1, 1, none⟩ (.slice none 0 0)).setCell ⟨w.heap.size + 1, 2, none⟩ (.slice ka ks.length kc)).setCell ⟨w.heap.size + 1, 3, none⟩ (.slice pa qs.length pc)).heap[k]? = w5.heap[k]? := fun k k1 k2 => by
    rw [Below.heap_setCell _ _ _ _ (by exact k2), Below.heap_setCell _ _ _ _ (by exact k2), Below.heap_setCell _ _ _ _ (by exact k2), Below.heap_setCell _ _ _ _ (by exact k2)]
    exact Below.heap_setCell _ _ _ _ (by exact k1)
  have hsd := ((unhide HSG).same (fun k hk => hEW k hk.1 hk.2.1)).rd (fun k hk => Nat.lt_of_lt_of_le hk.2.2 hzW)
  exact bodyPost_ret (v := .agg #[.int .i64 base, .slice none 0 0, .slice ka ks.length kc, .slice pa qs.length pc]) (by simp [results, Try.results15, go_sem, e0, e1, e2, e3]) rfl ⟨⟨_, rfl, hsd⟩, (unhide HC5).keep hBW (by omega), (unhide HM5).trans (Below.mv (hBW.mono hlo) D), trivial⟩

set_option maxHeartbeats 8000000 in
set_option maxRecDepth 100000 in
theorem l4spoil_n9 (N D lo m1 m2 : Nat) (xs : List Int) (base : Int) (lv kv pv : Value) (ps qs : List (Cl Int)) (ks : List Int) (w : World) (h : CdAt N D w xs) (hx : Cod xs) (hD : D < lo) (hlo : lo ≤ w.heap.size) (hs : SegP lo m1 m2 w lv kv pv ps qs ks) (hb0 : 0 ≤ base) (hb1 : base ≤ 1000) (hk : xs.headD 0 % 10 = 9) (hn0 : ks.length = 0 ∧ qs.length = 0) :
    Calls Try.prog 15 #[.agg #[.int .i64 base, lv, kv, pv], .pointer (some ⟨D, 0, none⟩)] w (Spoilt N D lo w xs.tail.tail (base) ([]) (ks) (qs.map Cl.xs) (fun _ => True)) := by
  obtain ⟨i0, hi, hz0, hz1, hz2⟩ := info_parts Try.zinInt
  have hb01 := And.intro hb0 hb1
  clear hb01
  have HX := hide hx
  have hh := hx.head
  have hh2 := hx.tail.head
  obtain ⟨k, hy⟩ : ∃ y, xs.headD 0 = y := ⟨_, rfl⟩
  obtain ⟨y, hy2⟩ : ∃ y, xs.tail.headD 0 = y := ⟨_, rfl⟩
  rw [hy] at hk hh
  rw [hy2] at hh2
  have hl0 : ¬ (0 : Int) < (ks.length : Int) := by omega
  have hl1 : ¬ (0 : Int) < (qs.length : Int) := by omega
  have HN0 := hide hn0
  clear hn0
  have HY := hide hy
  have HY2 := hide hy2
  have HS := hide hs
  obtain ⟨la, lc, rfl⟩ := own_is hs.ln.own
  obtain ⟨ka, kc, rfl⟩ := own_is hs.ky
  obtain ⟨pa, pc, rfl⟩ := own_is hs.po.own
  have hb00 := below2 w (.cells #[.int .i64 base, .slice la ps.length lc, .slice ka ks.length kc, .slice pa qs.length pc] 28) (.cells #[.int .i64 0, .slice none 0 0, .slice none 0 0, .slice none 0 0] 28)
  have RA := (Row4.new w 28 (.int .i64 base) (.slice la ps.length lc) (.slice ka ks.length kc) (.slice pa qs.length pc)).alloc (.cells #[.int .i64 0, .slice none 0 0, .slice none 0 0, .slice none 0 0] 28)
  have RB := Row4.new (w.alloc (.cells #[.int .i64 base, .slice la ps.length lc, .slice ka ks.length kc, .slice pa qs.length pc] 28)) 28 (.int .i64 0) (.slice none 0 0) (.slice none 0 0) (.slice none 0 0)
  rw [sz_alloc] at RB
  have hzV : ((w.alloc (.cells #[.int .i64 base, .slice la ps.length lc, .slice ka ks.length kc, .slice pa qs.length pc] 28)).alloc (.cells #[.int .i64 0, .slice none 0 0, .slice none 0 0, .slice none 0 0] 28)).heap.size = w.heap.size + 2 := by simp
  have H := hide (h.keep hb00 (by omega))
  clear hx hy hy2 hs h
  go_enter Try.func15, Try.ntmps15
  go_wp2_with fail
  generalize (w.alloc (.cells #[.int .i64 base, .slice la ps.length lc, .slice ka ks.length kc, .slice pa qs.length pc] 28)).alloc (.cells #[.int .i64 0, .slice none 0 0, .slice none 0 0, .slice none 0 0] 28) = V at *
  have hVz' : w.heap.size + 2 ≤ V.heap.size := by omega
  clear hzV
  refine (next_any N D xs V (unhide H) (unhide HX)).mono ?_
  rintro e w1 ⟨he, hc1, ho1⟩
  rw [unhide HY] at he
  subst he
  have hz1' : V.heap.size ≤ w1.heap.size := Nat.le_of_eq ho1.size.symm
  have RA1 := RA.mv (ho1.mv V.heap.size) (by omega) (by omega)
  have RB1 := RB.mv (ho1.mv V.heap.size) (by omega) (by omega)
  have hM1 : Mv w.heap.size D w w1 := (Below.mv hb00 D).trans (ho1.mv w.heap.size)
  clear RA RB ho1 hb00 H
  go_wp2_with fail
  refine (next_any N D xs.tail w1 hc1 (unhide HX).tail).mono ?_
  rintro e w2 ⟨he, hc2, ho2⟩
  rw [unhide HY2] at he
  subst he
  have hz2' : w1.heap.size ≤ w2.heap.size := Nat.le_of_eq ho2.size.symm
  have hZ2 : w.heap.size + 2 ≤ w2.heap.size := by omega
  have HRA := hide (RA1.mv (ho2.mv w1.heap.size) (by omega) (by omega))
  have HRB := hide (RB1.mv (ho2.mv w1.heap.size) (by omega) (by omega))
  have hM2 := hM1.trans (ho2.mv w.heap.size)
  have HC2 := hide hc2
  have HE2 : Hid (∀ k, lo ≤ k → k < w.heap.size → w2.heap[k]? = w.heap[k]?) := fun k k1 k2 => hM2.block k k2 (by omega)
  have HS2 := hide ((unhide HS).same (w' := w2) (unhide HE2))
  obtain ⟨f0, f1, f2, f3, z0, z1, z2, z3⟩ := (unhide HRA).facts
  obtain ⟨g0, g1, g2, g3, t0, t1, t2, t3⟩ := (unhide HRB).facts
  clear RA1 RB1 hc1 hc2 ho2 hM1 hz1' hz2' hVz'
  have ho1 := (unhide HS).o1
  have ho2 := (unhide HS).o2
  obtain ⟨w5, hw5⟩ : ∃ w5, w5 = w2 := ⟨_, rfl⟩
  have HSG : Hid (SgS (fun k => k ≠ w.heap.size ∧ k ≠ w.heap.size + 1 ∧ k < w5.heap.size) w5 (.agg #[.int .i64 base, .slice none 0 0, .slice ka ks.length kc, .slice pa qs.length pc]) base [] ks (qs.map Cl.xs)) := by
    rw [hw5]
    exact ⟨_, _, _, rfl, SsS.nil _ _ _ _ _ (Nat.zero_le _), (unhide HS).keys (fun k k1 k2 k3 => ⟨⟨by omega, by omega, by omega⟩, unhide HE2 k (by omega) (by omega)⟩), (unhide HS).posts (fun k k1 k3 => ⟨⟨by omega, by omega, by omega⟩, unhide HE2 k (by omega) (by omega)⟩)⟩
  rw [← hw5] at HRA HRB HC2 hM2 ⊢
  have RA5 := HRA
  have RB5 := HRB
  have HC5 := HC2
  have HM5 := hide (hM2.mono hlo)
  have hz5 : w.heap.size + 2 ≤ w5.heap.size := by rw [hw5]; exact hZ2
  clear f0 f1 f2 f3 z0 z1 z2 z3 g0 g1 g2 g3 t0 t1 t2 t3
  clear hw5
  obtain ⟨s0, s1, s2, s3, -⟩ := ((unhide RA5).put1 (u := .slice none 0 0)).facts
  obtain ⟨u0, u1, u2, u3, v0, v1, v2, v3⟩ := ((unhide RB5).other (b' := w.heap.size) (o := 1) (u := .slice none 0 0) (by omega)).facts
  obtain ⟨x0, x1, x2, x3, y0, y1, y2, y3⟩ := (unhide RA5).facts
  go_wp2_with fail
  obtain ⟨e0, e1, e2, e3, -⟩ := ((((((unhide RB5).other (b' := w.heap.size) (o := 1) (u := .slice none 0 0) (by omega)).put0 (u := .int .i64 base)).put1 (u := .slice none 0 0)).put2 (u := .slice ka ks.length kc)).put3 (u := .slice pa qs.length pc)).facts
  have hBW := bput4 (bput (o := 1) (Below.refl w.heap.size w5) (Nat.le_refl _) (.slice none 0 0)) (Nat.le_succ _) (.int .i64 base) (.slice none 0 0) (.slice ka ks.length kc) (.slice pa qs.length pc)
  have hzW : w5.heap.size ≤ (((((w5.setCell ⟨w.heap.size, 1, none⟩ (.slice none 0 0)).setCell ⟨w.heap.size + 1, 0, none⟩ (.int .i64 base)).setCell ⟨w.heap.size + 1, 1, none⟩ (.slice none 0 0)).setCell ⟨w.heap.size + 1, 2, none⟩ (.slice ka ks.length kc)).setCell ⟨w.heap.size + 1, 3, none⟩ (.slice pa qs.length pc)).heap.size := hBW.size
  have hEW : ∀ k, k ≠ w.heap.size → k ≠ w.heap.size + 1 → (((((w5.setCell ⟨w.heap.size, 1, none⟩ (.slice none 0 0)).setCell ⟨w.heap.size + 1, 0, none⟩ (.int .i64 base)).setCell ⟨w.heap.size + 1, 1, none⟩ (.slice none 0 0)).setCell ⟨w.heap.size + 1, 2, none⟩ (.slice ka ks.length kc)).setCell ⟨w.heap.size + 1, 3, none⟩ (.slice pa qs.length pc)).heap[k]? = w5.heap[k]? := fun k k1 k2 => by
    rw [Below.heap_setCell _ _ _ _ (by exact k2), Below.heap_setCell _ _ _ _ (by exact k2), Below.heap_setCell _ _ _ _ (by exact k2), Below.heap_setCell _ _ _ _ (by exact k2)]
    exact Below.heap_setCell _ _ _ _ (by exact k1)
  have hsd := ((unhide HSG).same (fun k hk => hEW k hk.1 hk.2.1)).rd (fun k hk => Nat.lt_of_lt_of_le hk.2.2 hzW)
  exact bodyPost_ret (v := .agg #[.int .i64 base, .slice none 0 0, .slice ka ks.length kc, .slice pa qs.length pc]) (by simp [results, Try.results15, go_sem, e0, e1, e2, e3]) rfl ⟨⟨_, rfl, hsd⟩, (unhide HC5).keep hBW (by omega), (unhide HM5).trans (Below.mv (hBW.mono hlo) D), trivial⟩

set_option maxHeartbeats 8000000 in
set_option maxRecDepth 100000 in
theorem l4spoil_2 (N D lo m1 m2 : Nat) (xs : List Int) (base : Int) (lv kv pv : Value) (ps qs : List (Cl Int)) (ks : List Int) (w : World) (h : CdAt N D w xs) (hx : Cod xs) (hD : D < lo) (hlo : lo ≤ w.heap.size) (hs : SegP lo m1 m2 w lv kv pv ps qs ks) (hb0 : 0 ≤ base) (hb1 : base ≤ 1000) (hk : xs.headD 0 % 10 = 2) (hkl : ks.length ≤ 1048576) :
    Calls Try.prog 15 #[.agg #[.int .i64 base, lv, kv, pv], .pointer (some ⟨D, 0, none⟩)] w (Spoilt N D lo w xs.tail.tail (base) (ps.map Cl.xs) (ks ++ [16777215]) (qs.map Cl.xs) (Kept D w (.agg #[.int .i64 base, lv, kv, pv]) base (ps.map Cl.xs) ks (qs.map Cl.xs))) := by
  obtain ⟨i0, hi, hz0, hz1, hz2⟩ := info_parts Try.zinInt
  have hb01 := And.intro hb0 hb1
  clear hb01
  have HX := hide hx
  have hh := hx.head
  have hh2 := hx.tail.head
  obtain ⟨k, hy⟩ : ∃ y, xs.headD 0 = y := ⟨_, rfl⟩
  obtain ⟨y, hy2⟩ : ∃ y, xs.tail.headD 0 = y := ⟨_, rfl⟩
  rw [hy] at hk hh
  rw [hy2] at hh2
  have HY := hide hy
  have HY2 := hide hy2
  have HS := hide hs
  obtain ⟨la, lc, rfl⟩ := own_is hs.ln.own
  obtain ⟨ka, kc, rfl⟩ := own_is hs.ky
  obtain ⟨pa, pc, rfl⟩ := own_is hs.po.own
  have hb00 := below2 w (.cells #[.int .i64 base, .slice la ps.length lc, .slice ka ks.length kc, .slice pa qs.length pc] 28) (.cells #[.int .i64 0, .slice none 0 0, .slice none 0 0, .slice none 0 0] 28)
  have RA := (Row4.new w 28 (.int .i64 base) (.slice la ps.length lc) (.slice ka ks.length kc) (.slice pa qs.length pc)).alloc (.cells #[.int .i64 0, .slice none 0 0, .slice none 0 0, .slice none 0 0] 28)
  have RB := Row4.new (w.alloc (.cells #[.int .i64 base, .slice la ps.length lc, .slice ka ks.length kc, .slice pa qs.length pc] 28)) 28 (.int .i64 0) (.slice none 0 0) (.slice none 0 0) (.slice none 0 0)
  rw [sz_alloc] at RB
  have hzV : ((w.alloc (.cells #[.int .i64 base, .slice la ps.length lc, .slice ka ks.length kc, .slice pa qs.length pc] 28)).alloc (.cells #[.int .i64 0, .slice none 0 0, .slice none 0 0, .slice none 0 0] 28)).heap.size = w.heap.size + 2 := by simp
  have H := hide (h.keep hb00 (by omega))
  clear hx hy hy2 hs h
  go_enter Try.func15, Try.ntmps15
  go_wp2_with fail
  generalize (w.alloc (.cells #[.int .i64 base, .slice la ps.length lc, .slice ka ks.length kc, .slice pa qs.length pc] 28)).alloc (.cells #[.int .i64 0, .slice none 0 0, .slice none 0 0, .slice none 0 0] 28) = V at *
  have hVz' : w.heap.size + 2 ≤ V.heap.size := by omega
  clear hzV
  refine (next_any N D xs V (unhide H) (unhide HX)).mono ?_
  rintro e w1 ⟨he, hc1, ho1⟩
  rw [unhide HY] at he
  subst he
  have hz1' : V.heap.size ≤ w1.heap.size := Nat.le_of_eq ho1.size.symm
  have RA1 := RA.mv (ho1.mv V.heap.size) (by omega) (by omega)
  have RB1 := RB.mv (ho1.mv V.heap.size) (by omega) (by omega)
  have hM1 : Mv w.heap.size D w w1 := (Below.mv hb00 D).trans (ho1.mv w.heap.size)
  clear RA RB ho1 hb00 H
  go_wp2_with fail
  refine (next_any N D xs.tail w1 hc1 (unhide HX).tail).mono ?_
  rintro e w2 ⟨he, hc2, ho2⟩
  rw [unhide HY2] at he
  subst he
  have hz2' : w1.heap.size ≤ w2.heap.size := Nat.le_of_eq ho2.size.symm
  have hZ2 : w.heap.size + 2 ≤ w2.heap.size := by omega
  have HRA := hide (RA1.mv (ho2.mv w1.heap.size) (by omega) (by omega))
  have HRB := hide (RB1.mv (ho2.mv w1.heap.size) (by omega) (by omega))
  have hM2 := hM1.trans (ho2.mv w.heap.size)
  have HC2 := hide hc2
  have HE2 : Hid (∀ k, lo ≤ k → k < w.heap.size → w2.heap[k]? = w.heap[k]?) := fun k k1 k2 => hM2.block k k2 (by omega)
  have HS2 := hide ((unhide HS).same (w' := w2) (unhide HE2))
  obtain ⟨f0, f1, f2, f3, z0, z1, z2, z3⟩ := (unhide HRA).facts
  obtain ⟨g0, g1, g2, g3, t0, t1, t2, t3⟩ := (unhide HRB).facts
  clear RA1 RB1 hc1 hc2 ho2 hM1 hz1' hz2' hVz'
  have ho1 := (unhide HS).o1
  have ho2 := (unhide HS).o2
  have hb3 := below1 w2 (.cells #[.int .i64 16777215] 3)
  have hzA : (w2.alloc (.cells #[.int .i64 16777215] 3)).heap.size = w2.heap.size + 1 := sz_alloc _ _
  have hko := World.ownsRow.alloc (w := w2) (unhide HS2).ky (.cells #[.int .i64 16777215] 3)
  have HKO := hide hko
  by_cases hroom : ks.length + 1 ≤ kc
  · rcases hko.2 with ⟨e9, -⟩ | ⟨g, cap, cur, e9, hbg, hgc, -⟩
    · simp only [Value.slice.injEq] at e9
      omega
    · simp only [Value.slice.injEq] at e9
      obtain ⟨rfl, -, rfl⟩ := e9
      have hgw : g < w.heap.size := ((unhide HS).ky.lt g rfl).2
      have hgm : g < m2 := (unhide HS).kg g rfl
      clear hko
      go_wp2_with (at_builtin; refine wpList_append_own_spare _ rfl _ _ 25 rfl m1 3 i0 1 Try.underlying25 hi hz1 g ks.length kc (ks.map mI) rfl (unhide HKO) ⟨w2.heap.size, 0, none⟩ 1 1 [.int .i64 16777215] rfl rfl (cell_one_new _ _ _) (by intro u hu; simp at hu; subst hu; rfl) hroom ?_)
      intro w5 h5 hg5
      have hg5' : (w2.alloc (.cells #[.int .i64 16777215] 3)).grownBy w5 (some g) := hg5
      generalize w2.alloc (.cells #[.int .i64 16777215] 3) = w3 at hg5' hb3 hzA
      have hz3 : w2.heap.size + 1 ≤ w3.heap.size := by omega
      have hz5 : w3.heap.size ≤ w5.heap.size := hg5'.size
      have HE5 : Hid (∀ k, k ≠ g → k < w2.heap.size → w5.heap[k]? = w2.heap[k]?) := fun k k1 k2 => (hg5'.block k (by omega) (fun e => k1 (Option.some.inj e))).trans (hb3.block k k2)
      have RA5 := hide ((unhide HRA).blk (unhide HE5 w.heap.size (by omega) (by omega)))
      have RB5 := hide ((unhide HRB).blk (unhide HE5 (w.heap.size + 1) (by omega) (by omega)))
      have hB5 : Below lo w2 w5 := (hb3.mono (by omega)).grown hg5' (by omega) (fun j hj => by simp only [Option.some.injEq] at hj; omega)
      have HC5 := hide ((unhide HC2).keep hB5 hD)
      have HM5 := hide ((hM2.mono hlo).trans (Below.mv hB5 D))
      have h6 := own_prefix h5
      have HSG : Hid (SgS (fun k => k ≠ w.heap.size ∧ k ≠ w.heap.size + 1 ∧ k < w5.heap.size) w5 (.agg #[.int .i64 base, .slice la ps.length lc, .slice (some ⟨g, 0, none⟩) (ks.length + 1) kc, .slice pa qs.length pc]) base (ps.map Cl.xs) (ks ++ [16777215]) (qs.map Cl.xs)) :=
        ⟨_, _, _, rfl, (unhide HS).lines (fun k k1 k2 k3 => ⟨⟨by omega, by omega, by omega⟩, (unhide HE5 k (by omega) (by omega)).trans (unhide HE2 k (by omega) (by omega))⟩), own_s (lo := m1) (n := ks.length + 1) (by rw [List.map_append]; exact h5) (fun q hq => by have : g = q := Option.some.inj hq; subst this; exact ⟨by omega, by omega, by omega⟩), (unhide HS).posts (fun k k1 k3 => ⟨⟨by omega, by omega, by omega⟩, (unhide HE5 k (by omega) (by omega)).trans (unhide HE2 k (by omega) (by omega))⟩)⟩
      have HOLD : Hid (SgS (fun k => k ≠ w.heap.size ∧ k ≠ w.heap.size + 1 ∧ k < w5.heap.size) w5 (.agg #[.int .i64 base, .slice la ps.length lc, .slice (some ⟨g, 0, none⟩) ks.length kc, .slice pa qs.length pc]) base (ps.map Cl.xs) ks (qs.map Cl.xs)) :=
        ⟨_, _, _, rfl, (unhide HS).lines (fun k k1 k2 k3 => ⟨⟨by omega, by omega, by omega⟩, (unhide HE5 k (by omega) (by omega)).trans (unhide HE2 k (by omega) (by omega))⟩), own_s h6 (fun q hq => by have : g = q := Option.some.inj hq; subst this; exact ⟨by omega, by omega, by omega⟩), (unhide HS).posts (fun k k1 k3 => ⟨⟨by omega, by omega, by omega⟩, (unhide HE5 k (by omega) (by omega)).trans (unhide HE2 k (by omega) (by omega))⟩)⟩
      have HROW : Hid (∀ (b : Nat) (c0 c1 c2 c3 : Value), b ≠ D → Row4 w b 28 c0 c1 c2 c3 → Row4 w5 b 28 c0 c1 c2 c3) := fun b c0 c1 c2 c3 hbD hr => by
        have hbl := World.rowIs.lt hr
        have hr2 : Row4 w2 b 28 c0 c1 c2 c3 := World.rowIs.of_block hr (hM2.block b hbl hbD)
        refine World.rowIs.of_block hr2 (unhide HE5 b (fun e => ?_) (by omega))
        obtain ⟨cb, hcb, -⟩ := hr
        have hk9 := (unhide HS).ky.2
        rcases hk9 with ⟨e9, -⟩ | ⟨g', cap', cur', e9, -, hgc', -⟩
        · cases e9
        · simp only [Value.slice.injEq, Option.some.injEq, Addr.mk.injEq, and_true] at e9
          obtain ⟨e9, -⟩ := e9
          subst e9
          rw [← e, hcb] at hgc'
          simp at hgc'
      clear h5 h6 hg5 hg5' hb3 hzA hB5 hgc
      clear f0 f1 f2 f3 z0 z1 z2 z3 g0 g1 g2 g3 t0 t1 t2 t3
      obtain ⟨s0, s1, s2, s3, -⟩ := ((unhide RA5).put2 (u := .slice (some ⟨g, 0, none⟩) (ks.length + 1) kc)).facts
      obtain ⟨u0, u1, u2, u3, v0, v1, v2, v3⟩ := ((unhide RB5).other (b' := w.heap.size) (o := 2) (u := .slice (some ⟨g, 0, none⟩) (ks.length + 1) kc) (by omega)).facts
      obtain ⟨x0, x1, x2, x3, y0, y1, y2, y3⟩ := (unhide RA5).facts
      go_wp2_with fail
      obtain ⟨e0, e1, e2, e3, -⟩ := ((((((unhide RB5).other (b' := w.heap.size) (o := 2) (u := .slice (some ⟨g, 0, none⟩) (ks.length + 1) kc) (by omega)).put0 (u := .int .i64 base)).put1 (u := .slice la ps.length lc)).put2 (u := .slice (some ⟨g, 0, none⟩) (ks.length + 1) kc)).put3 (u := .slice pa qs.length pc)).facts
      have hBW := bput4 (bput (o := 2) (Below.refl w.heap.size w5) (Nat.le_refl _) (.slice (some ⟨g, 0, none⟩) (ks.length + 1) kc)) (Nat.le_succ _) (.int .i64 base) (.slice la ps.length lc) (.slice (some ⟨g, 0, none⟩) (ks.length + 1) kc) (.slice pa qs.length pc)
      have hzW : w5.heap.size ≤ (((((w5.setCell ⟨w.heap.size, 2, none⟩ (.slice (some ⟨g, 0, none⟩) (ks.length + 1) kc)).setCell ⟨w.heap.size + 1, 0, none⟩ (.int .i64 base)).setCell ⟨w.heap.size + 1, 1, none⟩ (.slice la ps.length lc)).setCell ⟨w.heap.size + 1, 2, none⟩ (.slice (some ⟨g, 0, none⟩) (ks.length + 1) kc)).setCell ⟨w.heap.size + 1, 3, none⟩ (.slice pa qs.length pc)).heap.size := hBW.size
      have hEW : ∀ k, k ≠ w.heap.size → k ≠ w.heap.size + 1 → (((((w5.setCell ⟨w.heap.size, 2, none⟩ (.slice (some ⟨g, 0, none⟩) (ks.length + 1) kc)).setCell ⟨w.heap.size + 1, 0, none⟩ (.int .i64 base)).setCell ⟨w.heap.size + 1, 1, none⟩ (.slice la ps.length lc)).setCell ⟨w.heap.size + 1, 2, none⟩ (.slice (some ⟨g, 0, none⟩) (ks.length + 1) kc)).setCell ⟨w.heap.size + 1, 3, none⟩ (.slice pa qs.length pc)).heap[k]? = w5.heap[k]? := fun k k1 k2 => by
        rw [Below.heap_setCell _ _ _ _ (by exact k2), Below.heap_setCell _ _ _ _ (by exact k2), Below.heap_setCell _ _ _ _ (by exact k2), Below.heap_setCell _ _ _ _ (by exact k2)]
        exact Below.heap_setCell _ _ _ _ (by exact k1)
      have hsd := ((unhide HSG).same (fun k hk => hEW k hk.1 hk.2.1)).rd (fun k hk => Nat.lt_of_lt_of_le hk.2.2 hzW)
      exact bodyPost_ret (v := .agg #[.int .i64 base, .slice la ps.length lc, .slice (some ⟨g, 0, none⟩) (ks.length + 1) kc, .slice pa qs.length pc]) (by simp [results, Try.results15, go_sem, e0, e1, e2, e3]) rfl ⟨⟨_, rfl, hsd⟩, (unhide HC5).keep hBW (by omega), (unhide HM5).trans (Below.mv (hBW.mono hlo) D), ⟨((unhide HOLD).same (fun k hk => hEW k hk.1 hk.2.1)).rd (fun k hk => Nat.lt_of_lt_of_le hk.2.2 hzW), fun b c0 c1 c2 c3 hbD hr => World.rowIs.of_block (unhide HROW b c0 c1 c2 c3 hbD hr) (hEW b (by have := World.rowIs.lt hr; omega) (by have := World.rowIs.lt hr; omega))⟩⟩

  · have hnone : ka = none → ks.length = 0 ∧ kc = 0 := fun e => by
      rcases hko.2 with ⟨e9, -⟩ | ⟨g, cap, cur, e9, -⟩
      · simp only [Value.slice.injEq] at e9
        exact ⟨e9.2.1, e9.2.2⟩
      · simp only [Value.slice.injEq] at e9
        rw [e] at e9
        simp at e9
    have holds : ∀ b, ka = some b → ∀ j u, (ks.map mI)[j]? = some u → (w2.alloc (.cells #[.int .i64 16777215] 3)).cell? (b.add j) = some u := fun b e j u hu => by
      rcases hko.2 with ⟨e9, -⟩ | ⟨g, cap, cur, e9, -⟩
      · simp only [Value.slice.injEq] at e9
        rw [e] at e9
        simp at e9
      · simp only [Value.slice.injEq] at e9
        obtain ⟨e9, -, e8⟩ := e9
        rw [e] at e9
        simp only [Option.some.injEq] at e9
        subst e9
        have hj : j < ks.length := by have := (List.getElem?_eq_some_iff.1 hu).1; simpa using this
        have e3 : (⟨g, 0, none⟩ : Addr).add j = ⟨g, j, none⟩ := by cases j <;> simp [Addr.add]
        subst e
        rw [e3, (unhide HKO).cellAt j (by omega)]
        exact hu
    clear hko
    go_wp2_with (at_builtin; refine wpList_append_grows _ rfl _ _ 25 rfl 3 i0 (.int .i64 0) 1 8 Try.underlying25 hi hz0 hz1 hz2 rfl (by decide) ka ks.length kc (ks.map mI) rfl hnone (by simp) holds ⟨w2.heap.size, 0, none⟩ 1 1 [.int .i64 16777215] rfl rfl (cell_one_new _ _ _) (by intro u hu; simp at hu; subst hu; rfl) (by omega) (by unfold maxLen; omega) (by omega) ?_)
    intro v5 w5 h5 hg5
    have hg5' : (w2.alloc (.cells #[.int .i64 16777215] 3)).grownBy w5 none := hg5
    have h5' : w5.ownsRow (w2.alloc (.cells #[.int .i64 16777215] 3)).heap.size 3 1 v5 (ks.length + 1) (ks.map mI ++ [.int .i64 16777215]) := by rw [hzA]; exact h5
    obtain ⟨g5, c5, rfl⟩ := ownsRow_succ h5
    generalize w2.alloc (.cells #[.int .i64 16777215] 3) = w3 at hg5' hb3 hzA h5'
    have hz3 : w2.heap.size + 1 ≤ w3.heap.size := by omega
    have hz5 : w3.heap.size ≤ w5.heap.size := hg5'.size
    have hg5n := h5'.lt g5 rfl
    have HE5 : Hid (∀ k, k < w2.heap.size → w5.heap[k]? = w2.heap[k]?) := fun k k2 => (hg5'.block k (by omega) (fun e => by cases e)).trans (hb3.block k k2)
    have RA5 := hide ((unhide HRA).blk (unhide HE5 w.heap.size (by omega)))
    have RB5 := hide ((unhide HRB).blk (unhide HE5 (w.heap.size + 1) (by omega)))
    have hB5 : Below lo w2 w5 := (hb3.mono (by omega)).grown hg5' (by omega) (fun j hj => by cases hj)
    have HC5 := hide ((unhide HC2).keep hB5 hD)
    have HM5 := hide ((hM2.mono hlo).trans (Below.mv hB5 D))
    have HSG : Hid (SgS (fun k => k ≠ w.heap.size ∧ k ≠ w.heap.size + 1 ∧ k < w5.heap.size) w5 (.agg #[.int .i64 base, .slice la ps.length lc, .slice (some ⟨g5, 0, none⟩) (ks.length + 1) c5, .slice pa qs.length pc]) base (ps.map Cl.xs) (ks ++ [16777215]) (qs.map Cl.xs)) :=
      ⟨_, _, _, rfl, (unhide HS).lines (fun k k1 k2 k3 => ⟨⟨by omega, by omega, by omega⟩, (unhide HE5 k (by omega)).trans (unhide HE2 k (by omega) (by omega))⟩), own_s (lo := w3.heap.size) (n := ks.length + 1) (by rw [List.map_append]; exact h5') (fun q hq => by have : g5 = q := Option.some.inj hq; subst this; exact ⟨by omega, by omega, by omega⟩), (unhide HS).posts (fun k k1 k3 => ⟨⟨by omega, by omega, by omega⟩, (unhide HE5 k (by omega)).trans (unhide HE2 k (by omega) (by omega))⟩)⟩
    have HOLD : Hid (SgS (fun k => k ≠ w.heap.size ∧ k ≠ w.heap.size + 1 ∧ k < w5.heap.size) w5 (.agg #[.int .i64 base, .slice la ps.length lc, .slice ka ks.length kc, .slice pa qs.length pc]) base (ps.map Cl.xs) ks (qs.map Cl.xs)) :=
      ⟨_, _, _, rfl, (unhide HS).lines (fun k k1 k2 k3 => ⟨⟨by omega, by omega, by omega⟩, (unhide HE5 k (by omega)).trans (unhide HE2 k (by omega) (by omega))⟩), (unhide HS).keys (fun k k1 k2 k3 => ⟨⟨by omega, by omega, by omega⟩, (unhide HE5 k (by omega)).trans (unhide HE2 k (by omega) (by omega))⟩), (unhide HS).posts (fun k k1 k3 => ⟨⟨by omega, by omega, by omega⟩, (unhide HE5 k (by omega)).trans (unhide HE2 k (by omega) (by omega))⟩)⟩
    have HROW : Hid (∀ (b : Nat) (c0 c1 c2 c3 : Value), b ≠ D → Row4 w b 28 c0 c1 c2 c3 → Row4 w5 b 28 c0 c1 c2 c3) := fun b c0 c1 c2 c3 hbD hr =>
      World.rowIs.of_block hr ((unhide HE5 b (by have := World.rowIs.lt hr; omega)).trans (hM2.block b (World.rowIs.lt hr) hbD))
    clear h5 h5' hg5 hg5' hb3 hzA hB5 hnone holds
    clear f0 f1 f2 f3 z0 z1 z2 z3 g0 g1 g2 g3 t0 t1 t2 t3
    obtain ⟨s0, s1, s2, s3, -⟩ := ((unhide RA5).put2 (u := .slice (some ⟨g5, 0, none⟩) (ks.length + 1) c5)).facts
    obtain ⟨u0, u1, u2, u3, v0, v1, v2, v3⟩ := ((unhide RB5).other (b' := w.heap.size) (o := 2) (u := .slice (some ⟨g5, 0, none⟩) (ks.length + 1) c5) (by omega)).facts
    obtain ⟨x0, x1, x2, x3, y0, y1, y2, y3⟩ := (unhide RA5).facts
    go_wp2_with fail
    obtain ⟨e0, e1, e2, e3, -⟩ := ((((((unhide RB5).other (b' := w.heap.size) (o := 2) (u := .slice (some ⟨g5, 0, none⟩) (ks.length + 1) c5) (by omega)).put0 (u := .int .i64 base)).put1 (u := .slice la ps.length lc)).put2 (u := .slice (some ⟨g5, 0, none⟩) (ks.length + 1) c5)).put3 (u := .slice pa qs.length pc)).facts
    have hBW := bput4 (bput (o := 2) (Below.refl w.heap.size w5) (Nat.le_refl _) (.slice (some ⟨g5, 0, none⟩) (ks.length + 1) c5)) (Nat.le_succ _) (.int .i64 base) (.slice la ps.length lc) (.slice (some ⟨g5, 0, none⟩) (ks.length + 1) c5) (.slice pa qs.length pc)
    have hzW : w5.heap.size ≤ (((((w5.setCell ⟨w.heap.size, 2, none⟩ (.slice (some ⟨g5, 0, none⟩) (ks.length + 1) c5)).setCell ⟨w.heap.size + 1, 0, none⟩ (.int .i64 base)).setCell ⟨w.heap.size + 1, 1, none⟩ (.slice la ps.length lc)).setCell ⟨w.heap.size + 1, 2, none⟩ (.slice (some ⟨g5, 0, none⟩) (ks.length + 1) c5)).setCell ⟨w.heap.size + 1, 3, none⟩ (.slice pa qs.length pc)).heap.size := hBW.size
    have hEW : ∀ k, k ≠ w.heap.size → k ≠ w.heap.size + 1 → (((((w5.setCell ⟨w.heap.size, 2, none⟩ (.slice (some ⟨g5, 0, none⟩) (ks.length + 1) c5)).setCell ⟨w.heap.size + 1, 0, none⟩ (.int .i64 base)).setCell ⟨w.heap.size + 1, 1, none⟩ (.slice la ps.length lc)).setCell ⟨w.heap.size + 1, 2, none⟩ (.slice (some ⟨g5, 0, none⟩) (ks.length + 1) c5)).setCell ⟨w.heap.size + 1, 3, none⟩ (.slice pa qs.length pc)).heap[k]? = w5.heap[k]? := fun k k1 k2 => by
      rw [Below.heap_setCell _ _ _ _ (by exact k2), Below.heap_setCell _ _ _ _ (by exact k2), Below.heap_setCell _ _ _ _ (by exact k2), Below.heap_setCell _ _ _ _ (by exact k2)]
      exact Below.heap_setCell _ _ _ _ (by exact k1)
    have hsd := ((unhide HSG).same (fun k hk => hEW k hk.1 hk.2.1)).rd (fun k hk => Nat.lt_of_lt_of_le hk.2.2 hzW)
    exact bodyPost_ret (v := .agg #[.int .i64 base, .slice la ps.length lc, .slice (some ⟨g5, 0, none⟩) (ks.length + 1) c5, .slice pa qs.length pc]) (by simp [results, Try.results15, go_sem, e0, e1, e2, e3]) rfl ⟨⟨_, rfl, hsd⟩, (unhide HC5).keep hBW (by omega), (unhide HM5).trans (Below.mv (hBW.mono hlo) D), ⟨((unhide HOLD).same (fun k hk => hEW k hk.1 hk.2.1)).rd (fun k hk => Nat.lt_of_lt_of_le hk.2.2 hzW), fun b c0 c1 c2 c3 hbD hr => World.rowIs.of_block (unhide HROW b c0 c1 c2 c3 hbD hr) (hEW b (by have := World.rowIs.lt hr; omega) (by have := World.rowIs.lt hr; omega))⟩⟩

set_option maxHeartbeats 8000000 in
set_option maxRecDepth 100000 in
theorem l4spoil_4 (N D lo m1 m2 : Nat) (xs : List Int) (base : Int) (lv kv pv : Value) (ps qs : List (Cl Int)) (ks : List Int) (w : World) (h : CdAt N D w xs) (hx : Cod xs) (hD : D < lo) (hlo : lo ≤ w.heap.size) (hs : SegP lo m1 m2 w lv kv pv ps qs ks) (hb0 : 0 ≤ base) (hb1 : base ≤ 1000) (hk : xs.headD 0 % 10 = 4) (hn0 : 0 < ks.length) :
    Calls Try.prog 15 #[.agg #[.int .i64 base, lv, kv, pv], .pointer (some ⟨D, 0, none⟩)] w (Spoilt N D lo w xs.tail.tail (base) (ps.map Cl.xs) (ks.tail) (qs.map Cl.xs) (fun _ => True)) := by
  obtain ⟨i0, hi, hz0, hz1, hz2⟩ := info_parts Try.zinInt
  have hb01 := And.intro hb0 hb1
  clear hb01
  have HX := hide hx
  have hh := hx.head
  have hh2 := hx.tail.head
  obtain ⟨k, hy⟩ : ∃ y, xs.headD 0 = y := ⟨_, rfl⟩
  obtain ⟨y, hy2⟩ : ∃ y, xs.tail.headD 0 = y := ⟨_, rfl⟩
  rw [hy] at hk hh
  rw [hy2] at hh2
  have hl0 : (0 : Int) < (ks.length : Int) := by omega
  have HY := hide hy
  have HY2 := hide hy2
  have HS := hide hs
  obtain ⟨la, lc, rfl⟩ := own_is hs.ln.own
  obtain ⟨ka, kc, rfl⟩ := own_is hs.ky
  obtain ⟨pa, pc, rfl⟩ := own_is hs.po.own
  have hb00 := below2 w (.cells #[.int .i64 base, .slice la ps.length lc, .slice ka ks.length kc, .slice pa qs.length pc] 28) (.cells #[.int .i64 0, .slice none 0 0, .slice none 0 0, .slice none 0 0] 28)
  have RA := (Row4.new w 28 (.int .i64 base) (.slice la ps.length lc) (.slice ka ks.length kc) (.slice pa qs.length pc)).alloc (.cells #[.int .i64 0, .slice none 0 0, .slice none 0 0, .slice none 0 0] 28)
  have RB := Row4.new (w.alloc (.cells #[.int .i64 base, .slice la ps.length lc, .slice ka ks.length kc, .slice pa qs.length pc] 28)) 28 (.int .i64 0) (.slice none 0 0) (.slice none 0 0) (.slice none 0 0)
  rw [sz_alloc] at RB
  have hzV : ((w.alloc (.cells #[.int .i64 base, .slice la ps.length lc, .slice ka ks.length kc, .slice pa qs.length pc] 28)).alloc (.cells #[.int .i64 0, .slice none 0 0, .slice none 0 0, .slice none 0 0] 28)).heap.size = w.heap.size + 2 := by simp
  have H := hide (h.keep hb00 (by omega))
  clear hx hy hy2 hs h
  go_enter Try.func15, Try.ntmps15
  go_wp2_with fail
  generalize (w.alloc (.cells #[.int .i64 base, .slice la ps.length lc, .slice ka ks.length kc, .slice pa qs.length pc] 28)).alloc (.cells #[.int .i64 0, .slice none 0 0, .slice none 0 0, .slice none 0 0] 28) = V at *
  have hVz' : w.heap.size + 2 ≤ V.heap.size := by omega
  clear hzV
  refine (next_any N D xs V (unhide H) (unhide HX)).mono ?_
  rintro e w1 ⟨he, hc1, ho1⟩
  rw [unhide HY] at he
  subst he
  have hz1' : V.heap.size ≤ w1.heap.size := Nat.le_of_eq ho1.size.symm
  have RA1 := RA.mv (ho1.mv V.heap.size) (by omega) (by omega)
  have RB1 := RB.mv (ho1.mv V.heap.size) (by omega) (by omega)
  have hM1 : Mv w.heap.size D w w1 := (Below.mv hb00 D).trans (ho1.mv w.heap.size)
  clear RA RB ho1 hb00 H
  go_wp2_with fail
  refine (next_any N D xs.tail w1 hc1 (unhide HX).tail).mono ?_
  rintro e w2 ⟨he, hc2, ho2⟩
  rw [unhide HY2] at he
  subst he
  have hz2' : w1.heap.size ≤ w2.heap.size := Nat.le_of_eq ho2.size.symm
  have hZ2 : w.heap.size + 2 ≤ w2.heap.size := by omega
  have HRA := hide (RA1.mv (ho2.mv w1.heap.size) (by omega) (by omega))
  have HRB := hide (RB1.mv (ho2.mv w1.heap.size) (by omega) (by omega))
  have hM2 := hM1.trans (ho2.mv w.heap.size)
  have HC2 := hide hc2
  have HE2 : Hid (∀ k, lo ≤ k → k < w.heap.size → w2.heap[k]? = w.heap[k]?) := fun k k1 k2 => hM2.block k k2 (by omega)
  have HS2 := hide ((unhide HS).same (w' := w2) (unhide HE2))
  obtain ⟨f0, f1, f2, f3, z0, z1, z2, z3⟩ := (unhide HRA).facts
  obtain ⟨g0, g1, g2, g3, t0, t1, t2, t3⟩ := (unhide HRB).facts
  clear RA1 RB1 hc1 hc2 ho2 hM1 hz1' hz2' hVz'
  have ho1 := (unhide HS).o1
  have ho2 := (unhide HS).o2
  obtain ⟨m, hm⟩ : ∃ m, ks.length = m + 1 := ⟨ks.length - 1, by omega⟩
  rcases (unhide HS2).ky.2 with ⟨e9, hz9⟩ | ⟨g, cap, cur, e9, -, -, hnc, hcm, -⟩
  · omega
  · simp only [Value.slice.injEq] at e9
    obtain ⟨rfl, -, rfl⟩ := e9
    obtain ⟨w5, hw5⟩ : ∃ w5, w5 = w2 := ⟨_, rfl⟩
    have HLN : Hid (SsS mB (fun k => k ≠ w.heap.size ∧ k ≠ w.heap.size + 1 ∧ k < w5.heap.size) w5 (.slice la ps.length lc) (ps.map Cl.xs)) := by rw [hw5]; exact (unhide HS).lines (fun k k1 k2 k3 => ⟨⟨by omega, by omega, by omega⟩, unhide HE2 k (by omega) (by omega)⟩)
    have HKY : Hid (SlS mI (fun k => k ≠ w.heap.size ∧ k ≠ w.heap.size + 1 ∧ k < w5.heap.size) w5 (.slice (some ⟨g, 0, none⟩) ks.length kc) ks) := by rw [hw5]; exact (unhide HS).keys (fun k k1 k2 k3 => ⟨⟨by omega, by omega, by omega⟩, unhide HE2 k (by omega) (by omega)⟩)
    have HPO : Hid (SsS mI (fun k => k ≠ w.heap.size ∧ k ≠ w.heap.size + 1 ∧ k < w5.heap.size) w5 (.slice pa qs.length pc) (qs.map Cl.xs)) := by rw [hw5]; exact (unhide HS).posts (fun k k1 k3 => ⟨⟨by omega, by omega, by omega⟩, unhide HE2 k (by omega) (by omega)⟩)
    have HROW : Hid (∀ (b : Nat) (c0 c1 c2 c3 : Value), b ≠ D → Row4 w b 28 c0 c1 c2 c3 → Row4 w5 b 28 c0 c1 c2 c3) := fun b c0 c1 c2 c3 hbD hr => by rw [hw5]; exact World.rowIs.of_block hr (hM2.block b (World.rowIs.lt hr) hbD)
    have hz5 : w.heap.size + 2 ≤ w5.heap.size := by rw [hw5]; exact hZ2
    rw [← hw5] at HRA HRB HC2 hM2 f0 f1 f2 f3 z0 z1 z2 z3 g0 g1 g2 g3 t0 t1 t2 t3 ⊢
    clear hw5
    have HOLD : Hid (SgS (fun k => k ≠ w.heap.size ∧ k ≠ w.heap.size + 1 ∧ k < w5.heap.size) w5 (.agg #[.int .i64 base, .slice la ps.length lc, .slice (some ⟨g, 0, none⟩) ks.length kc, .slice pa qs.length pc]) base (ps.map Cl.xs) ks (qs.map Cl.xs)) := ⟨_, _, _, rfl, unhide HLN, unhide HKY, unhide HPO⟩
    have RA5 := HRA
    have RB5 := HRB
    have HC5 := HC2
    have HM5 := hide (hM2.mono hlo)
    have hx5 := (unhide HKY)
    rw [hm] at hx5 hnc hl0
    have HX5 := hide hx5
    have hm1 : (1 : Int) ≤ ((m + 1 : Nat) : Int) := by omega
    have hm2 : (0 : Int) < ((m + 1 : Nat) : Int) := by omega
    rw [hm] at f2 HRA RA5 ⊢
    have HM := hide hm
    clear hm hx5 hn0
    rcases (show kc = 1 ∨ ∃ c, kc = c + 2 from if h9 : kc = 1 then Or.inl h9 else Or.inr ⟨kc - 2, by omega⟩) with rfl | ⟨c, rfl⟩
    · obtain rfl : m = 0 := by omega
      have hte : ks.tail = [] := List.eq_nil_of_length_eq_zero (by rw [List.length_tail]; have := unhide HM; omega)
      have HSG : Hid (SgS (fun k => k ≠ w.heap.size ∧ k ≠ w.heap.size + 1 ∧ k < w5.heap.size) w5 (.agg #[.int .i64 base, .slice la ps.length lc, .slice (some ⟨g, 0, none⟩) 0 0, .slice pa qs.length pc]) base (ps.map Cl.xs) (ks.tail) (qs.map Cl.xs)) := by
        rw [hte]
        exact ⟨_, _, _, rfl, unhide HLN, SlS.nil _ _ _ _ _ (Nat.zero_le _), unhide HPO⟩
      clear hte
      obtain ⟨s0, s1, s2, s3, -⟩ := ((unhide RA5).put2 (u := .slice (some ⟨g, 0, none⟩) 0 0)).facts
      obtain ⟨u0, u1, u2, u3, v0, v1, v2, v3⟩ := ((unhide RB5).other (b' := w.heap.size) (o := 2) (u := .slice (some ⟨g, 0, none⟩) 0 0) (by omega)).facts
      obtain ⟨x0, x1, x2, x3, y0, y1, y2, y3⟩ := (unhide RA5).facts
      go_wp2_with fail
      obtain ⟨e0, e1, e2, e3, -⟩ := ((((((unhide RB5).other (b' := w.heap.size) (o := 2) (u := .slice (some ⟨g, 0, none⟩) 0 0) (by omega)).put0 (u := .int .i64 base)).put1 (u := .slice la ps.length lc)).put2 (u := .slice (some ⟨g, 0, none⟩) 0 0)).put3 (u := .slice pa qs.length pc)).facts
      have hBW := bput4 (bput (o := 2) (Below.refl w.heap.size w5) (Nat.le_refl _) (.slice (some ⟨g, 0, none⟩) 0 0)) (Nat.le_succ _) (.int .i64 base) (.slice la ps.length lc) (.slice (some ⟨g, 0, none⟩) 0 0) (.slice pa qs.length pc)
      have hzW : w5.heap.size ≤ (((((w5.setCell ⟨w.heap.size, 2, none⟩ (.slice (some ⟨g, 0, none⟩) 0 0)).setCell ⟨w.heap.size + 1, 0, none⟩ (.int .i64 base)).setCell ⟨w.heap.size + 1, 1, none⟩ (.slice la ps.length lc)).setCell ⟨w.heap.size + 1, 2, none⟩ (.slice (some ⟨g, 0, none⟩) 0 0)).setCell ⟨w.heap.size + 1, 3, none⟩ (.slice pa qs.length pc)).heap.size := hBW.size
      have hEW : ∀ k, k ≠ w.heap.size → k ≠ w.heap.size + 1 → (((((w5.setCell ⟨w.heap.size, 2, none⟩ (.slice (some ⟨g, 0, none⟩) 0 0)).setCell ⟨w.heap.size + 1, 0, none⟩ (.int .i64 base)).setCell ⟨w.heap.size + 1, 1, none⟩ (.slice la ps.length lc)).setCell ⟨w.heap.size + 1, 2, none⟩ (.slice (some ⟨g, 0, none⟩) 0 0)).setCell ⟨w.heap.size + 1, 3, none⟩ (.slice pa qs.length pc)).heap[k]? = w5.heap[k]? := fun k k1 k2 => by
        rw [Below.heap_setCell _ _ _ _ (by exact k2), Below.heap_setCell _ _ _ _ (by exact k2), Below.heap_setCell _ _ _ _ (by exact k2), Below.heap_setCell _ _ _ _ (by exact k2)]
        exact Below.heap_setCell _ _ _ _ (by exact k1)
      have hsd := ((unhide HSG).same (fun k hk => hEW k hk.1 hk.2.1)).rd (fun k hk => Nat.lt_of_lt_of_le hk.2.2 hzW)
      exact bodyPost_ret (v := .agg #[.int .i64 base, .slice la ps.length lc, .slice (some ⟨g, 0, none⟩) 0 0, .slice pa qs.length pc]) (by simp [results, Try.results15, go_sem, e0, e1, e2, e3]) rfl ⟨⟨_, rfl, hsd⟩, (unhide HC5).keep hBW (by omega), (unhide HM5).trans (Below.mv (hBW.mono hlo) D), trivial⟩

    · have HSG : Hid (SgS (fun k => k ≠ w.heap.size ∧ k ≠ w.heap.size + 1 ∧ k < w5.heap.size) w5 (.agg #[.int .i64 base, .slice la ps.length lc, .slice (some ⟨g, 1, none⟩) m (c + 1), .slice pa qs.length pc]) base (ps.map Cl.xs) (ks.tail) (qs.map Cl.xs)) := ⟨_, _, _, rfl, unhide HLN, (unhide HX5).tail, unhide HPO⟩
      obtain ⟨s0, s1, s2, s3, -⟩ := ((unhide RA5).put2 (u := .slice (some ⟨g, 1, none⟩) m (c + 1))).facts
      obtain ⟨u0, u1, u2, u3, v0, v1, v2, v3⟩ := ((unhide RB5).other (b' := w.heap.size) (o := 2) (u := .slice (some ⟨g, 1, none⟩) m (c + 1)) (by omega)).facts
      obtain ⟨x0, x1, x2, x3, y0, y1, y2, y3⟩ := (unhide RA5).facts
      go_wp2_with fail
      obtain ⟨e0, e1, e2, e3, -⟩ := ((((((unhide RB5).other (b' := w.heap.size) (o := 2) (u := .slice (some ⟨g, 1, none⟩) m (c + 1)) (by omega)).put0 (u := .int .i64 base)).put1 (u := .slice la ps.length lc)).put2 (u := .slice (some ⟨g, 1, none⟩) m (c + 1))).put3 (u := .slice pa qs.length pc)).facts
      have hBW := bput4 (bput (o := 2) (Below.refl w.heap.size w5) (Nat.le_refl _) (.slice (some ⟨g, 1, none⟩) m (c + 1))) (Nat.le_succ _) (.int .i64 base) (.slice la ps.length lc) (.slice (some ⟨g, 1, none⟩) m (c + 1)) (.slice pa qs.length pc)
      have hzW : w5.heap.size ≤ (((((w5.setCell ⟨w.heap.size, 2, none⟩ (.slice (some ⟨g, 1, none⟩) m (c + 1))).setCell ⟨w.heap.size + 1, 0, none⟩ (.int .i64 base)).setCell ⟨w.heap.size + 1, 1, none⟩ (.slice la ps.length lc)).setCell ⟨w.heap.size + 1, 2, none⟩ (.slice (some ⟨g, 1, none⟩) m (c + 1))).setCell ⟨w.heap.size + 1, 3, none⟩ (.slice pa qs.length pc)).heap.size := hBW.size
      have hEW : ∀ k, k ≠ w.heap.size → k ≠ w.heap.size + 1 → (((((w5.setCell ⟨w.heap.size, 2, none⟩ (.slice (some ⟨g, 1, none⟩) m (c + 1))).setCell ⟨w.heap.size + 1, 0, none⟩ (.int .i64 base)).setCell ⟨w.heap.size + 1, 1, none⟩ (.slice la ps.length lc)).setCell ⟨w.heap.size + 1, 2, none⟩ (.slice (some ⟨g, 1, none⟩) m (c + 1))).setCell ⟨w.heap.size + 1, 3, none⟩ (.slice pa qs.length pc)).heap[k]? = w5.heap[k]? := fun k k1 k2 => by
        rw [Below.heap_setCell _ _ _ _ (by exact k2), Below.heap_setCell _ _ _ _ (by exact k2), Below.heap_setCell _ _ _ _ (by exact k2), Below.heap_setCell _ _ _ _ (by exact k2)]
        exact Below.heap_setCell _ _ _ _ (by exact k1)
      have hsd := ((unhide HSG).same (fun k hk => hEW k hk.1 hk.2.1)).rd (fun k hk => Nat.lt_of_lt_of_le hk.2.2 hzW)
      exact bodyPost_ret (v := .agg #[.int .i64 base, .slice la ps.length lc, .slice (some ⟨g, 1, none⟩) m (c + 1), .slice pa qs.length pc]) (by simp [results, Try.results15, go_sem, e0, e1, e2, e3]) rfl ⟨⟨_, rfl, hsd⟩, (unhide HC5).keep hBW (by omega), (unhide HM5).trans (Below.mv (hBW.mono hlo) D), trivial⟩

set_option maxHeartbeats 8000000 in
set_option maxRecDepth 100000 in
theorem l4spoil_7 (N D lo m1 m2 : Nat) (xs : List Int) (base : Int) (lv kv pv : Value) (ps qs : List (Cl Int)) (ks : List Int) (w : World) (h : CdAt N D w xs) (hx : Cod xs) (hD : D < lo) (hlo : lo ≤ w.heap.size) (hs : SegP lo m1 m2 w lv kv pv ps qs ks) (hb0 : 0 ≤ base) (hb1 : base ≤ 1000) (hk : xs.headD 0 % 10 = 7) (hn0 : 0 < qs.length) :
    Calls Try.prog 15 #[.agg #[.int .i64 base, lv, kv, pv], .pointer (some ⟨D, 0, none⟩)] w (Spoilt N D lo w xs.tail.tail (base) (ps.map Cl.xs) (ks) ((qs.map Cl.xs).tail) (Kept D w (.agg #[.int .i64 base, lv, kv, pv]) base (ps.map Cl.xs) ks (qs.map Cl.xs))) := by
  obtain ⟨i0, hi, hz0, hz1, hz2⟩ := info_parts Try.zinInt
  have hb01 := And.intro hb0 hb1
  clear hb01
  have HX := hide hx
  have hh := hx.head
  have hh2 := hx.tail.head
  obtain ⟨k, hy⟩ : ∃ y, xs.headD 0 = y := ⟨_, rfl⟩
  obtain ⟨y, hy2⟩ : ∃ y, xs.tail.headD 0 = y := ⟨_, rfl⟩
  rw [hy] at hk hh
  rw [hy2] at hh2
  have hl0 : (0 : Int) < (qs.length : Int) := by omega
  have HY := hide hy
  have HY2 := hide hy2
  have HS := hide hs
  obtain ⟨la, lc, rfl⟩ := own_is hs.ln.own
  obtain ⟨ka, kc, rfl⟩ := own_is hs.ky
  obtain ⟨pa, pc, rfl⟩ := own_is hs.po.own
  have hb00 := below2 w (.cells #[.int .i64 base, .slice la ps.length lc, .slice ka ks.length kc, .slice pa qs.length pc] 28) (.cells #[.int .i64 0, .slice none 0 0, .slice none 0 0, .slice none 0 0] 28)
  have RA := (Row4.new w 28 (.int .i64 base) (.slice la ps.length lc) (.slice ka ks.length kc) (.slice pa qs.length pc)).alloc (.cells #[.int .i64 0, .slice none 0 0, .slice none 0 0, .slice none 0 0] 28)
  have RB := Row4.new (w.alloc (.cells #[.int .i64 base, .slice la ps.length lc, .slice ka ks.length kc, .slice pa qs.length pc] 28)) 28 (.int .i64 0) (.slice none 0 0) (.slice none 0 0) (.slice none 0 0)
  rw [sz_alloc] at RB
  have hzV : ((w.alloc (.cells #[.int .i64 base, .slice la ps.length lc, .slice ka ks.length kc, .slice pa qs.length pc] 28)).alloc (.cells #[.int .i64 0, .slice none 0 0, .slice none 0 0, .slice none 0 0] 28)).heap.size = w.heap.size + 2 := by simp
  have H := hide (h.keep hb00 (by omega))
  clear hx hy hy2 hs h
  go_enter Try.func15, Try.ntmps15
  go_wp2_with fail
  generalize (w.alloc (.cells #[.int .i64 base, .slice la ps.length lc, .slice ka ks.length kc, .slice pa qs.length pc] 28)).alloc (.cells #[.int .i64 0, .slice none 0 0, .slice none 0 0, .slice none 0 0] 28) = V at *
  have hVz' : w.heap.size + 2 ≤ V.heap.size := by omega
  clear hzV
  refine (next_any N D xs V (unhide H) (unhide HX)).mono ?_
  rintro e w1 ⟨he, hc1, ho1⟩
  rw [unhide HY] at he
  subst he
  have hz1' : V.heap.size ≤ w1.heap.size := Nat.le_of_eq ho1.size.symm
  have RA1 := RA.mv (ho1.mv V.heap.size) (by omega) (by omega)
  have RB1 := RB.mv (ho1.mv V.heap.size) (by omega) (by omega)
  have hM1 : Mv w.heap.size D w w1 := (Below.mv hb00 D).trans (ho1.mv w.heap.size)
  clear RA RB ho1 hb00 H
  go_wp2_with fail
  refine (next_any N D xs.tail w1 hc1 (unhide HX).tail).mono ?_
  rintro e w2 ⟨he, hc2, ho2⟩
  rw [unhide HY2] at he
  subst he
  have hz2' : w1.heap.size ≤ w2.heap.size := Nat.le_of_eq ho2.size.symm
  have hZ2 : w.heap.size + 2 ≤ w2.heap.size := by omega
  have HRA := hide (RA1.mv (ho2.mv w1.heap.size) (by omega) (by omega))
  have HRB := hide (RB1.mv (ho2.mv w1.heap.size) (by omega) (by omega))
  have hM2 := hM1.trans (ho2.mv w.heap.size)
  have HC2 := hide hc2
  have HE2 : Hid (∀ k, lo ≤ k → k < w.heap.size → w2.heap[k]? = w.heap[k]?) := fun k k1 k2 => hM2.block k k2 (by omega)
  have HS2 := hide ((unhide HS).same (w' := w2) (unhide HE2))
  obtain ⟨f0, f1, f2, f3, z0, z1, z2, z3⟩ := (unhide HRA).facts
  obtain ⟨g0, g1, g2, g3, t0, t1, t2, t3⟩ := (unhide HRB).facts
  clear RA1 RB1 hc1 hc2 ho2 hM1 hz1' hz2' hVz'
  have ho1 := (unhide HS).o1
  have ho2 := (unhide HS).o2
  obtain ⟨m, hm⟩ : ∃ m, qs.length = m + 1 := ⟨qs.length - 1, by omega⟩
  rcases (unhide HS2).po.own.2 with ⟨e9, hz9⟩ | ⟨g, cap, cur, e9, -, -, hnc, hcm, -⟩
  · omega
  · simp only [Value.slice.injEq] at e9
    obtain ⟨rfl, -, rfl⟩ := e9
    obtain ⟨w5, hw5⟩ : ∃ w5, w5 = w2 := ⟨_, rfl⟩
    have HLN : Hid (SsS mB (fun k => k ≠ w.heap.size ∧ k ≠ w.heap.size + 1 ∧ k < w5.heap.size) w5 (.slice la ps.length lc) (ps.map Cl.xs)) := by rw [hw5]; exact (unhide HS).lines (fun k k1 k2 k3 => ⟨⟨by omega, by omega, by omega⟩, unhide HE2 k (by omega) (by omega)⟩)
    have HKY : Hid (SlS mI (fun k => k ≠ w.heap.size ∧ k ≠ w.heap.size + 1 ∧ k < w5.heap.size) w5 (.slice ka ks.length kc) ks) := by rw [hw5]; exact (unhide HS).keys (fun k k1 k2 k3 => ⟨⟨by omega, by omega, by omega⟩, unhide HE2 k (by omega) (by omega)⟩)
    have HPO : Hid (SsS mI (fun k => k ≠ w.heap.size ∧ k ≠ w.heap.size + 1 ∧ k < w5.heap.size) w5 (.slice (some ⟨g, 0, none⟩) qs.length pc) (qs.map Cl.xs)) := by rw [hw5]; exact (unhide HS).posts (fun k k1 k3 => ⟨⟨by omega, by omega, by omega⟩, unhide HE2 k (by omega) (by omega)⟩)
    have HROW : Hid (∀ (b : Nat) (c0 c1 c2 c3 : Value), b ≠ D → Row4 w b 28 c0 c1 c2 c3 → Row4 w5 b 28 c0 c1 c2 c3) := fun b c0 c1 c2 c3 hbD hr => by rw [hw5]; exact World.rowIs.of_block hr (hM2.block b (World.rowIs.lt hr) hbD)
    have hz5 : w.heap.size + 2 ≤ w5.heap.size := by rw [hw5]; exact hZ2
    rw [← hw5] at HRA HRB HC2 hM2 f0 f1 f2 f3 z0 z1 z2 z3 g0 g1 g2 g3 t0 t1 t2 t3 ⊢
    clear hw5
    have HOLD : Hid (SgS (fun k => k ≠ w.heap.size ∧ k ≠ w.heap.size + 1 ∧ k < w5.heap.size) w5 (.agg #[.int .i64 base, .slice la ps.length lc, .slice ka ks.length kc, .slice (some ⟨g, 0, none⟩) qs.length pc]) base (ps.map Cl.xs) ks (qs.map Cl.xs)) := ⟨_, _, _, rfl, unhide HLN, unhide HKY, unhide HPO⟩
    have RA5 := HRA
    have RB5 := HRB
    have HC5 := HC2
    have HM5 := hide (hM2.mono hlo)
    have hx5 := (unhide HPO)
    rw [hm] at hx5 hnc hl0
    have HX5 := hide hx5
    have hm1 : (1 : Int) ≤ ((m + 1 : Nat) : Int) := by omega
    have hm2 : (0 : Int) < ((m + 1 : Nat) : Int) := by omega
    rw [hm] at f3 HRA RA5 ⊢
    have HM := hide hm
    clear hm hx5 hn0
    rcases (show pc = 1 ∨ ∃ c, pc = c + 2 from if h9 : pc = 1 then Or.inl h9 else Or.inr ⟨pc - 2, by omega⟩) with rfl | ⟨c, rfl⟩
    · obtain rfl : m = 0 := by omega
      have hte : (qs.map Cl.xs).tail = [] := List.eq_nil_of_length_eq_zero (by rw [List.length_tail, List.length_map]; have := unhide HM; omega)
      have HSG : Hid (SgS (fun k => k ≠ w.heap.size ∧ k ≠ w.heap.size + 1 ∧ k < w5.heap.size) w5 (.agg #[.int .i64 base, .slice la ps.length lc, .slice ka ks.length kc, .slice (some ⟨g, 0, none⟩) 0 0]) base (ps.map Cl.xs) (ks) ((qs.map Cl.xs).tail)) := by
        rw [hte]
        exact ⟨_, _, _, rfl, unhide HLN, unhide HKY, SsS.nil _ _ _ _ _ (Nat.zero_le _)⟩
      clear hte
      obtain ⟨s0, s1, s2, s3, -⟩ := ((unhide RA5).put3 (u := .slice (some ⟨g, 0, none⟩) 0 0)).facts
      obtain ⟨u0, u1, u2, u3, v0, v1, v2, v3⟩ := ((unhide RB5).other (b' := w.heap.size) (o := 3) (u := .slice (some ⟨g, 0, none⟩) 0 0) (by omega)).facts
      obtain ⟨x0, x1, x2, x3, y0, y1, y2, y3⟩ := (unhide RA5).facts
      go_wp2_with fail
      obtain ⟨e0, e1, e2, e3, -⟩ := ((((((unhide RB5).other (b' := w.heap.size) (o := 3) (u := .slice (some ⟨g, 0, none⟩) 0 0) (by omega)).put0 (u := .int .i64 base)).put1 (u := .slice la ps.length lc)).put2 (u := .slice ka ks.length kc)).put3 (u := .slice (some ⟨g, 0, none⟩) 0 0)).facts
      have hBW := bput4 (bput (o := 3) (Below.refl w.heap.size w5) (Nat.le_refl _) (.slice (some ⟨g, 0, none⟩) 0 0)) (Nat.le_succ _) (.int .i64 base) (.slice la ps.length lc) (.slice ka ks.length kc) (.slice (some ⟨g, 0, none⟩) 0 0)
      have hzW : w5.heap.size ≤ (((((w5.setCell ⟨w.heap.size, 3, none⟩ (.slice (some ⟨g, 0, none⟩) 0 0)).setCell ⟨w.heap.size + 1, 0, none⟩ (.int .i64 base)).setCell ⟨w.heap.size + 1, 1, none⟩ (.slice la ps.length lc)).setCell ⟨w.heap.size + 1, 2, none⟩ (.slice ka ks.length kc)).setCell ⟨w.heap.size + 1, 3, none⟩ (.slice (some ⟨g, 0, none⟩) 0 0)).heap.size := hBW.size
      have hEW : ∀ k, k ≠ w.heap.size → k ≠ w.heap.size + 1 → (((((w5.setCell ⟨w.heap.size, 3, none⟩ (.slice (some ⟨g, 0, none⟩) 0 0)).setCell ⟨w.heap.size + 1, 0, none⟩ (.int .i64 base)).setCell ⟨w.heap.size + 1, 1, none⟩ (.slice la ps.length lc)).setCell ⟨w.heap.size + 1, 2, none⟩ (.slice ka ks.length kc)).setCell ⟨w.heap.size + 1, 3, none⟩ (.slice (some ⟨g, 0, none⟩) 0 0)).heap[k]? = w5.heap[k]? := fun k k1 k2 => by
        rw [Below.heap_setCell _ _ _ _ (by exact k2), Below.heap_setCell _ _ _ _ (by exact k2), Below.heap_setCell _ _ _ _ (by exact k2), Below.heap_setCell _ _ _ _ (by exact k2)]
        exact Below.heap_setCell _ _ _ _ (by exact k1)
      have hsd := ((unhide HSG).same (fun k hk => hEW k hk.1 hk.2.1)).rd (fun k hk => Nat.lt_of_lt_of_le hk.2.2 hzW)
      exact bodyPost_ret (v := .agg #[.int .i64 base, .slice la ps.length lc, .slice ka ks.length kc, .slice (some ⟨g, 0, none⟩) 0 0]) (by simp [results, Try.results15, go_sem, e0, e1, e2, e3]) rfl ⟨⟨_, rfl, hsd⟩, (unhide HC5).keep hBW (by omega), (unhide HM5).trans (Below.mv (hBW.mono hlo) D), ⟨((unhide HOLD).same (fun k hk => hEW k hk.1 hk.2.1)).rd (fun k hk => Nat.lt_of_lt_of_le hk.2.2 hzW), fun b c0 c1 c2 c3 hbD hr => World.rowIs.of_block (unhide HROW b c0 c1 c2 c3 hbD hr) (hEW b (by have := World.rowIs.lt hr; omega) (by have := World.rowIs.lt hr; omega))⟩⟩

    · have HSG : Hid (SgS (fun k => k ≠ w.heap.size ∧ k ≠ w.heap.size + 1 ∧ k < w5.heap.size) w5 (.agg #[.int .i64 base, .slice la ps.length lc, .slice ka ks.length kc, .slice (some ⟨g, 1, none⟩) m (c + 1)]) base (ps.map Cl.xs) (ks) ((qs.map Cl.xs).tail)) := ⟨_, _, _, rfl, unhide HLN, unhide HKY, (unhide HX5).tail⟩
      obtain ⟨s0, s1, s2, s3, -⟩ := ((unhide RA5).put3 (u := .slice (some ⟨g, 1, none⟩) m (c + 1))).facts
      obtain ⟨u0, u1, u2, u3, v0, v1, v2, v3⟩ := ((unhide RB5).other (b' := w.heap.size) (o := 3) (u := .slice (some ⟨g, 1, none⟩) m (c + 1)) (by omega)).facts
      obtain ⟨x0, x1, x2, x3, y0, y1, y2, y3⟩ := (unhide RA5).facts
      go_wp2_with fail
      obtain ⟨e0, e1, e2, e3, -⟩ := ((((((unhide RB5).other (b' := w.heap.size) (o := 3) (u := .slice (some ⟨g, 1, none⟩) m (c + 1)) (by omega)).put0 (u := .int .i64 base)).put1 (u := .slice la ps.length lc)).put2 (u := .slice ka ks.length kc)).put3 (u := .slice (some ⟨g, 1, none⟩) m (c + 1))).facts
      have hBW := bput4 (bput (o := 3) (Below.refl w.heap.size w5) (Nat.le_refl _) (.slice (some ⟨g, 1, none⟩) m (c + 1))) (Nat.le_succ _) (.int .i64 base) (.slice la ps.length lc) (.slice ka ks.length kc) (.slice (some ⟨g, 1, none⟩) m (c + 1))
      have hzW : w5.heap.size ≤ (((((w5.setCell ⟨w.heap.size, 3, none⟩ (.slice (some ⟨g, 1, none⟩) m (c + 1))).setCell ⟨w.heap.size + 1, 0, none⟩ (.int .i64 base)).setCell ⟨w.heap.size + 1, 1, none⟩ (.slice la ps.length lc)).setCell ⟨w.heap.size + 1, 2, none⟩ (.slice ka ks.length kc)).setCell ⟨w.heap.size + 1, 3, none⟩ (.slice (some ⟨g, 1, none⟩) m (c + 1))).heap.size := hBW.size
      have hEW : ∀ k, k ≠ w.heap.size → k ≠ w.heap.size + 1 → (((((w5.setCell ⟨w.heap.size, 3, none⟩ (.slice (some ⟨g, 1, none⟩) m (c + 1))).setCell ⟨w.heap.size + 1, 0, none⟩ (.int .i64 base)).setCell ⟨w.heap.size + 1, 1, none⟩ (.slice la ps.length lc)).setCell ⟨w.heap.size + 1, 2, none⟩ (.slice ka ks.length kc)).setCell ⟨w.heap.size + 1, 3, none⟩ (.slice (some ⟨g, 1, none⟩) m (c + 1))).heap[k]? = w5.heap[k]? := fun k k1 k2 => by
        rw [Below.heap_setCell _ _ _ _ (by exact k2), Below.heap_setCell _ _ _ _ (by exact k2), Below.heap_setCell _ _ _ _ (by exact k2), Below.heap_setCell _ _ _ _ (by exact k2)]
        exact Below.heap_setCell _ _ _ _ (by exact k1)
      have hsd := ((unhide HSG).same (fun k hk => hEW k hk.1 hk.2.1)).rd (fun k hk => Nat.lt_of_lt_of_le hk.2.2 hzW)
      exact bodyPost_ret (v := .agg #[.int .i64 base, .slice la ps.length lc, .slice ka ks.length kc, .slice (some ⟨g, 1, none⟩) m (c + 1)]) (by simp [results, Try.results15, go_sem, e0, e1, e2, e3]) rfl ⟨⟨_, rfl, hsd⟩, (unhide HC5).keep hBW (by omega), (unhide HM5).trans (Below.mv (hBW.mono hlo) D), ⟨((unhide HOLD).same (fun k hk => hEW k hk.1 hk.2.1)).rd (fun k hk => Nat.lt_of_lt_of_le hk.2.2 hzW), fun b c0 c1 c2 c3 hbD hr => World.rowIs.of_block (unhide HROW b c0 c1 c2 c3 hbD hr) (hEW b (by have := World.rowIs.lt hr; omega) (by have := World.rowIs.lt hr; omega))⟩⟩

end Go.Proofs.Ytkajdhliejjohaa
