import Derived.Test.YtkajdhliejjohaaSp3
namespace Go.Proofs.Ytkajdhliejjohaa
open Go.RowKit

/-- A list written out, in a block of its own. -/
theorem lit_s {mk : Int → Value} {S : Nat → Prop} {w : World} {b n : Nat} {cs : Array Value} {t : TypeId} {f : Nat × Nat} {xs : List Int} (h : w.heap[b]? = some (.cells cs t f)) (hS : S b) (hl : xs.length = n) (hn : n ≤ maxLen) (hc : cs.toList = xs.map mk) : SlS mk S w (.slice (some ⟨b, 0, none⟩) n n) xs := by
  refine ⟨_, n, by rw [hl], by omega, fun _ => ⟨b, 0, rfl, hS, fun i hi => ?_⟩⟩
  unfold World.cell?
  rw [Nat.zero_add]
  have e : cs[i]? = some (mk (xs[i]?.getD 0)) := by
    rw [← Array.getElem?_toList, hc, List.getElem?_map, List.getElem?_eq_getElem hi]
    rfl
  simp [h, e]

set_option maxHeartbeats 8000000 in
set_option maxRecDepth 100000 in
theorem l4spoil_3 (N D lo m1 m2 : Nat) (xs : List Int) (base : Int) (lv kv pv : Value) (ps qs : List (Cl Int)) (ks : List Int) (w : World) (h : CdAt N D w xs) (hx : Cod xs) (hD : D < lo) (hlo : lo ≤ w.heap.size) (hs : SegP lo m1 m2 w lv kv pv ps qs ks) (hb0 : 0 ≤ base) (hb1 : base ≤ 1000) (hk : xs.headD 0 % 10 = 3) (hql : qs.length ≤ 1048576) (hpl : ps.length ≤ 1048576) :
    Calls Try.prog 15 #[.agg #[.int .i64 base, lv, kv, pv], .pointer (some ⟨D, 0, none⟩)] w (Spoilt N D lo w xs.tail.tail (base) (ps.map Cl.xs) (ks) (qs.map Cl.xs ++ [[base]]) (fun _ => True)) := by
  obtain ⟨i0, hi, hz0, hz1, hz2⟩ := info_parts Try.zinInt
  have hb01 := And.intro hb0 hb1
  clear hb01
  have HX := hide hx
  have hh := hx.head
  have hh2 := hx.tail.head
  obtain ⟨k, hy⟩ : ∃ y, xs.headD 0 = y := ⟨_, rfl⟩
  obtain ⟨y, hy2⟩ : ∃ y, xs.tail.headD 0 = y := ⟨_, rfl⟩
  rw [hy] at hk hh
  rw [hy2] at hh2
  have hql2 := And.intro hql hpl
  clear hql2
  have HY := hide hy
  have HY2 := hide hy2
  have HS := hide hs
  obtain ⟨la, lc, rfl⟩ := own_is hs.ln.own
  obtain ⟨ka, kc, rfl⟩ := own_is hs.ky
  obtain ⟨pa, pc, rfl⟩ := own_is hs.po.own
  have hb00 := below2 w (.cells #[.int .i64 base, .slice la ps.length lc, .slice ka ks.length kc, .slice pa qs.length pc] 28) (.cells #[.int .i64 0, .slice none 0 0, .slice none 0 0, .slice none 0 0] 28)
  have RA := (Row4.new w 28 (.int .i64 base) (.slice la ps.length lc) (.slice ka ks.length kc) (.slice pa qs.length pc)).alloc (.cells #[.int .i64 0, .slice none 0 0, .slice none 0 0, .slice none 0 0] 28)
  have RB := Row4.new (w.alloc (.cells #[.int .i64 base, .slice la ps.length lc, .slice ka ks.length kc, .slice pa qs.length pc] 28)) 28 (.int .i64 0) (.slice none 0 0) (.slice none 0 0) (.slice none 0 0)
  rw [sz_alloc] at RB
  have hzV : ((w.alloc (.cells #[.int .i64 base, .slice la ps.length lc, .slice ka ks.length kc, .slice pa qs.length pc] 28)).alloc (.cells #[.int .i64 0, .slice none 0 0, .slice none 0 0, .slice none 0 0] 28)).heap.size = w.heap.size + 2 := by simp
  have H := hide (h.keep hb00 (by omega))
  clear hx hy hy2 hs h
  go_enter Try.func15, Try.ntmps15
  go_wp2_with fail
  generalize (w.alloc (.cells #[.int .i64 base, .slice la ps.length lc, .slice ka ks.length kc, .slice pa qs.length pc] 28)).alloc (.cells #[.int .i64 0, .slice none 0 0, .slice none 0 0, .slice none 0 0] 28) = V at *
  have hVz' : w.heap.size + 2 ≤ V.heap.size := by omega
  clear hzV
  refine (next_any N D xs V (unhide H) (unhide HX)).mono ?_
  rintro e w1 ⟨he, hc1, ho1⟩
  rw [unhide HY] at he
  subst he
  have hz1' : V.heap.size ≤ w1.heap.size := Nat.le_of_eq ho1.size.symm
  have RA1 := RA.mv (ho1.mv V.heap.size) (by omega) (by omega)
  have RB1 := RB.mv (ho1.mv V.heap.size) (by omega) (by omega)
  have hM1 : Mv w.heap.size D w w1 := (Below.mv hb00 D).trans (ho1.mv w.heap.size)
  clear RA RB ho1 hb00 H
  go_wp2_with fail
  refine (next_any N D xs.tail w1 hc1 (unhide HX).tail).mono ?_
  rintro e w2 ⟨he, hc2, ho2⟩
  rw [unhide HY2] at he
  subst he
  have hz2' : w1.heap.size ≤ w2.heap.size := Nat.le_of_eq ho2.size.symm
  have hZ2 : w.heap.size + 2 ≤ w2.heap.size := by omega
  have HRA := hide (RA1.mv (ho2.mv w1.heap.size) (by omega) (by omega))
  have HRB := hide (RB1.mv (ho2.mv w1.heap.size) (by omega) (by omega))
  have hM2 := hM1.trans (ho2.mv w.heap.size)
  have HC2 := hide hc2
  have HE2 : Hid (∀ k, lo ≤ k → k < w.heap.size → w2.heap[k]? = w.heap[k]?) := fun k k1 k2 => hM2.block k k2 (by omega)
  have HS2 := hide ((unhide HS).same (w' := w2) (unhide HE2))
  obtain ⟨f0, f1, f2, f3, z0, z1, z2, z3⟩ := (unhide HRA).facts
  obtain ⟨g0, g1, g2, g3, t0, t1, t2, t3⟩ := (unhide HRB).facts
  clear RA1 RB1 hc1 hc2 ho2 hM1 hz1' hz2' hVz'
  have ho1 := (unhide HS).o1
  have ho2 := (unhide HS).o2
  obtain ⟨j0, hj, hy0, hy1, hy2⟩ := info_parts Try.zinIntS
  have hb3 := below2 w2 (.cells #[.int .i64 base] 3) (.cells #[.slice (some ⟨w2.heap.size, 0, none⟩) 1 1] 25)
  have hzA : ((w2.alloc (.cells #[.int .i64 base] 3)).alloc (.cells #[.slice (some ⟨w2.heap.size, 0, none⟩) 1 1] 25)).heap.size = w2.heap.size + 2 := by simp
  have hlit : ((w2.alloc (.cells #[.int .i64 base] 3)).alloc (.cells #[.slice (some ⟨w2.heap.size, 0, none⟩) 1 1] 25)).heap[w2.heap.size]? = some (.cells #[.int .i64 base] 3 (0, 0)) := by
    show ((w2.heap.push _).push _)[w2.heap.size]? = _
    rw [Array.getElem?_push_lt (by simp)]
    simp
  have HKO := hide (((unhide HS2).po.own.alloc (.cells #[.int .i64 base] 3)).alloc (.cells #[.slice (some ⟨w2.heap.size, 0, none⟩) 1 1] 25))
  have hnew : ∀ j u, [Value.slice (some ⟨w2.heap.size, 0, none⟩) 1 1][j]? = some u → ((w2.alloc (.cells #[.int .i64 base] 3)).alloc (.cells #[.slice (some ⟨w2.heap.size, 0, none⟩) 1 1] 25)).cell? ((⟨w2.heap.size + 1, 0, none⟩ : Addr).add j) = some u := by
    have := cell_one_new (w2.alloc (.cells #[.int .i64 base] 3)) (.slice (some ⟨w2.heap.size, 0, none⟩) 1 1) 25
    rw [sz_alloc] at this
    exact this
  go_wp2_with (at_builtin; refine wpList_append_own_at _ rfl _ _ 26 rfl lo 25 j0 (.slice none 0 0) 1 24 Try.underlying26 hj hy0 hy1 hy2 rfl (by decide) (.slice pa qs.length pc) _ _ rfl (own_low (unhide HKO) (by omega)) ⟨w2.heap.size + 1, 0, none⟩ 1 1 [.slice (some ⟨w2.heap.size, 0, none⟩) 1 1] rfl rfl hnew (by intro u hu; simp at hu; subst hu; rfl) (by unfold maxLen; omega) (by omega) (by rw [hzA]; omega) ?_)
  intro v5 w5 h5 hg5 _ ho5
  have hg5' : ((w2.alloc (.cells #[.int .i64 base] 3)).alloc (.cells #[.slice (some ⟨w2.heap.size, 0, none⟩) 1 1] 25)).grownBy w5 (Value.slice pa qs.length pc).ownBlock := hg5
  have ho5' : v5.ownBlock = (Value.slice pa qs.length pc).ownBlock ∨ v5.ownBlock = some ((w2.alloc (.cells #[.int .i64 base] 3)).alloc (.cells #[.slice (some ⟨w2.heap.size, 0, none⟩) 1 1] 25)).heap.size := by rw [hzA]; simpa using ho5
  generalize (w2.alloc (.cells #[.int .i64 base] 3)).alloc (.cells #[.slice (some ⟨w2.heap.size, 0, none⟩) 1 1] 25) = w3 at hg5' ho5' hb3 hzA hlit
  have hz3 : w2.heap.size + 2 ≤ w3.heap.size := by omega
  have hz5 : w3.heap.size ≤ w5.heap.size := hg5'.size
  have HOB : Hid (∀ g, (Value.slice pa qs.length pc).ownBlock = some g → m2 ≤ g ∧ g < w.heap.size) := fun g hg => (unhide HS).po.own.lt g hg
  have HE5 : Hid (∀ k, (∀ g, (Value.slice pa qs.length pc).ownBlock = some g → k ≠ g) → k < w2.heap.size → w5.heap[k]? = w2.heap[k]?) := fun k k1 k2 => (hg5'.block k (by omega) (fun e => k1 k e.symm rfl)).trans (hb3.block k k2)
  have RA5 := hide ((unhide HRA).blk (unhide HE5 w.heap.size (fun g hg => by have := unhide HOB g hg; omega) (by omega)))
  have RB5 := hide ((unhide HRB).blk (unhide HE5 (w.heap.size + 1) (fun g hg => by have := unhide HOB g hg; omega) (by omega)))
  have hB5 : Below lo w2 w5 := (hb3.mono (by omega)).grown hg5' (by omega) (fun j hj => by have := unhide HOB j hj; omega)
  have HC5 := hide ((unhide HC2).keep hB5 hD)
  have HM5 := hide ((hM2.mono hlo).trans (Below.mv hB5 D))
  have hlit5 : w5.heap[w2.heap.size]? = some (.cells #[.int .i64 base] 3 (0, 0)) := (hg5'.block _ (by omega) (fun e => by have := unhide HOB _ e.symm; omega)).trans hlit
  have hvb : ∀ g, v5.ownBlock = some g → (fun k => k ≠ w.heap.size ∧ k ≠ w.heap.size + 1 ∧ k < w5.heap.size) g := fun g hg => by
    rcases ho5' with e | e
    · rw [e] at hg
      have := unhide HOB g hg
      exact ⟨by omega, by omega, by omega⟩
    · rw [e] at hg
      have : w3.heap.size = g := Option.some.inj hg
      have := h5.lt g (by rw [e]; exact hg)
      exact ⟨by omega, by omega, by omega⟩
  have hnr : ∀ q ∈ qs, 0 < q.xs.length → (fun k => k ≠ w.heap.size ∧ k ≠ w.heap.size + 1 ∧ k < w5.heap.size) q.b ∧ w5.heap[q.b]? = w.heap[q.b]? := fun q hq h0 => by
    have q1 := (unhide HS).po.lo q hq h0
    have q2 := ((unhide HS).po.ok q hq).lt h0
    exact ⟨⟨by omega, by omega, by omega⟩, (unhide HE5 q.b (fun g hg e => (unhide HS).po.not_row (by decide) ((unhide HS).po.ok q hq) rfl h0 (by rw [e]; exact hg.symm)) (by omega)).trans (unhide HE2 q.b (by omega) (by omega))⟩
  have hps5 : SsS mI (fun k => k ≠ w.heap.size ∧ k ≠ w.heap.size + 1 ∧ k < w5.heap.size) w5 v5 (qs.map Cl.xs ++ [[base]]) := row_push_s h5 hvb (by simp) (ll_vs (unhide HS).po hnr) (lit_s hlit5 ⟨by omega, by omega, by omega⟩ rfl (by unfold maxLen; omega) rfl)
  obtain ⟨g5, c5, rfl⟩ := ownsRow_succ h5
  have HSG : Hid (SgS (fun k => k ≠ w.heap.size ∧ k ≠ w.heap.size + 1 ∧ k < w5.heap.size) w5 (.agg #[.int .i64 base, .slice la ps.length lc, .slice ka ks.length kc, .slice (some ⟨g5, 0, none⟩) (qs.length + 1) c5]) base (ps.map Cl.xs) ks (qs.map Cl.xs ++ [[base]])) :=
    ⟨_, _, _, rfl, (unhide HS).lines (fun k k1 k2 k3 => ⟨⟨by omega, by omega, by omega⟩, (unhide HE5 k (fun g hg => by have := unhide HOB g hg; omega) (by omega)).trans (unhide HE2 k (by omega) (by omega))⟩), (unhide HS).keys (fun k k1 k2 k3 => ⟨⟨by omega, by omega, by omega⟩, (unhide HE5 k (fun g hg => by have := unhide HOB g hg; omega) (by omega)).trans (unhide HE2 k (by omega) (by omega))⟩), hps5⟩
  clear h5 hg5 hg5' ho5 ho5' hb3 hzA hB5 hvb hnr hps5 hlit hlit5 hnew
  clear f0 f1 f2 f3 z0 z1 z2 z3 g0 g1 g2 g3 t0 t1 t2 t3
  obtain ⟨s0, s1, s2, s3, -⟩ := ((unhide RA5).put3 (u := .slice (some ⟨g5, 0, none⟩) (qs.length + 1) c5)).facts
  obtain ⟨u0, u1, u2, u3, v0, v1, v2, v3⟩ := ((unhide RB5).other (b' := w.heap.size) (o := 3) (u := .slice (some ⟨g5, 0, none⟩) (qs.length + 1) c5) (by omega)).facts
  obtain ⟨x0, x1, x2, x3, y0, y1, y2, y3⟩ := (unhide RA5).facts
  go_wp2_with fail
  obtain ⟨e0, e1, e2, e3, -⟩ := ((((((unhide RB5).other (b' := w.heap.size) (o := 3) (u := .slice (some ⟨g5, 0, none⟩) (qs.length + 1) c5) (by omega)).put0 (u := .int .i64 base)).put1 (u := .slice la ps.length lc)).put2 (u := .slice ka ks.length kc)).put3 (u := .slice (some ⟨g5, 0, none⟩) (qs.length + 1) c5)).facts
  have hBW := bput4 (bput (o := 3) (Below.refl w.heap.size w5) (Nat.le_refl _) (.slice (some ⟨g5, 0, none⟩) (qs.length + 1) c5)) (Nat.le_succ _) (.int .i64 base) (.slice la ps.length lc) (.slice ka ks.length kc) (.slice (some ⟨g5, 0, none⟩) (qs.length + 1) c5)
  have hzW : w5.heap.size ≤ (((((w5.setCell ⟨w.heap.size, 3, none⟩ (.slice (some ⟨g5, 0, none⟩) (qs.length + 1) c5)).setCell ⟨w.heap.size + 1, 0, none⟩ (.int .i64 base)).setCell ⟨w.heap.size + 1, 1, none⟩ (.slice la ps.length lc)).setCell ⟨w.heap.size + 1, 2, none⟩ (.slice ka ks.length kc)).setCell ⟨w.heap.size + 1, 3, none⟩ (.slice (some ⟨g5, 0, none⟩) (qs.length + 1) c5)).heap.size := hBW.size
  have hEW : ∀ k, k ≠ w.heap.size → k ≠ w.heap.size + 1 → (((((w5.setCell ⟨w.heap.size, 3, none⟩ (.slice (some ⟨g5, 0, none⟩) (qs.length + 1) c5)).setCell ⟨w.heap.size + 1, 0, none⟩ (.int .i64 base)).setCell ⟨w.heap.size + 1, 1, none⟩ (.slice la ps.length lc)).setCell ⟨w.heap.size + 1, 2, none⟩ (.slice ka ks.length kc)).setCell ⟨w.heap.size + 1, 3, none⟩ (.slice (some ⟨g5, 0, none⟩) (qs.length + 1) c5)).heap[k]? = w5.heap[k]? := fun k k1 k2 => by
    rw [Below.heap_setCell _ _ _ _ (by exact k2), Below.heap_setCell _ _ _ _ (by exact k2), Below.heap_setCell _ _ _ _ (by exact k2), Below.heap_setCell _ _ _ _ (by exact k2)]
    exact Below.heap_setCell _ _ _ _ (by exact k1)
  have hsd := ((unhide HSG).same (fun k hk => hEW k hk.1 hk.2.1)).rd (fun k hk => Nat.lt_of_lt_of_le hk.2.2 hzW)
  exact bodyPost_ret (v := .agg #[.int .i64 base, .slice la ps.length lc, .slice ka ks.length kc, .slice (some ⟨g5, 0, none⟩) (qs.length + 1) c5]) (by simp [results, Try.results15, go_sem, e0, e1, e2, e3]) rfl ⟨⟨_, rfl, hsd⟩, (unhide HC5).keep hBW (by omega), (unhide HM5).trans (Below.mv (hBW.mono hlo) D), trivial⟩

set_option maxHeartbeats 8000000 in
set_option maxRecDepth 100000 in
theorem l4spoil_8 (N D lo m1 m2 : Nat) (xs : List Int) (base : Int) (lv kv pv : Value) (ps qs : List (Cl Int)) (ks : List Int) (w : World) (h : CdAt N D w xs) (hx : Cod xs) (hD : D < lo) (hlo : lo ≤ w.heap.size) (hs : SegP lo m1 m2 w lv kv pv ps qs ks) (hb0 : 0 ≤ base) (hb1 : base ≤ 1000) (hk : xs.headD 0 % 10 = 8) (hql : qs.length ≤ 1048576) (hpl : ps.length ≤ 1048576) :
    Calls Try.prog 15 #[.agg #[.int .i64 base, lv, kv, pv], .pointer (some ⟨D, 0, none⟩)] w (Spoilt N D lo w xs.tail.tail (base) (ps.map Cl.xs ++ [[97, 98]]) (ks) (qs.map Cl.xs) (fun _ => True)) := by
  obtain ⟨i0, hi, hz0, hz1, hz2⟩ := info_parts Try.zinInt
  have hb01 := And.intro hb0 hb1
  clear hb01
  have HX := hide hx
  have hh := hx.head
  have hh2 := hx.tail.head
  obtain ⟨k, hy⟩ : ∃ y, xs.headD 0 = y := ⟨_, rfl⟩
  obtain ⟨y, hy2⟩ : ∃ y, xs.tail.headD 0 = y := ⟨_, rfl⟩
  rw [hy] at hk hh
  rw [hy2] at hh2
  have hql2 := And.intro hql hpl
  clear hql2
  have HY := hide hy
  have HY2 := hide hy2
  have HS := hide hs
  obtain ⟨la, lc, rfl⟩ := own_is hs.ln.own
  obtain ⟨ka, kc, rfl⟩ := own_is hs.ky
  obtain ⟨pa, pc, rfl⟩ := own_is hs.po.own
  have hb00 := below2 w (.cells #[.int .i64 base, .slice la ps.length lc, .slice ka ks.length kc, .slice pa qs.length pc] 28) (.cells #[.int .i64 0, .slice none 0 0, .slice none 0 0, .slice none 0 0] 28)
  have RA := (Row4.new w 28 (.int .i64 base) (.slice la ps.length lc) (.slice ka ks.length kc) (.slice pa qs.length pc)).alloc (.cells #[.int .i64 0, .slice none 0 0, .slice none 0 0, .slice none 0 0] 28)
  have RB := Row4.new (w.alloc (.cells #[.int .i64 base, .slice la ps.length lc, .slice ka ks.length kc, .slice pa qs.length pc] 28)) 28 (.int .i64 0) (.slice none 0 0) (.slice none 0 0) (.slice none 0 0)
  rw [sz_alloc] at RB
  have hzV : ((w.alloc (.cells #[.int .i64 base, .slice la ps.length lc, .slice ka ks.length kc, .slice pa qs.length pc] 28)).alloc (.cells #[.int .i64 0, .slice none 0 0, .slice none 0 0, .slice none 0 0] 28)).heap.size = w.heap.size + 2 := by simp
  have H := hide (h.keep hb00 (by omega))
  clear hx hy hy2 hs h
  go_enter Try.func15, Try.ntmps15
  go_wp2_with fail
  generalize (w.alloc (.cells #[.int .i64 base, .slice la ps.length lc, .slice ka ks.length kc, .slice pa qs.length pc] 28)).alloc (.cells #[.int .i64 0, .slice none 0 0, .slice none 0 0, .slice none 0 0] 28) = V at *
  have hVz' : w.heap.size + 2 ≤ V.heap.size := by omega
  clear hzV
  refine (next_any N D xs V (unhide H) (unhide HX)).mono ?_
  rintro e w1 ⟨he, hc1, ho1⟩
  rw [unhide HY] at he
  subst he
  have hz1' : V.heap.size ≤ w1.heap.size := Nat.le_of_eq ho1.size.symm
  have RA1 := RA.mv (ho1.mv V.heap.size) (by omega) (by omega)
  have RB1 := RB.mv (ho1.mv V.heap.size) (by omega) (by omega)
  have hM1 : Mv w.heap.size D w w1 := (Below.mv hb00 D).trans (ho1.mv w.heap.size)
  clear RA RB ho1 hb00 H
  go_wp2_with fail
  refine (next_any N D xs.tail w1 hc1 (unhide HX).tail).mono ?_
  rintro e w2 ⟨he, hc2, ho2⟩
  rw [unhide HY2] at he
  subst he
  have hz2' : w1.heap.size ≤ w2.heap.size := Nat.le_of_eq ho2.size.symm
  have hZ2 : w.heap.size + 2 ≤ w2.heap.size := by omega
  have HRA := hide (RA1.mv (ho2.mv w1.heap.size) (by omega) (by omega))
  have HRB := hide (RB1.mv (ho2.mv w1.heap.size) (by omega) (by omega))
  have hM2 := hM1.trans (ho2.mv w.heap.size)
  have HC2 := hide hc2
  have HE2 : Hid (∀ k, lo ≤ k → k < w.heap.size → w2.heap[k]? = w.heap[k]?) := fun k k1 k2 => hM2.block k k2 (by omega)
  have HS2 := hide ((unhide HS).same (w' := w2) (unhide HE2))
  obtain ⟨f0, f1, f2, f3, z0, z1, z2, z3⟩ := (unhide HRA).facts
  obtain ⟨g0, g1, g2, g3, t0, t1, t2, t3⟩ := (unhide HRB).facts
  clear RA1 RB1 hc1 hc2 ho2 hM1 hz1' hz2' hVz'
  have ho1 := (unhide HS).o1
  have ho2 := (unhide HS).o2
  obtain ⟨j0, hj, hy0, hy1, hy2⟩ := info_parts Try.zinByteS
  have hb3 := below2 w2 (.cells #[.int .u8 97, .int .u8 98] 5 (2, 3)) (.cells #[.slice (some ⟨w2.heap.size, 0, none⟩) 2 2] 22)
  have hzA : ((w2.alloc (.cells #[.int .u8 97, .int .u8 98] 5 (2, 3))).alloc (.cells #[.slice (some ⟨w2.heap.size, 0, none⟩) 2 2] 22)).heap.size = w2.heap.size + 2 := by simp
  have hlit : ((w2.alloc (.cells #[.int .u8 97, .int .u8 98] 5 (2, 3))).alloc (.cells #[.slice (some ⟨w2.heap.size, 0, none⟩) 2 2] 22)).heap[w2.heap.size]? = some (.cells #[.int .u8 97, .int .u8 98] 5 (2, 3)) := by
    show ((w2.heap.push _).push _)[w2.heap.size]? = _
    rw [Array.getElem?_push_lt (by simp)]
    simp
  have HKO := hide (((unhide HS2).ln.own.alloc (.cells #[.int .u8 97, .int .u8 98] 5 (2, 3))).alloc (.cells #[.slice (some ⟨w2.heap.size, 0, none⟩) 2 2] 22))
  have hnew : ∀ j u, [Value.slice (some ⟨w2.heap.size, 0, none⟩) 2 2][j]? = some u → ((w2.alloc (.cells #[.int .u8 97, .int .u8 98] 5 (2, 3))).alloc (.cells #[.slice (some ⟨w2.heap.size, 0, none⟩) 2 2] 22)).cell? ((⟨w2.heap.size + 1, 0, none⟩ : Addr).add j) = some u := by
    have := cell_one_new (w2.alloc (.cells #[.int .u8 97, .int .u8 98] 5 (2, 3))) (.slice (some ⟨w2.heap.size, 0, none⟩) 2 2) 22
    rw [sz_alloc] at this
    exact this
  have cv := Go.Joins.run_convert_bytes_const_at (P := Try.prog) w2 22 5 #[.int .u8 97, .int .u8 98] 2 2 w2.heap.size rfl Try.underlying22 Try.underlying5
  go_wp2_with (at_builtin; refine wpList_append_own_at _ rfl _ _ 24 rfl lo 22 j0 (.slice none 0 0) 1 24 Try.underlying24 hj hy0 hy1 hy2 rfl (by decide) (.slice la ps.length lc) _ _ rfl (own_low (unhide HKO) (by omega)) ⟨w2.heap.size + 1, 0, none⟩ 1 1 [.slice (some ⟨w2.heap.size, 0, none⟩) 2 2] rfl rfl hnew (by intro u hu; simp at hu; subst hu; rfl) (by unfold maxLen; omega) (by omega) (by rw [hzA]; omega) ?_)
  intro v5 w5 h5 hg5 _ ho5
  have hg5' : ((w2.alloc (.cells #[.int .u8 97, .int .u8 98] 5 (2, 3))).alloc (.cells #[.slice (some ⟨w2.heap.size, 0, none⟩) 2 2] 22)).grownBy w5 (Value.slice la ps.length lc).ownBlock := hg5
  have ho5' : v5.ownBlock = (Value.slice la ps.length lc).ownBlock ∨ v5.ownBlock = some ((w2.alloc (.cells #[.int .u8 97, .int .u8 98] 5 (2, 3))).alloc (.cells #[.slice (some ⟨w2.heap.size, 0, none⟩) 2 2] 22)).heap.size := by rw [hzA]; simpa using ho5
  generalize (w2.alloc (.cells #[.int .u8 97, .int .u8 98] 5 (2, 3))).alloc (.cells #[.slice (some ⟨w2.heap.size, 0, none⟩) 2 2] 22) = w3 at hg5' ho5' hb3 hzA hlit
  have hz3 : w2.heap.size + 2 ≤ w3.heap.size := by omega
  have hz5 : w3.heap.size ≤ w5.heap.size := hg5'.size
  have HOB : Hid (∀ g, (Value.slice la ps.length lc).ownBlock = some g → lo ≤ g ∧ g < w.heap.size) := fun g hg => (unhide HS).ln.own.lt g hg
  have HE5 : Hid (∀ k, (∀ g, (Value.slice la ps.length lc).ownBlock = some g → k ≠ g) → k < w2.heap.size → w5.heap[k]? = w2.heap[k]?) := fun k k1 k2 => (hg5'.block k (by omega) (fun e => k1 k e.symm rfl)).trans (hb3.block k k2)
  have RA5 := hide ((unhide HRA).blk (unhide HE5 w.heap.size (fun g hg => by have := unhide HOB g hg; omega) (by omega)))
  have RB5 := hide ((unhide HRB).blk (unhide HE5 (w.heap.size + 1) (fun g hg => by have := unhide HOB g hg; omega) (by omega)))
  have hB5 : Below lo w2 w5 := (hb3.mono (by omega)).grown hg5' (by omega) (fun j hj => by have := unhide HOB j hj; omega)
  have HC5 := hide ((unhide HC2).keep hB5 hD)
  have HM5 := hide ((hM2.mono hlo).trans (Below.mv hB5 D))
  have hlit5 : w5.heap[w2.heap.size]? = some (.cells #[.int .u8 97, .int .u8 98] 5 (2, 3)) := (hg5'.block _ (by omega) (fun e => by have := unhide HOB _ e.symm; omega)).trans hlit
  have hvb : ∀ g, v5.ownBlock = some g → (fun k => k ≠ w.heap.size ∧ k ≠ w.heap.size + 1 ∧ k < w5.heap.size) g := fun g hg => by
    rcases ho5' with e | e
    · rw [e] at hg
      have := unhide HOB g hg
      exact ⟨by omega, by omega, by omega⟩
    · rw [e] at hg
      have : w3.heap.size = g := Option.some.inj hg
      have := h5.lt g (by rw [e]; exact hg)
      exact ⟨by omega, by omega, by omega⟩
  have hnr : ∀ q ∈ ps, 0 < q.xs.length → (fun k => k ≠ w.heap.size ∧ k ≠ w.heap.size + 1 ∧ k < w5.heap.size) q.b ∧ w5.heap[q.b]? = w.heap[q.b]? := fun q hq h0 => by
    have q1 := (unhide HS).ln.lo q hq h0
    have q2 := ((unhide HS).ln.ok q hq).lt h0
    exact ⟨⟨by omega, by omega, by omega⟩, (unhide HE5 q.b (fun g hg e => (unhide HS).ln.not_row (by decide) ((unhide HS).ln.ok q hq) rfl h0 (by rw [e]; exact hg.symm)) (by omega)).trans (unhide HE2 q.b (by omega) (by omega))⟩
  have hps5 : SsS mB (fun k => k ≠ w.heap.size ∧ k ≠ w.heap.size + 1 ∧ k < w5.heap.size) w5 v5 (ps.map Cl.xs ++ [[97, 98]]) := row_push_s h5 hvb (by simp) (ll_vs (unhide HS).ln hnr) (lit_s hlit5 ⟨by omega, by omega, by omega⟩ rfl (by unfold maxLen; omega) rfl)
  obtain ⟨g5, c5, rfl⟩ := ownsRow_succ h5
  have HLG : Hid (∀ g, (Value.slice la ps.length lc).ownBlock = some g → g < m1) := (unhide HS).lg
  have HSG : Hid (SgS (fun k => k ≠ w.heap.size ∧ k ≠ w.heap.size + 1 ∧ k < w5.heap.size) w5 (.agg #[.int .i64 base, .slice (some ⟨g5, 0, none⟩) (ps.length + 1) c5, .slice ka ks.length kc, .slice pa qs.length pc]) base (ps.map Cl.xs ++ [[97, 98]]) ks (qs.map Cl.xs)) :=
    ⟨_, _, _, rfl, hps5, (unhide HS).keys (fun k k1 k2 k3 => ⟨⟨by omega, by omega, by omega⟩, (unhide HE5 k (fun g hg => by have := unhide HLG g hg; omega) (by omega)).trans (unhide HE2 k (by omega) (by omega))⟩), (unhide HS).posts (fun k k1 k3 => ⟨⟨by omega, by omega, by omega⟩, (unhide HE5 k (fun g hg => by have := unhide HLG g hg; omega) (by omega)).trans (unhide HE2 k (by omega) (by omega))⟩)⟩
  clear h5 hg5 hg5' ho5 ho5' hb3 hzA hB5 hvb hnr hps5 hlit hlit5 hnew
  clear f0 f1 f2 f3 z0 z1 z2 z3 g0 g1 g2 g3 t0 t1 t2 t3
  obtain ⟨s0, s1, s2, s3, -⟩ := ((unhide RA5).put1 (u := .slice (some ⟨g5, 0, none⟩) (ps.length + 1) c5)).facts
  obtain ⟨u0, u1, u2, u3, v0, v1, v2, v3⟩ := ((unhide RB5).other (b' := w.heap.size) (o := 1) (u := .slice (some ⟨g5, 0, none⟩) (ps.length + 1) c5) (by omega)).facts
  obtain ⟨x0, x1, x2, x3, y0, y1, y2, y3⟩ := (unhide RA5).facts
  go_wp2_with fail
  obtain ⟨e0, e1, e2, e3, -⟩ := ((((((unhide RB5).other (b' := w.heap.size) (o := 1) (u := .slice (some ⟨g5, 0, none⟩) (ps.length + 1) c5) (by omega)).put0 (u := .int .i64 base)).put1 (u := .slice (some ⟨g5, 0, none⟩) (ps.length + 1) c5)).put2 (u := .slice ka ks.length kc)).put3 (u := .slice pa qs.length pc)).facts
  have hBW := bput4 (bput (o := 1) (Below.refl w.heap.size w5) (Nat.le_refl _) (.slice (some ⟨g5, 0, none⟩) (ps.length + 1) c5)) (Nat.le_succ _) (.int .i64 base) (.slice (some ⟨g5, 0, none⟩) (ps.length + 1) c5) (.slice ka ks.length kc) (.slice pa qs.length pc)
  have hzW : w5.heap.size ≤ (((((w5.setCell ⟨w.heap.size, 1, none⟩ (.slice (some ⟨g5, 0, none⟩) (ps.length + 1) c5)).setCell ⟨w.heap.size + 1, 0, none⟩ (.int .i64 base)).setCell ⟨w.heap.size + 1, 1, none⟩ (.slice (some ⟨g5, 0, none⟩) (ps.length + 1) c5)).setCell ⟨w.heap.size + 1, 2, none⟩ (.slice ka ks.length kc)).setCell ⟨w.heap.size + 1, 3, none⟩ (.slice pa qs.length pc)).heap.size := hBW.size
  have hEW : ∀ k, k ≠ w.heap.size → k ≠ w.heap.size + 1 → (((((w5.setCell ⟨w.heap.size, 1, none⟩ (.slice (some ⟨g5, 0, none⟩) (ps.length + 1) c5)).setCell ⟨w.heap.size + 1, 0, none⟩ (.int .i64 base)).setCell ⟨w.heap.size + 1, 1, none⟩ (.slice (some ⟨g5, 0, none⟩) (ps.length + 1) c5)).setCell ⟨w.heap.size + 1, 2, none⟩ (.slice ka ks.length kc)).setCell ⟨w.heap.size + 1, 3, none⟩ (.slice pa qs.length pc)).heap[k]? = w5.heap[k]? := fun k k1 k2 => by
    rw [Below.heap_setCell _ _ _ _ (by exact k2), Below.heap_setCell _ _ _ _ (by exact k2), Below.heap_setCell _ _ _ _ (by exact k2), Below.heap_setCell _ _ _ _ (by exact k2)]
    exact Below.heap_setCell _ _ _ _ (by exact k1)
  have hsd := ((unhide HSG).same (fun k hk => hEW k hk.1 hk.2.1)).rd (fun k hk => Nat.lt_of_lt_of_le hk.2.2 hzW)
  exact bodyPost_ret (v := .agg #[.int .i64 base, .slice (some ⟨g5, 0, none⟩) (ps.length + 1) c5, .slice ka ks.length kc, .slice pa qs.length pc]) (by simp [results, Try.results15, go_sem, e0, e1, e2, e3]) rfl ⟨⟨_, rfl, hsd⟩, (unhide HC5).keep hBW (by omega), (unhide HM5).trans (Below.mv (hBW.mono hlo) D), trivial⟩

end Go.Proofs.Ytkajdhliejjohaa
