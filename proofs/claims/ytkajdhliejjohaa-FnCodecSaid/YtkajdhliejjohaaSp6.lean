import Derived.Test.YtkajdhliejjohaaSp5
import Derived.Deep.DeepCutAuto
namespace Go.Proofs.Ytkajdhliejjohaa
open Go.RowKit


set_option maxHeartbeats 8000000 in
set_option maxRecDepth 100000 in
theorem l4spoil_9 (N D lo m1 m2 : Nat) (xs : List Int) (base : Int) (lv kv pv : Value) (ps qs : List (Cl Int)) (ks : List Int) (w : World) (h : CdAt N D w xs) (hx : Cod xs) (hD : D < lo) (hlo : lo ≤ w.heap.size) (hs : SegP lo m1 m2 w lv kv pv ps qs ks) (hb0 : 0 ≤ base) (hb1 : base ≤ 1000) (hk : xs.headD 0 % 10 = 9) (i : Nat) (q : Cl Int) (hn0 : 0 < qs.length) (hql : qs.length ≤ 1048576) (hi9 : (xs.tail.headD 0).toNat % qs.length = i) (hqi : qs[i]? = some q) (hqx : q.xs.length ≤ 1048576) :
    Calls Try.prog 15 #[.agg #[.int .i64 base, lv, kv, pv], .pointer (some ⟨D, 0, none⟩)] w (Spoilt N D lo w xs.tail.tail (base) (ps.map Cl.xs) (ks) ((qs.map Cl.xs).set i (q.xs ++ [base])) (fun _ => True)) := by
  obtain ⟨i0, hi, hz0, hz1, hz2⟩ := info_parts Try.zinInt
  have hb01 := And.intro hb0 hb1
  clear hb01
  have HX := hide hx
  have hh := hx.head
  have hh2 := hx.tail.head
  obtain ⟨k, hy⟩ : ∃ y, xs.headD 0 = y := ⟨_, rfl⟩
  obtain ⟨y, hy2⟩ : ∃ y, xs.tail.headD 0 = y := ⟨_, rfl⟩
  rw [hy] at hk hh
  rw [hy2] at hh2
  have hz9 : (xs.tail.headD 0).toNat = y.toNat := by rw [hy2]
  rw [hz9] at hi9
  clear hz9
  have HI9 := hide hi9
  clear hi9
  have HY := hide hy
  have HY2 := hide hy2
  have HS := hide hs
  obtain ⟨la, lc, rfl⟩ := own_is hs.ln.own
  obtain ⟨ka, kc, rfl⟩ := own_is hs.ky
  obtain ⟨pa, pc, rfl⟩ := own_is hs.po.own
  have hb00 := below2 w (.cells #[.int .i64 base, .slice la ps.length lc, .slice ka ks.length kc, .slice pa qs.length pc] 28) (.cells #[.int .i64 0, .slice none 0 0, .slice none 0 0, .slice none 0 0] 28)
  have RA := (Row4.new w 28 (.int .i64 base) (.slice la ps.length lc) (.slice ka ks.length kc) (.slice pa qs.length pc)).alloc (.cells #[.int .i64 0, .slice none 0 0, .slice none 0 0, .slice none 0 0] 28)
  have RB := Row4.new (w.alloc (.cells #[.int .i64 base, .slice la ps.length lc, .slice ka ks.length kc, .slice pa qs.length pc] 28)) 28 (.int .i64 0) (.slice none 0 0) (.slice none 0 0) (.slice none 0 0)
  rw [sz_alloc] at RB
  have hzV : ((w.alloc (.cells #[.int .i64 base, .slice la ps.length lc, .slice ka ks.length kc, .slice pa qs.length pc] 28)).alloc (.cells #[.int .i64 0, .slice none 0 0, .slice none 0 0, .slice none 0 0] 28)).heap.size = w.heap.size + 2 := by simp
  have H := hide (h.keep hb00 (by omega))
  clear hx hy hy2 hs h
  go_enter Try.func15, Try.ntmps15
  go_wp2_with fail
  generalize (w.alloc (.cells #[.int .i64 base, .slice la ps.length lc, .slice ka ks.length kc, .slice pa qs.length pc] 28)).alloc (.cells #[.int .i64 0, .slice none 0 0, .slice none 0 0, .slice none 0 0] 28) = V at *
  have hVz' : w.heap.size + 2 ≤ V.heap.size := by omega
  clear hzV
  refine (next_any N D xs V (unhide H) (unhide HX)).mono ?_
  rintro e w1 ⟨he, hc1, ho1⟩
  rw [unhide HY] at he
  subst he
  have hz1' : V.heap.size ≤ w1.heap.size := Nat.le_of_eq ho1.size.symm
  have RA1 := RA.mv (ho1.mv V.heap.size) (by omega) (by omega)
  have RB1 := RB.mv (ho1.mv V.heap.size) (by omega) (by omega)
  have hM1 : Mv w.heap.size D w w1 := (Below.mv hb00 D).trans (ho1.mv w.heap.size)
  clear RA RB ho1 hb00 H
  go_wp2_with fail
  refine (next_any N D xs.tail w1 hc1 (unhide HX).tail).mono ?_
  rintro e w2 ⟨he, hc2, ho2⟩
  rw [unhide HY2] at he
  subst he
  have hz2' : w1.heap.size ≤ w2.heap.size := Nat.le_of_eq ho2.size.symm
  have hZ2 : w.heap.size + 2 ≤ w2.heap.size := by omega
  have HRA := hide (RA1.mv (ho2.mv w1.heap.size) (by omega) (by omega))
  have HRB := hide (RB1.mv (ho2.mv w1.heap.size) (by omega) (by omega))
  have hM2 := hM1.trans (ho2.mv w.heap.size)
  have HC2 := hide hc2
  have HE2 : Hid (∀ k, lo ≤ k → k < w.heap.size → w2.heap[k]? = w.heap[k]?) := fun k k1 k2 => hM2.block k k2 (by omega)
  have HS2 := hide ((unhide HS).same (w' := w2) (unhide HE2))
  obtain ⟨f0, f1, f2, f3, z0, z1, z2, z3⟩ := (unhide HRA).facts
  obtain ⟨g0, g1, g2, g3, t0, t1, t2, t3⟩ := (unhide HRB).facts
  clear RA1 RB1 hc1 hc2 ho2 hM1 hz1' hz2' hVz'
  have ho1 := (unhide HS).o1
  have ho2 := (unhide HS).o2
  have hi9 := unhide HI9
  have hlt : i < qs.length := by rw [← hi9]; exact Nat.mod_lt _ hn0
  have hd1 : ((qs.length : Int) == 0) = false := by simpa using (by omega : ¬ qs.length = 0)
  have hd2 : ¬ (qs.length : Int) = 0 := by omega
  have hyy : y = ((y.toNat : Nat) : Int) := by omega
  have hq1 : y.tmod (qs.length : Int) = (i : Int) := by rw [Int.tmod_eq_emod_of_nonneg hh2.1, hyy, ← hi9]; rfl
  have hq2 : y % (qs.length : Int) = (i : Int) := by rw [hyy, ← hi9]; rfl
  have hw1 : IntKind.i64.wrap (i : Int) = (i : Int) := k64i (by omega) (by omega)
  have hm2 : (0 : Int) < (qs.length : Int) := by omega
  have hm4 : (i : Int) < (qs.length : Int) := by omega
  clear hi9 hyy
  rcases (unhide HS2).po.own.2 with ⟨e9, hz9⟩ | ⟨g, cap, cur, e9, hbg, hgc, hnc, hcm, -⟩
  · omega
  · simp only [Value.slice.injEq] at e9
    obtain ⟨rfl, -, rfl⟩ := e9
    have hgw : m2 ≤ g ∧ g < w.heap.size := (unhide HS).po.own.lt g rfl
    have hq := hqi
    have hqm : q ∈ qs := List.mem_of_getElem? hq
    have hcg : w2.cell? ⟨g, i, none⟩ = some q.v := by
      rw [(unhide HS2).po.own.cellAt i (by omega), List.getElem?_map, hq]
      rfl
    have hfg : w2.frozen? ⟨g, i, none⟩ = false := (unhide HS2).po.own.frozenAt i
    have heo := (unhide HS2).eo q hqm
    obtain ⟨h0, hqo, hqb⟩ := heo
    obtain ⟨qa, qc, hqv⟩ := own_is hqo
    rw [hqv] at hcg hqo hqb
    have hA := below1 w2 (.cells #[.int .i64 base] 3)
    obtain ⟨p0, p1, p2, p3, -⟩ := ((unhide HRA).alloc (.cells #[.int .i64 base] 3)).facts
    have hbg2 : q.b ≠ g := fun e => (unhide HS).po.not_row (by decide) ((unhide HS).po.ok q hqm) rfl h0 (by rw [e]; rfl)
    have hbl : m2 ≤ q.b ∧ q.b < w.heap.size := ⟨(unhide HS).po.lo q hqm h0, ((unhide HS).po.ok q hqm).lt h0⟩
    have hcg2 : (w2.alloc (.cells #[.int .i64 base] 3)).cell? ⟨g, i, none⟩ = some (.slice qa q.xs.length qc) := by rw [hA.cell (p := ⟨g, i, none⟩) (by show g < w2.heap.size; omega)]; exact hcg
    have HQO := hide hqo
    have HQM := hide hqm
    have HQV := hide hqv
    have HQB := hide hqb
    have HQI := hide hqi
    have HFG := hide hfg
    have HSA : Hid (∀ w9 : World, (w2.alloc (.cells #[.int .i64 base] 3)).grownBy w9 (some q.b) → Row4 w9 w.heap.size 28 (.int .i64 base) (.slice la ps.length lc) (.slice ka ks.length kc) (.slice (some ⟨g, 0, none⟩) qs.length pc) ∧ w9.cell? ⟨g, i, none⟩ = some (.slice qa q.xs.length qc) ∧ w9.frozen? ⟨g, i, none⟩ = false) := fun w9 h9 => by
      have e1 : ∀ k, k ≠ q.b → k < w2.heap.size → w9.heap[k]? = w2.heap[k]? := fun k k1 k2 => (h9.block k (by rw [sz_alloc]; omega) (fun e => k1 (Option.some.inj e))).trans (hA.block k k2)
      have e2 := e1 g (fun e => hbg2 e.symm) (by omega)
      exact ⟨(unhide HRA).blk (e1 w.heap.size (by omega) (by omega)), by rw [World.cell?_of_block (w := w2) (a := ⟨g, i, none⟩) e2]; exact hcg, by rw [World.frozen?_of_block (w := w2) (a := ⟨g, i, none⟩) e2]; exact hfg⟩
    have HA := hide hA
    clear hgc hqo hqm hqv hqb hq hqi hA
    go_upto_region 23 with fail
    go_cut [7] (fun s7 wx => s7 = .int .i64 (i : Nat) ∧ (Row4 wx w.heap.size 28 (.int .i64 base) (.slice la ps.length lc) (.slice ka ks.length kc) (.slice (some ⟨g, 0, none⟩) qs.length pc) ∧ Row4 wx (w.heap.size + 1) 28 (.int .i64 0) (.slice none 0 0) (.slice none 0 0) (.slice none 0 0) ∧ SgS (fun k => k ≠ w.heap.size ∧ k ≠ w.heap.size + 1 ∧ k < wx.heap.size) wx (.agg #[.int .i64 base, .slice la ps.length lc, .slice ka ks.length kc, .slice (some ⟨g, 0, none⟩) qs.length pc]) base (ps.map Cl.xs) ks ((qs.map Cl.xs).set i (q.xs ++ [base])) ∧ Below lo w2 wx ∧ w2.heap.size + 1 ≤ wx.heap.size))
    case first =>
      go_region_law (refine step_append_lies _ rfl (.tmp 127) (.tmp 130) 25 rfl m2 3 i0 (.int .i64 0) 1 8 Try.underlying25 hi hz0 hz1 hz2 rfl (by decide) (.slice qa q.xs.length qc) q.xs.length (q.xs.map mI) (by first | (simp [Act.eval]; done) | (simp [Act.eval, Act.put]; done)) (by refine Pushd.own (w := w2) (o := .cells #[.int .i64 base] 3) ?_ (unhide HQO); exact ⟨rfl, rfl, rfl, rfl⟩) ⟨w2.heap.size, 0, none⟩ 1 1 [.int .i64 base] (by first | (simp [Act.eval]; done) | (simp [Act.eval, Act.put]; done)) rfl (by refine Pushd.news (w := w2) (cs := #[.int .i64 base]) (t := 3) ?_; exact ⟨rfl, rfl, rfl, rfl⟩) (by intro u hu; simp at hu; subst hu; rfl) (by decide) (by unfold maxLen; omega) (by omega) (by show m2 ≤ (w2.alloc _).heap.size; rw [sz_alloc]; omega) (w2.heap.size + 1) (sz_alloc w2 _) (fun gg cap' w4 q1 q2 q3 q4 => ?_); have HQ1 := hide q1; have hg4 : (w2.alloc (.cells #[.int .i64 base] 3)).grownBy w4 (some q.b) := ⟨q2.os, q2.tape, q2.output, q2.size, fun k k1 k2 => q2.block k k1 (by rw [unhide HQB]; exact k2)⟩; have hgg : gg = q.b ∨ gg = w2.heap.size + 1 := q3.imp (fun e => by rw [unhide HQB] at e; exact (Option.some.inj e).symm) id; obtain ⟨ra4, hc4, hf4⟩ := unhide HSA w4 hg4; have RA4 := hide ra4; obtain ⟨x0, x1, x2, x3, -⟩ := ra4.facts; clear q1 q2 q3 q4)
      all_goals
        obtain ⟨w5, hw5⟩ : ∃ w5, w5 = w4.setCell ⟨g, i, none⟩ (.slice (some ⟨gg, 0, none⟩) (q.xs.length + 1) cap') := ⟨_, rfl⟩
        have hz4 : w2.heap.size + 1 ≤ w4.heap.size := by have := hg4.size; rw [sz_alloc] at this; exact this
        have hz5 : w4.heap.size ≤ w5.heap.size := by rw [hw5, sz_put]; exact Nat.le_refl _
        have hgl : gg < w4.heap.size := ((unhide HQ1).lt gg rfl).2
        have HE4 : Hid (∀ k, k ≠ q.b → k < w2.heap.size → w4.heap[k]? = w2.heap[k]?) := fun k k1 k2 => (hg4.block k (by rw [sz_alloc]; omega) (fun e => k1 (Option.some.inj e))).trans ((unhide HA).block k k2)
        have HE5 : Hid (∀ k, k ≠ g → k ≠ q.b → k < w2.heap.size → w5.heap[k]? = w2.heap[k]?) := fun k k0 k1 k2 => by rw [hw5, Below.heap_setCell _ _ _ _ (by exact k0)]; exact unhide HE4 k k1 k2
        have hro4 : w4.ownsRow m2 25 1 (.slice (some ⟨g, 0, none⟩) qs.length pc) qs.length (qs.map Cl.v) := own_same (unhide HS2).po.own (fun k hk => by have : g = k := Option.some.inj hk; subst this; exact unhide HE4 g (fun e => hbg2 e.symm) (by omega))
        have hro5 : w5.ownsRow m2 25 1 (.slice (some ⟨g, 0, none⟩) qs.length pc) qs.length ((qs.map Cl.v).set i (.slice (some ⟨gg, 0, none⟩) (q.xs.length + 1) cap')) := by rw [hw5]; exact own_set hro4 hlt
        have hli5 : w5.ownsRow m2 3 1 (.slice (some ⟨gg, 0, none⟩) (q.xs.length + 1) cap') (q.xs.length + 1) ((q.xs ++ [base]).map mI) := by
          rw [hw5, List.map_append]
          exact own_same (unhide HQ1) (fun k hk => by have : gg = k := Option.some.inj hk; subst this; exact Below.heap_setCell _ _ _ _ (by show gg ≠ g; omega))
        have RA5 := hide ((unhide HRA).blk (unhide HE5 w.heap.size (by omega) (by omega) (by omega)))
        have RB5 := hide ((unhide HRB).blk (unhide HE5 (w.heap.size + 1) (by omega) (by omega) (by omega)))
        have hB5 : Below lo w2 w5 := by rw [hw5]; exact bput (((unhide HA).mono (by omega)).grown hg4 (by rw [sz_alloc]; omega) (fun j hj => by have : q.b = j := Option.some.inj hj; omega)) (by omega) _
        have hps5 : SsS mI (fun k => k ≠ w.heap.size ∧ k ≠ w.heap.size + 1 ∧ k < w5.heap.size) w5 (.slice (some ⟨g, 0, none⟩) qs.length pc) ((qs.map Cl.xs).set i (q.xs ++ [base])) := by
          refine row_set_s hro5 (fun k hk => by have : g = k := Option.some.inj hk; subst this; exact ⟨by omega, by omega, by omega⟩) (by simp) (by simpa using hlt) (fun j s hj hs => ?_) (own_s hli5 (fun k hk => by have : gg = k := Option.some.inj hk; subst this; exact ⟨by omega, by omega, by omega⟩))
          rw [List.getElem?_map] at hs ⊢
          obtain ⟨p, hp, rfl⟩ := Option.map_eq_some_iff.1 hs
          rw [hp]
          have hpm := List.mem_of_getElem? hp
          have hpo := (unhide HS).po.ok p hpm
          refine (hpo.same (w' := w5) (fun p0 => ?_)).s (fun p0 => ?_)
          · have b1 := (unhide HS).po.lo p hpm p0
            have b2 := hpo.lt p0
            refine (unhide HE5 p.b (fun e => (unhide HS).po.not_row (by decide) hpo rfl p0 (by rw [e]; rfl)) (fun e => ?_) (by omega)).trans (unhide HE2 p.b (by omega) (by omega))
            have hpair := List.pairwise_iff_getElem.1 (unhide HS).po.apart
            have j1 : j < qs.length := (List.getElem?_eq_some_iff.1 hp).1
            have j2 : qs[j] = p := (List.getElem?_eq_some_iff.1 hp).2
            have j3 : qs[i] = q := (List.getElem?_eq_some_iff.1 (unhide HQI)).2
            rcases Nat.lt_or_gt_of_ne hj with hl | hl
            · exact hpair j i j1 hlt hl (by rw [j2]; exact p0) (by rw [j3]; exact h0) (by rw [j2, j3]; exact e)
            · exact hpair i j hlt j1 hl (by rw [j3]; exact h0) (by rw [j2]; exact p0) (by rw [j2, j3]; exact e.symm)
          · have b1 := (unhide HS).po.lo p hpm p0
            have b2 := hpo.lt p0
            exact ⟨by omega, by omega, by omega⟩
        have HSG : Hid (SgS (fun k => k ≠ w.heap.size ∧ k ≠ w.heap.size + 1 ∧ k < w5.heap.size) w5 (.agg #[.int .i64 base, .slice la ps.length lc, .slice ka ks.length kc, .slice (some ⟨g, 0, none⟩) qs.length pc]) base (ps.map Cl.xs) ks ((qs.map Cl.xs).set i (q.xs ++ [base]))) :=
          ⟨_, _, _, rfl, (unhide HS).lines (fun k k1 k2 k3 => ⟨⟨by omega, by omega, by omega⟩, (unhide HE5 k (by omega) (by omega) (by omega)).trans (unhide HE2 k (by omega) (by omega))⟩), (unhide HS).keys (fun k k1 k2 k3 => ⟨⟨by omega, by omega, by omega⟩, (unhide HE5 k (by omega) (by omega) (by omega)).trans (unhide HE2 k (by omega) (by omega))⟩), hps5⟩
        have hfinal : (Row4 w5 w.heap.size 28 (.int .i64 base) (.slice la ps.length lc) (.slice ka ks.length kc) (.slice (some ⟨g, 0, none⟩) qs.length pc) ∧ Row4 w5 (w.heap.size + 1) 28 (.int .i64 0) (.slice none 0 0) (.slice none 0 0) (.slice none 0 0) ∧ SgS (fun k => k ≠ w.heap.size ∧ k ≠ w.heap.size + 1 ∧ k < w5.heap.size) w5 (.agg #[.int .i64 base, .slice la ps.length lc, .slice ka ks.length kc, .slice (some ⟨g, 0, none⟩) qs.length pc]) base (ps.map Cl.xs) ks ((qs.map Cl.xs).set i (q.xs ++ [base])) ∧ Below lo w2 w5 ∧ w2.heap.size + 1 ≤ w5.heap.size) := ⟨unhide RA5, unhide RB5, unhide HSG, hB5, by omega⟩
        rw [hw5] at hfinal
        go_wp2_with fail
        go_meet
        exact ⟨rfl, hfinal⟩
    case rest =>
      obtain ⟨rfl, hra, hrb, hsg, hB5, hz5⟩ := hcut
      obtain ⟨w5, hw5⟩ : ∃ w5, w5 = wc := ⟨_, rfl⟩
      rw [← hw5] at hra hrb hsg hB5 hz5 ⊢
      clear hw5
      have RA5 := hide hra
      have RB5 := hide hrb
      have HSG := hide hsg
      have HC5 := hide ((unhide HC2).keep hB5 hD)
      have HM5 := hide ((hM2.mono hlo).trans (Below.mv hB5 D))
      clear hra hrb hsg hB5 p0 p1 p2 p3 hcg2 hcg hfg
      clear f0 f1 f2 f3 z0 z1 z2 z3 g0 g1 g2 g3 t0 t1 t2 t3
      obtain ⟨s0, s1, s2, s3, -⟩ := (unhide RA5).facts
      obtain ⟨u0, u1, u2, u3, v0, v1, v2, v3⟩ := (unhide RB5).facts
      obtain ⟨x0, x1, x2, x3, y0, y1, y2, y3⟩ := (unhide RA5).facts
      go_wp2_with fail
      obtain ⟨e0, e1, e2, e3, -⟩ := (((((unhide RB5).put0 (u := .int .i64 base)).put1 (u := .slice la ps.length lc)).put2 (u := .slice ka ks.length kc)).put3 (u := .slice (some ⟨g, 0, none⟩) qs.length pc)).facts
      have hBW := bput4 (Below.refl w.heap.size w5) (Nat.le_succ _) (.int .i64 base) (.slice la ps.length lc) (.slice ka ks.length kc) (.slice (some ⟨g, 0, none⟩) qs.length pc)
      have hzW : w5.heap.size ≤ ((((w5.setCell ⟨w.heap.size + 1, 0, none⟩ (.int .i64 base)).setCell ⟨w.heap.size + 1, 1, none⟩ (.slice la ps.length lc)).setCell ⟨w.heap.size + 1, 2, none⟩ (.slice ka ks.length kc)).setCell ⟨w.heap.size + 1, 3, none⟩ (.slice (some ⟨g, 0, none⟩) qs.length pc)).heap.size := hBW.size
      have hEW : ∀ k, k ≠ w.heap.size → k ≠ w.heap.size + 1 → ((((w5.setCell ⟨w.heap.size + 1, 0, none⟩ (.int .i64 base)).setCell ⟨w.heap.size + 1, 1, none⟩ (.slice la ps.length lc)).setCell ⟨w.heap.size + 1, 2, none⟩ (.slice ka ks.length kc)).setCell ⟨w.heap.size + 1, 3, none⟩ (.slice (some ⟨g, 0, none⟩) qs.length pc)).heap[k]? = w5.heap[k]? := fun k k1 k2 => by
        rw [Below.heap_setCell _ _ _ _ (by exact k2), Below.heap_setCell _ _ _ _ (by exact k2), Below.heap_setCell _ _ _ _ (by exact k2), Below.heap_setCell _ _ _ _ (by exact k2)]
      have hsd := ((unhide HSG).same (fun k hk => hEW k hk.1 hk.2.1)).rd (fun k hk => Nat.lt_of_lt_of_le hk.2.2 hzW)
      exact bodyPost_ret (v := .agg #[.int .i64 base, .slice la ps.length lc, .slice ka ks.length kc, .slice (some ⟨g, 0, none⟩) qs.length pc]) (by simp [results, Try.results15, go_sem, e0, e1, e2, e3]) rfl ⟨⟨_, rfl, hsd⟩, (unhide HC5).keep hBW (by omega), (unhide HM5).trans (Below.mv (hBW.mono hlo) D), trivial⟩

end Go.Proofs.Ytkajdhliejjohaa
