import Derived.Test.YthgnefdefjannaaGreatFu7
import Derived.Test.YthgnefdefjannaaGreatFu5
namespace Go.Proofs.YthgnefdefjannaaGreat
open Go.RowKit

theorem Row2.mv {w w' : World} {b lo D : Nat} {t : TypeId} {c0 c1 : Value} (h : Row2 w b t c0 c1) (hb : Mv lo D w w') (hm : b < lo) (hD : b ≠ D) : Row2 w' b t c0 c1 := World.rowIs.of_block h (hb.block b hm hD)
theorem run_l4many (x y : Value) (w : World) : Sem.run Tryz.prog (callFunc 12 #[x, y]) w = .ok (.enter 12 #[x, y]) w := by kernel_rfl
/-- What l5spoil answers. -/
def SpOut (lo N D : Nat) (w : World) (xs : List Int) (B O : List (List Int)) (e : Ending) (w' : World) : Prop := (∃ v, e = .returned v ∧ StD lo w' v B O) ∧ CdAt N D w' xs ∧ Mv lo D w w'

set_option maxHeartbeats 8000000 in
set_option maxRecDepth 100000 in
theorem l5spoil_0 (lo N D : Nat) (xs : List Int) (sv ov : Value) (ps qs : List (Cl Int)) (w : World) (hst : StL lo w sv ov ps qs) (hlo : lo ≤ w.heap.size) (h : CdAt N D w xs) (hx : Cod xs) (hD : D < lo) (l1 : ps.length ≤ 5) (l2 : qs.length ≤ 5) (hk : xs.headD 0 % 7 = 0) :
    Calls Tryz.prog 28 #[.agg #[sv, ov], .pointer (some ⟨D, 0, none⟩)] w (SpOut lo N D w xs.tail.tail (ps.map Cl.xs) (qs.map Cl.xs ++ [[97, 10, 98]])) := by
  obtain ⟨i0, hi, hz0, hz1, hz2⟩ := info_parts Tryz.zinByteS
  have hl12 := And.intro l1 l2
  clear hl12
  have HX := hide hx
  have hh := hx.head
  have hh2 := hx.tail.head
  obtain ⟨y, hy⟩ : ∃ y, xs.headD 0 = y := ⟨_, rfl⟩
  obtain ⟨z, hz⟩ : ∃ z, xs.tail.headD 0 = z := ⟨_, rfl⟩
  rw [hy] at hk hh
  rw [hz] at hh2
  try rw [hz]
  have HY := hide hy
  have HZ := hide hz
  obtain ⟨sa, sc, rfl⟩ := own_is hst.segs.own
  obtain ⟨oa, oc, rfl⟩ := own_is hst.opens.own
  have hb0 := below2 w (.cells #[.slice sa ps.length sc, .slice oa qs.length oc] 25) (.cells #[.slice none 0 0, .slice none 0 0] 25)
  have RS := (Row2.new w 25 (.slice sa ps.length sc) (.slice oa qs.length oc)).alloc (.cells #[.slice none 0 0, .slice none 0 0] 25)
  have RR := Row2.new (w.alloc (.cells #[.slice sa ps.length sc, .slice oa qs.length oc] 25)) 25 (.slice none 0 0) (.slice none 0 0)
  rw [sz_alloc] at RR
  have hzV : ((w.alloc (.cells #[.slice sa ps.length sc, .slice oa qs.length oc] 25)).alloc (.cells #[.slice none 0 0, .slice none 0 0] 25)).heap.size = w.heap.size + 2 := by simp
  have HST0 := hide (hst.keep hb0 (Nat.le_refl _))
  have HC0 := hide (h.keep hb0 (by omega))
  clear hy hz hx h hst
  go_enter Tryz.func28, Tryz.ntmps28
  go_wp2_with fail
  generalize (w.alloc (.cells #[.slice sa ps.length sc, .slice oa qs.length oc] 25)).alloc (.cells #[.slice none 0 0, .slice none 0 0] 25) = V at *
  have hVz : w.heap.size + 2 ≤ V.heap.size := by omega
  clear hzV
  refine (next_any N D xs V (unhide HC0) (unhide HX)).mono ?_
  rintro e w1 ⟨he, hc1, ho1⟩
  rw [unhide HY] at he
  subst he
  have hM1 : Mv V.heap.size D V w1 := ho1.mv _
  clear ho1
  go_wp2_with fail
  refine (next_any N D xs.tail w1 hc1 (unhide HX).tail).mono ?_
  rintro e w2 ⟨he, hc2, ho2⟩
  rw [unhide HZ] at he
  subst he
  have hM2 : Mv V.heap.size D V w2 := hM1.trans (ho2.mv _)
  have hZ2 : w.heap.size + 2 ≤ w2.heap.size := Nat.le_trans hVz hM2.size
  have HST2 := hide ((unhide HST0).mv hM2 (Nat.le_refl _) hD)
  have RS2 := hide (RS.mv hM2 (by omega) (by omega))
  have RR2 := hide (RR.mv hM2 (by omega) (by omega))
  have HC2 := hide hc2
  have hMw : Mv lo D w w2 := (Below.mv (hb0.mono hlo) D).trans (hM2.mono (by omega))
  obtain ⟨f0, f1, f2, f3⟩ := (unhide RS2).facts4
  obtain ⟨r0, r1, r2, r3⟩ := (unhide RR2).facts4
  clear hc1 hc2 ho2 hM1 hM2 RS RR hb0 HST0 HC0
  go_wp2_with (at_builtin; refine app_all2 lo rfl _ _ rfl (.slice oa qs.length oc) _ qs [(⟨.slice (some ⟨w2.heap.size, 0, none⟩) 3 3, [97, 10, 98], w2.heap.size⟩ : Cl Int)] rfl (by exact (unhide HST2).opens.keep ((below2 w2 _ _).mono (Nat.le_refl _)) (Nat.le_refl _)) rfl (lit_row (by omega)) (by intro p hp q hq h0 h1 e; rw [List.mem_singleton] at hq; subst hq; have := ((unhide HST2).opens.ok p hp).lt h0; have e' : p.b = w2.heap.size := e; omega) (by simp; omega) (by simp; omega) ?_)
  intro v5 w5 h5 hg5 ho5
  have hg5' : ((w2.alloc (.cells #[.int .u8 97, .int .u8 10, .int .u8 98] 5)).alloc (.cells #[.slice (some ⟨w2.heap.size, 0, none⟩) 3 3] 22)).grownBy w5 (Value.slice oa qs.length oc).ownBlock := hg5
  have ho5' : OwnS ((w2.alloc (.cells #[.int .u8 97, .int .u8 10, .int .u8 98] 5)).alloc (.cells #[.slice (some ⟨w2.heap.size, 0, none⟩) 3 3] 22)) (.slice oa qs.length oc) v5 := ho5
  have hb3 := below2 w2 (.cells #[.int .u8 97, .int .u8 10, .int .u8 98] 5) (.cells #[.slice (some ⟨w2.heap.size, 0, none⟩) 3 3] 22)
  generalize (w2.alloc (.cells #[.int .u8 97, .int .u8 10, .int .u8 98] 5)).alloc (.cells #[.slice (some ⟨w2.heap.size, 0, none⟩) 3 3] 22) = w3 at hg5' ho5' hb3
  have hz3 := hb3.size
  have RS3 := (unhide RS2).below hb3 (by omega)
  have RR3 := (unhide RR2).below hb3 (by omega)
  obtain ⟨hsd5, hB5, hrow5⟩ := ((unhide HST2).keep hb3 (Nat.le_refl _)).openMore (by omega) h5 hg5' ho5'
  have HSD := hide hsd5
  have RS5 := hide (hrow5 _ _ _ RS3)
  have RR5 := hide (hrow5 _ _ _ RR3)
  have HC5 := hide (((unhide HC2).keep hb3 (by omega)).keep hB5 hD)
  have HM5 := hide ((hMw.trans (Below.mv (hb3.mono (by omega)) D)).trans (Below.mv hB5 D))
  obtain ⟨t0, t1, t2, t3⟩ := (unhide RS5).facts4
  obtain ⟨va, vc, e5⟩ := own_is h5.own
  generalize (qs ++ [(⟨.slice (some ⟨w2.heap.size, 0, none⟩) 3 3, [97, 10, 98], w2.heap.size⟩ : Cl Int)]).length = L at e5
  subst e5
  clear h5 hg5 ho5 hg5' ho5' RS3 RR3 hrow5 hsd5 hB5 hb3
  clear f0 f1 f2 f3 r0 r1 r2 r3

  obtain ⟨s0, s1, -⟩ := ((unhide RS5).put1 (u := .slice va L vc)).facts4
  obtain ⟨u0, u1, u2, u3⟩ := ((unhide RR5).other (b' := w.heap.size) (o := 1) (u := .slice va L vc) (by omega)).facts4
  go_wp2_with fail
  obtain ⟨e0, e1, -⟩ := ((((unhide RR5).other (b' := w.heap.size) (o := 1) (u := .slice va L vc) (by omega)).put0 (u := .slice sa ps.length sc)).put1 (u := .slice va L vc)).facts4
  have hP : Below lo w5 (((w5.setCell ⟨w.heap.size, 1, none⟩ (.slice va L vc)).setCell ⟨w.heap.size + 1, 0, none⟩ (.slice sa ps.length sc)).setCell ⟨w.heap.size + 1, 1, none⟩ (.slice va L vc)) := bput2 (bput (Below.refl _ _) hlo _) (by omega) _ _
  refine bodyPost_ret (v := .agg #[.slice sa ps.length sc, .slice va L vc]) (by simp [results, Tryz.results28, go_sem, e0, e1]) rfl ⟨⟨_, rfl, ?_⟩, (unhide HC5).keep hP hD, (unhide HM5).trans (Below.mv hP D)⟩
  exact (((unhide HSD).putty (unhide RS5)).putty ((unhide RR5).other (by omega))).putty (((unhide RR5).other (by omega)).put0)

set_option maxHeartbeats 8000000 in
set_option maxRecDepth 100000 in
theorem l5spoil_4 (lo N D : Nat) (xs : List Int) (sv ov : Value) (ps qs : List (Cl Int)) (w : World) (hst : StL lo w sv ov ps qs) (hlo : lo ≤ w.heap.size) (h : CdAt N D w xs) (hx : Cod xs) (hD : D < lo) (l1 : ps.length ≤ 5) (l2 : qs.length ≤ 5) (hk : xs.headD 0 % 7 = 4) :
    Calls Tryz.prog 28 #[.agg #[sv, ov], .pointer (some ⟨D, 0, none⟩)] w (SpOut lo N D w xs.tail.tail (ps.map Cl.xs) (qs.map Cl.xs ++ mny (1000 - (xs.tail.headD 0).toNat % 3) 30)) := by
  obtain ⟨i0, hi, hz0, hz1, hz2⟩ := info_parts Tryz.zinByteS
  have hl12 := And.intro l1 l2
  clear hl12
  have HX := hide hx
  have hh := hx.head
  have hh2 := hx.tail.head
  obtain ⟨y, hy⟩ : ∃ y, xs.headD 0 = y := ⟨_, rfl⟩
  obtain ⟨z, hz⟩ : ∃ z, xs.tail.headD 0 = z := ⟨_, rfl⟩
  rw [hy] at hk hh
  rw [hz] at hh2
  try rw [hz]
  have HY := hide hy
  have HZ := hide hz
  obtain ⟨n, hn⟩ : ∃ n : Nat, 1000 - z.toNat % 3 = n := ⟨_, rfl⟩
  rw [hn]
  have hn1 : 998 ≤ n := by omega
  have hn2 : n ≤ 1000 := by omega
  have hn3 : 1000 - z % 3 = (n : Int) := by omega
  have hn4 : IntKind.i64.wrap (1000 - z.tmod 3) = (n : Int) := by rw [Int.tmod_eq_emod_of_nonneg hh2.1, hn3]; exact k64i (by omega) (by omega)
  clear hn
  obtain ⟨sa, sc, rfl⟩ := own_is hst.segs.own
  obtain ⟨oa, oc, rfl⟩ := own_is hst.opens.own
  have hb0 := below2 w (.cells #[.slice sa ps.length sc, .slice oa qs.length oc] 25) (.cells #[.slice none 0 0, .slice none 0 0] 25)
  have RS := (Row2.new w 25 (.slice sa ps.length sc) (.slice oa qs.length oc)).alloc (.cells #[.slice none 0 0, .slice none 0 0] 25)
  have RR := Row2.new (w.alloc (.cells #[.slice sa ps.length sc, .slice oa qs.length oc] 25)) 25 (.slice none 0 0) (.slice none 0 0)
  rw [sz_alloc] at RR
  have hzV : ((w.alloc (.cells #[.slice sa ps.length sc, .slice oa qs.length oc] 25)).alloc (.cells #[.slice none 0 0, .slice none 0 0] 25)).heap.size = w.heap.size + 2 := by simp
  have HST0 := hide (hst.keep hb0 (Nat.le_refl _))
  have HC0 := hide (h.keep hb0 (by omega))
  clear hy hz hx h hst
  go_enter Tryz.func28, Tryz.ntmps28
  go_wp2_with fail
  generalize (w.alloc (.cells #[.slice sa ps.length sc, .slice oa qs.length oc] 25)).alloc (.cells #[.slice none 0 0, .slice none 0 0] 25) = V at *
  have hVz : w.heap.size + 2 ≤ V.heap.size := by omega
  clear hzV
  refine (next_any N D xs V (unhide HC0) (unhide HX)).mono ?_
  rintro e w1 ⟨he, hc1, ho1⟩
  rw [unhide HY] at he
  subst he
  have hM1 : Mv V.heap.size D V w1 := ho1.mv _
  clear ho1
  go_wp2_with fail
  refine (next_any N D xs.tail w1 hc1 (unhide HX).tail).mono ?_
  rintro e w2 ⟨he, hc2, ho2⟩
  rw [unhide HZ] at he
  subst he
  have hM2 : Mv V.heap.size D V w2 := hM1.trans (ho2.mv _)
  have hZ2 : w.heap.size + 2 ≤ w2.heap.size := Nat.le_trans hVz hM2.size
  have HST2 := hide ((unhide HST0).mv hM2 (Nat.le_refl _) hD)
  have RS2 := hide (RS.mv hM2 (by omega) (by omega))
  have RR2 := hide (RR.mv hM2 (by omega) (by omega))
  have HC2 := hide hc2
  have hMw : Mv lo D w w2 := (Below.mv (hb0.mono hlo) D).trans (hM2.mono (by omega))
  obtain ⟨f0, f1, f2, f3⟩ := (unhide RS2).facts4
  obtain ⟨r0, r1, r2, r3⟩ := (unhide RR2).facts4
  clear hc1 hc2 ho2 hM1 hM2 RS RR hb0 HST0 HC0
  have hS : Hid (∀ W' : World, Below w2.heap.size w2 W' → W'.cell? ⟨w.heap.size, 1, none⟩ = some (.slice oa qs.length oc) ∧ W'.frozen? ⟨w.heap.size, 1, none⟩ = false) := fun W' hW => by
    have := ((unhide RS2).below hW (by omega)).facts4
    exact ⟨this.2.1, this.2.2.2⟩
  have hY : Hid (∀ W' : World, Below w2.heap.size w2 W' → StL lo W' (.slice sa ps.length sc) (.slice oa qs.length oc) ps qs) := fun W' hW => (unhide HST2).keep hW (Nat.le_refl _)
  go_wp2_with fail
  go_region_law (
    (first
      | (refine step_call_o 12 #[.tmp 92, .const (.int .i64 30)] _ rfl #[.int .i64 (n : Nat), .int .i64 (30 : Nat)] rfl (by first | (simp [Act.eval]; done) | (simp [Act.eval, Act.put]; done) | (simp [Act.eval, hn4]; done) | (simp [Act.eval, Act.put, hn4]; done)) (run_l4many _ _) (l4many_any n 30 _ (by omega) (by omega) (by omega)) ?_; rintro e w4 ⟨⟨v4, rfl, us, hus, hlu⟩, hb4⟩; have hb3 : Below w2.heap.size w2 w4 := ⟨hb4.os, hb4.tape, hb4.output, hb4.size, hb4.block⟩; have hz3 := hb3.size; have HUS := hide hus; have HLU : Hid (LB w2.heap.size w4 v4 us) := hlu; have hul : 2 ≤ us.length := (by have h9 := congrArg List.length hus; rw [List.length_map, show (mny n 30).length = n from mnyK_len _ _ _] at h9; omega); have hul2 : us.length ≤ 1000 := (by have h9 := congrArg List.length hus; rw [List.length_map, show (mny n 30).length = n from mnyK_len _ _ _] at h9; omega); obtain ⟨ya, yc, rfl⟩ := own_is hlu.own; obtain ⟨d5, z5⟩ := unhide hS _ hb3; clear hus hlu hb4; refine ⟨_, rfl, ?_⟩)
      | (refine step_app_all lo rfl (.tmp 89) (.tmp 93) rfl (.slice oa qs.length oc) (.slice ya us.length yc) qs us (by first | (simp [Act.eval]; done) | (simp [Act.eval, Act.put]; done)) (by exact (unhide hY _ hb3).opens) (by first | (simp [Act.eval]; done) | (simp [Act.eval, Act.put]; done)) (by exact (unhide HLU).low (by omega)) (by omega) (by intro p hp q hq h0 h1 e; have h7 := ((unhide HST2).opens.ok p hp).lt h0; have h8 := (unhide HLU).lo q hq h1; omega) (by show lo ≤ w4.heap.size; omega) (by omega) (fun va vc w5 h5 hg5 ho5 => ?_); have hg5' : w4.grownBy w5 (Value.slice oa qs.length oc).ownBlock := ⟨hg5.os, hg5.tape, hg5.output, hg5.size, hg5.block⟩; have ho5' : OwnS w4 (.slice oa qs.length oc) (.slice (some ⟨va, 0, none⟩) (qs.length + us.length) vc) := ho5; have RS5 := hide (((unhide RS2).below hb3 (by omega)).grown (unhide hY _ hb3).opens.own hg5'); have H5 := hide h5; obtain ⟨t0, t1, t2, t3⟩ := (unhide RS5).facts4; clear h5 hg5)))
  all_goals
    have RR3 := (unhide RR2).below hb3 (by omega)
    obtain ⟨hsd5, hB5, hrow5⟩ := (unhide hY _ hb3).openMore (by omega) (unhide H5) hg5' ho5'
    rw [unhide HUS] at hsd5
    have HSD := hide hsd5
    have RR5 := hide (hrow5 _ _ _ RR3)
    have HC5 := hide (((unhide HC2).keep hb3 (by omega)).keep hB5 hD)
    have HM5 := hide ((hMw.trans (Below.mv (hb3.mono (by omega)) D)).trans (Below.mv hB5 D))
    generalize qs.length + us.length = L at *
    clear hg5' ho5' RR3 hrow5 hsd5 hB5 hb3 d5 z5
    clear f0 f1 f2 f3 r0 r1 r2 r3

    obtain ⟨s0, s1, -⟩ := ((unhide RS5).put1 (u := .slice (some ⟨va, 0, none⟩) L vc)).facts4
    obtain ⟨u0, u1, u2, u3⟩ := ((unhide RR5).other (b' := w.heap.size) (o := 1) (u := .slice (some ⟨va, 0, none⟩) L vc) (by omega)).facts4
    go_wp2_with fail
    obtain ⟨e0, e1, -⟩ := ((((unhide RR5).other (b' := w.heap.size) (o := 1) (u := .slice (some ⟨va, 0, none⟩) L vc) (by omega)).put0 (u := .slice sa ps.length sc)).put1 (u := .slice (some ⟨va, 0, none⟩) L vc)).facts4
    have hP : Below lo w5 (((w5.setCell ⟨w.heap.size, 1, none⟩ (.slice (some ⟨va, 0, none⟩) L vc)).setCell ⟨w.heap.size + 1, 0, none⟩ (.slice sa ps.length sc)).setCell ⟨w.heap.size + 1, 1, none⟩ (.slice (some ⟨va, 0, none⟩) L vc)) := bput2 (bput (Below.refl _ _) hlo _) (by omega) _ _
    refine bodyPost_ret (v := .agg #[.slice sa ps.length sc, .slice (some ⟨va, 0, none⟩) L vc]) (by simp [results, Tryz.results28, go_sem, e0, e1]) rfl ⟨⟨_, rfl, ?_⟩, (unhide HC5).keep hP hD, (unhide HM5).trans (Below.mv hP D)⟩
    exact (((unhide HSD).putty (unhide RS5)).putty ((unhide RR5).other (by omega))).putty (((unhide RR5).other (by omega)).put0)

set_option maxHeartbeats 8000000 in
set_option maxRecDepth 100000 in
theorem l5spoil_6 (lo N D : Nat) (xs : List Int) (sv ov : Value) (ps qs : List (Cl Int)) (w : World) (hst : StL lo w sv ov ps qs) (hlo : lo ≤ w.heap.size) (h : CdAt N D w xs) (hx : Cod xs) (hD : D < lo) (l1 : ps.length ≤ 5) (l2 : qs.length ≤ 5) (hk : xs.headD 0 % 7 = 6) :
    Calls Tryz.prog 28 #[.agg #[sv, ov], .pointer (some ⟨D, 0, none⟩)] w (SpOut lo N D w xs.tail.tail (ps.map Cl.xs) (qs.map Cl.xs ++ mny 2 20000)) := by
  obtain ⟨i0, hi, hz0, hz1, hz2⟩ := info_parts Tryz.zinByteS
  have hl12 := And.intro l1 l2
  clear hl12
  have HX := hide hx
  have hh := hx.head
  have hh2 := hx.tail.head
  obtain ⟨y, hy⟩ : ∃ y, xs.headD 0 = y := ⟨_, rfl⟩
  obtain ⟨z, hz⟩ : ∃ z, xs.tail.headD 0 = z := ⟨_, rfl⟩
  rw [hy] at hk hh
  rw [hz] at hh2
  try rw [hz]
  have HY := hide hy
  have HZ := hide hz
  obtain ⟨sa, sc, rfl⟩ := own_is hst.segs.own
  obtain ⟨oa, oc, rfl⟩ := own_is hst.opens.own
  have hb0 := below2 w (.cells #[.slice sa ps.length sc, .slice oa qs.length oc] 25) (.cells #[.slice none 0 0, .slice none 0 0] 25)
  have RS := (Row2.new w 25 (.slice sa ps.length sc) (.slice oa qs.length oc)).alloc (.cells #[.slice none 0 0, .slice none 0 0] 25)
  have RR := Row2.new (w.alloc (.cells #[.slice sa ps.length sc, .slice oa qs.length oc] 25)) 25 (.slice none 0 0) (.slice none 0 0)
  rw [sz_alloc] at RR
  have hzV : ((w.alloc (.cells #[.slice sa ps.length sc, .slice oa qs.length oc] 25)).alloc (.cells #[.slice none 0 0, .slice none 0 0] 25)).heap.size = w.heap.size + 2 := by simp
  have HST0 := hide (hst.keep hb0 (Nat.le_refl _))
  have HC0 := hide (h.keep hb0 (by omega))
  clear hy hz hx h hst
  go_enter Tryz.func28, Tryz.ntmps28
  go_wp2_with fail
  generalize (w.alloc (.cells #[.slice sa ps.length sc, .slice oa qs.length oc] 25)).alloc (.cells #[.slice none 0 0, .slice none 0 0] 25) = V at *
  have hVz : w.heap.size + 2 ≤ V.heap.size := by omega
  clear hzV
  refine (next_any N D xs V (unhide HC0) (unhide HX)).mono ?_
  rintro e w1 ⟨he, hc1, ho1⟩
  rw [unhide HY] at he
  subst he
  have hM1 : Mv V.heap.size D V w1 := ho1.mv _
  clear ho1
  go_wp2_with fail
  refine (next_any N D xs.tail w1 hc1 (unhide HX).tail).mono ?_
  rintro e w2 ⟨he, hc2, ho2⟩
  rw [unhide HZ] at he
  subst he
  have hM2 : Mv V.heap.size D V w2 := hM1.trans (ho2.mv _)
  have hZ2 : w.heap.size + 2 ≤ w2.heap.size := Nat.le_trans hVz hM2.size
  have HST2 := hide ((unhide HST0).mv hM2 (Nat.le_refl _) hD)
  have RS2 := hide (RS.mv hM2 (by omega) (by omega))
  have RR2 := hide (RR.mv hM2 (by omega) (by omega))
  have HC2 := hide hc2
  have hMw : Mv lo D w w2 := (Below.mv (hb0.mono hlo) D).trans (hM2.mono (by omega))
  obtain ⟨f0, f1, f2, f3⟩ := (unhide RS2).facts4
  obtain ⟨r0, r1, r2, r3⟩ := (unhide RR2).facts4
  clear hc1 hc2 ho2 hM1 hM2 RS RR hb0 HST0 HC0
  have hS : Hid (∀ W' : World, Below w2.heap.size w2 W' → W'.cell? ⟨w.heap.size, 1, none⟩ = some (.slice oa qs.length oc) ∧ W'.frozen? ⟨w.heap.size, 1, none⟩ = false) := fun W' hW => by
    have := ((unhide RS2).below hW (by omega)).facts4
    exact ⟨this.2.1, this.2.2.2⟩
  have hY : Hid (∀ W' : World, Below w2.heap.size w2 W' → StL lo W' (.slice sa ps.length sc) (.slice oa qs.length oc) ps qs) := fun W' hW => (unhide HST2).keep hW (Nat.le_refl _)
  go_wp2_with fail
  go_region_law (
    (first
      | (refine step_call_o 12 #[.const (.int .i64 2), .const (.int .i64 20000)] _ rfl #[.int .i64 (2 : Nat), .int .i64 (20000 : Nat)] rfl (by first | (simp [Act.eval]; done) | (simp [Act.eval, Act.put]; done) | (simp [Act.eval, hn4]; done) | (simp [Act.eval, Act.put, hn4]; done)) (run_l4many _ _) (l4many_any 2 20000 _ (by omega) (by omega) (by omega)) ?_; rintro e w4 ⟨⟨v4, rfl, us, hus, hlu⟩, hb4⟩; have hb3 : Below w2.heap.size w2 w4 := ⟨hb4.os, hb4.tape, hb4.output, hb4.size, hb4.block⟩; have hz3 := hb3.size; have HUS := hide hus; have HLU : Hid (LB w2.heap.size w4 v4 us) := hlu; have hul : 2 ≤ us.length := (by have h9 := congrArg List.length hus; rw [List.length_map, show (mny 2 20000).length = 2 from mnyK_len _ _ _] at h9; omega); have hul2 : us.length ≤ 1000 := (by have h9 := congrArg List.length hus; rw [List.length_map, show (mny 2 20000).length = 2 from mnyK_len _ _ _] at h9; omega); obtain ⟨ya, yc, rfl⟩ := own_is hlu.own; obtain ⟨d5, z5⟩ := unhide hS _ hb3; clear hus hlu hb4; refine ⟨_, rfl, ?_⟩)
      | (refine step_app_all lo rfl (.tmp 104) (.tmp 105) rfl (.slice oa qs.length oc) (.slice ya us.length yc) qs us (by first | (simp [Act.eval]; done) | (simp [Act.eval, Act.put]; done)) (by exact (unhide hY _ hb3).opens) (by first | (simp [Act.eval]; done) | (simp [Act.eval, Act.put]; done)) (by exact (unhide HLU).low (by omega)) (by omega) (by intro p hp q hq h0 h1 e; have h7 := ((unhide HST2).opens.ok p hp).lt h0; have h8 := (unhide HLU).lo q hq h1; omega) (by show lo ≤ w4.heap.size; omega) (by omega) (fun va vc w5 h5 hg5 ho5 => ?_); have hg5' : w4.grownBy w5 (Value.slice oa qs.length oc).ownBlock := ⟨hg5.os, hg5.tape, hg5.output, hg5.size, hg5.block⟩; have ho5' : OwnS w4 (.slice oa qs.length oc) (.slice (some ⟨va, 0, none⟩) (qs.length + us.length) vc) := ho5; have RS5 := hide (((unhide RS2).below hb3 (by omega)).grown (unhide hY _ hb3).opens.own hg5'); have H5 := hide h5; obtain ⟨t0, t1, t2, t3⟩ := (unhide RS5).facts4; clear h5 hg5)))
  all_goals
    have RR3 := (unhide RR2).below hb3 (by omega)
    obtain ⟨hsd5, hB5, hrow5⟩ := (unhide hY _ hb3).openMore (by omega) (unhide H5) hg5' ho5'
    rw [unhide HUS] at hsd5
    have HSD := hide hsd5
    have RR5 := hide (hrow5 _ _ _ RR3)
    have HC5 := hide (((unhide HC2).keep hb3 (by omega)).keep hB5 hD)
    have HM5 := hide ((hMw.trans (Below.mv (hb3.mono (by omega)) D)).trans (Below.mv hB5 D))
    generalize qs.length + us.length = L at *
    clear hg5' ho5' RR3 hrow5 hsd5 hB5 hb3 d5 z5
    clear f0 f1 f2 f3 r0 r1 r2 r3

    obtain ⟨s0, s1, -⟩ := ((unhide RS5).put1 (u := .slice (some ⟨va, 0, none⟩) L vc)).facts4
    obtain ⟨u0, u1, u2, u3⟩ := ((unhide RR5).other (b' := w.heap.size) (o := 1) (u := .slice (some ⟨va, 0, none⟩) L vc) (by omega)).facts4
    go_wp2_with fail
    obtain ⟨e0, e1, -⟩ := ((((unhide RR5).other (b' := w.heap.size) (o := 1) (u := .slice (some ⟨va, 0, none⟩) L vc) (by omega)).put0 (u := .slice sa ps.length sc)).put1 (u := .slice (some ⟨va, 0, none⟩) L vc)).facts4
    have hP : Below lo w5 (((w5.setCell ⟨w.heap.size, 1, none⟩ (.slice (some ⟨va, 0, none⟩) L vc)).setCell ⟨w.heap.size + 1, 0, none⟩ (.slice sa ps.length sc)).setCell ⟨w.heap.size + 1, 1, none⟩ (.slice (some ⟨va, 0, none⟩) L vc)) := bput2 (bput (Below.refl _ _) hlo _) (by omega) _ _
    refine bodyPost_ret (v := .agg #[.slice sa ps.length sc, .slice (some ⟨va, 0, none⟩) L vc]) (by simp [results, Tryz.results28, go_sem, e0, e1]) rfl ⟨⟨_, rfl, ?_⟩, (unhide HC5).keep hP hD, (unhide HM5).trans (Below.mv hP D)⟩
    exact (((unhide HSD).putty (unhide RS5)).putty ((unhide RR5).other (by omega))).putty (((unhide RR5).other (by omega)).put0)

set_option maxHeartbeats 8000000 in
set_option maxRecDepth 100000 in
theorem l5spoil_none1 (lo N D : Nat) (xs : List Int) (sv ov : Value) (ps qs : List (Cl Int)) (w : World) (hst : StL lo w sv ov ps qs) (hlo : lo ≤ w.heap.size) (h : CdAt N D w xs) (hx : Cod xs) (hD : D < lo) (l1 : ps.length ≤ 5) (l2 : qs.length ≤ 5) (hk : xs.headD 0 % 7 = 1) (hp0 : ps = []) :
    Calls Tryz.prog 28 #[.agg #[sv, ov], .pointer (some ⟨D, 0, none⟩)] w (SpOut lo N D w xs.tail.tail (ps.map Cl.xs) (qs.map Cl.xs ++ mny 2 20000)) := by
  obtain ⟨i0, hi, hz0, hz1, hz2⟩ := info_parts Tryz.zinByteS
  have hl12 := And.intro l1 l2
  clear hl12
  have HX := hide hx
  have hh := hx.head
  have hh2 := hx.tail.head
  obtain ⟨y, hy⟩ : ∃ y, xs.headD 0 = y := ⟨_, rfl⟩
  obtain ⟨z, hz⟩ : ∃ z, xs.tail.headD 0 = z := ⟨_, rfl⟩
  rw [hy] at hk hh
  rw [hz] at hh2
  try rw [hz]
  have HY := hide hy
  have HZ := hide hz
  have hl0 : ¬ (0 : Int) < (ps.length : Int) := by rw [hp0]; simp
  have HP0 := hide hp0
  clear hp0
  obtain ⟨sa, sc, rfl⟩ := own_is hst.segs.own
  obtain ⟨oa, oc, rfl⟩ := own_is hst.opens.own
  have hb0 := below2 w (.cells #[.slice sa ps.length sc, .slice oa qs.length oc] 25) (.cells #[.slice none 0 0, .slice none 0 0] 25)
  have RS := (Row2.new w 25 (.slice sa ps.length sc) (.slice oa qs.length oc)).alloc (.cells #[.slice none 0 0, .slice none 0 0] 25)
  have RR := Row2.new (w.alloc (.cells #[.slice sa ps.length sc, .slice oa qs.length oc] 25)) 25 (.slice none 0 0) (.slice none 0 0)
  rw [sz_alloc] at RR
  have hzV : ((w.alloc (.cells #[.slice sa ps.length sc, .slice oa qs.length oc] 25)).alloc (.cells #[.slice none 0 0, .slice none 0 0] 25)).heap.size = w.heap.size + 2 := by simp
  have HST0 := hide (hst.keep hb0 (Nat.le_refl _))
  have HC0 := hide (h.keep hb0 (by omega))
  clear hy hz hx h hst
  go_enter Tryz.func28, Tryz.ntmps28
  go_wp2_with fail
  generalize (w.alloc (.cells #[.slice sa ps.length sc, .slice oa qs.length oc] 25)).alloc (.cells #[.slice none 0 0, .slice none 0 0] 25) = V at *
  have hVz : w.heap.size + 2 ≤ V.heap.size := by omega
  clear hzV
  refine (next_any N D xs V (unhide HC0) (unhide HX)).mono ?_
  rintro e w1 ⟨he, hc1, ho1⟩
  rw [unhide HY] at he
  subst he
  have hM1 : Mv V.heap.size D V w1 := ho1.mv _
  clear ho1
  go_wp2_with fail
  refine (next_any N D xs.tail w1 hc1 (unhide HX).tail).mono ?_
  rintro e w2 ⟨he, hc2, ho2⟩
  rw [unhide HZ] at he
  subst he
  have hM2 : Mv V.heap.size D V w2 := hM1.trans (ho2.mv _)
  have hZ2 : w.heap.size + 2 ≤ w2.heap.size := Nat.le_trans hVz hM2.size
  have HST2 := hide ((unhide HST0).mv hM2 (Nat.le_refl _) hD)
  have RS2 := hide (RS.mv hM2 (by omega) (by omega))
  have RR2 := hide (RR.mv hM2 (by omega) (by omega))
  have HC2 := hide hc2
  have hMw : Mv lo D w w2 := (Below.mv (hb0.mono hlo) D).trans (hM2.mono (by omega))
  obtain ⟨f0, f1, f2, f3⟩ := (unhide RS2).facts4
  obtain ⟨r0, r1, r2, r3⟩ := (unhide RR2).facts4
  clear hc1 hc2 ho2 hM1 hM2 RS RR hb0 HST0 HC0
  have hS : Hid (∀ W' : World, Below w2.heap.size w2 W' → W'.cell? ⟨w.heap.size, 1, none⟩ = some (.slice oa qs.length oc) ∧ W'.frozen? ⟨w.heap.size, 1, none⟩ = false) := fun W' hW => by
    have := ((unhide RS2).below hW (by omega)).facts4
    exact ⟨this.2.1, this.2.2.2⟩
  have hY : Hid (∀ W' : World, Below w2.heap.size w2 W' → StL lo W' (.slice sa ps.length sc) (.slice oa qs.length oc) ps qs) := fun W' hW => (unhide HST2).keep hW (Nat.le_refl _)
  go_wp2_with fail
  go_region_law (
    (first
      | (refine step_call_o 12 #[.const (.int .i64 2), .const (.int .i64 20000)] _ rfl #[.int .i64 (2 : Nat), .int .i64 (20000 : Nat)] rfl (by first | (simp [Act.eval]; done) | (simp [Act.eval, Act.put]; done) | (simp [Act.eval, hn4]; done) | (simp [Act.eval, Act.put, hn4]; done)) (run_l4many _ _) (l4many_any 2 20000 _ (by omega) (by omega) (by omega)) ?_; rintro e w4 ⟨⟨v4, rfl, us, hus, hlu⟩, hb4⟩; have hb3 : Below w2.heap.size w2 w4 := ⟨hb4.os, hb4.tape, hb4.output, hb4.size, hb4.block⟩; have hz3 := hb3.size; have HUS := hide hus; have HLU : Hid (LB w2.heap.size w4 v4 us) := hlu; have hul : 2 ≤ us.length := (by have h9 := congrArg List.length hus; rw [List.length_map, show (mny 2 20000).length = 2 from mnyK_len _ _ _] at h9; omega); have hul2 : us.length ≤ 1000 := (by have h9 := congrArg List.length hus; rw [List.length_map, show (mny 2 20000).length = 2 from mnyK_len _ _ _] at h9; omega); obtain ⟨ya, yc, rfl⟩ := own_is hlu.own; obtain ⟨d5, z5⟩ := unhide hS _ hb3; clear hus hlu hb4; refine ⟨_, rfl, ?_⟩)
      | (refine step_app_all lo rfl (.tmp 104) (.tmp 105) rfl (.slice oa qs.length oc) (.slice ya us.length yc) qs us (by first | (simp [Act.eval]; done) | (simp [Act.eval, Act.put]; done)) (by exact (unhide hY _ hb3).opens) (by first | (simp [Act.eval]; done) | (simp [Act.eval, Act.put]; done)) (by exact (unhide HLU).low (by omega)) (by omega) (by intro p hp q hq h0 h1 e; have h7 := ((unhide HST2).opens.ok p hp).lt h0; have h8 := (unhide HLU).lo q hq h1; omega) (by show lo ≤ w4.heap.size; omega) (by omega) (fun va vc w5 h5 hg5 ho5 => ?_); have hg5' : w4.grownBy w5 (Value.slice oa qs.length oc).ownBlock := ⟨hg5.os, hg5.tape, hg5.output, hg5.size, hg5.block⟩; have ho5' : OwnS w4 (.slice oa qs.length oc) (.slice (some ⟨va, 0, none⟩) (qs.length + us.length) vc) := ho5; have RS5 := hide (((unhide RS2).below hb3 (by omega)).grown (unhide hY _ hb3).opens.own hg5'); have H5 := hide h5; obtain ⟨t0, t1, t2, t3⟩ := (unhide RS5).facts4; clear h5 hg5)))
  all_goals
    have RR3 := (unhide RR2).below hb3 (by omega)
    obtain ⟨hsd5, hB5, hrow5⟩ := (unhide hY _ hb3).openMore (by omega) (unhide H5) hg5' ho5'
    rw [unhide HUS] at hsd5
    have HSD := hide hsd5
    have RR5 := hide (hrow5 _ _ _ RR3)
    have HC5 := hide (((unhide HC2).keep hb3 (by omega)).keep hB5 hD)
    have HM5 := hide ((hMw.trans (Below.mv (hb3.mono (by omega)) D)).trans (Below.mv hB5 D))
    generalize qs.length + us.length = L at *
    clear hg5' ho5' RR3 hrow5 hsd5 hB5 hb3 d5 z5
    clear f0 f1 f2 f3 r0 r1 r2 r3

    obtain ⟨s0, s1, -⟩ := ((unhide RS5).put1 (u := .slice (some ⟨va, 0, none⟩) L vc)).facts4
    obtain ⟨u0, u1, u2, u3⟩ := ((unhide RR5).other (b' := w.heap.size) (o := 1) (u := .slice (some ⟨va, 0, none⟩) L vc) (by omega)).facts4
    go_wp2_with fail
    obtain ⟨e0, e1, -⟩ := ((((unhide RR5).other (b' := w.heap.size) (o := 1) (u := .slice (some ⟨va, 0, none⟩) L vc) (by omega)).put0 (u := .slice sa ps.length sc)).put1 (u := .slice (some ⟨va, 0, none⟩) L vc)).facts4
    have hP : Below lo w5 (((w5.setCell ⟨w.heap.size, 1, none⟩ (.slice (some ⟨va, 0, none⟩) L vc)).setCell ⟨w.heap.size + 1, 0, none⟩ (.slice sa ps.length sc)).setCell ⟨w.heap.size + 1, 1, none⟩ (.slice (some ⟨va, 0, none⟩) L vc)) := bput2 (bput (Below.refl _ _) hlo _) (by omega) _ _
    refine bodyPost_ret (v := .agg #[.slice sa ps.length sc, .slice (some ⟨va, 0, none⟩) L vc]) (by simp [results, Tryz.results28, go_sem, e0, e1]) rfl ⟨⟨_, rfl, ?_⟩, (unhide HC5).keep hP hD, (unhide HM5).trans (Below.mv hP D)⟩
    exact (((unhide HSD).putty (unhide RS5)).putty ((unhide RR5).other (by omega))).putty (((unhide RR5).other (by omega)).put0)

set_option maxHeartbeats 8000000 in
set_option maxRecDepth 100000 in
theorem l5spoil_none2 (lo N D : Nat) (xs : List Int) (sv ov : Value) (ps qs : List (Cl Int)) (w : World) (hst : StL lo w sv ov ps qs) (hlo : lo ≤ w.heap.size) (h : CdAt N D w xs) (hx : Cod xs) (hD : D < lo) (l1 : ps.length ≤ 5) (l2 : qs.length ≤ 5) (hk : xs.headD 0 % 7 = 2) (hp0 : ps = []) :
    Calls Tryz.prog 28 #[.agg #[sv, ov], .pointer (some ⟨D, 0, none⟩)] w (SpOut lo N D w xs.tail.tail (ps.map Cl.xs) (qs.map Cl.xs ++ mny 2 20000)) := by
  obtain ⟨i0, hi, hz0, hz1, hz2⟩ := info_parts Tryz.zinByteS
  have hl12 := And.intro l1 l2
  clear hl12
  have HX := hide hx
  have hh := hx.head
  have hh2 := hx.tail.head
  obtain ⟨y, hy⟩ : ∃ y, xs.headD 0 = y := ⟨_, rfl⟩
  obtain ⟨z, hz⟩ : ∃ z, xs.tail.headD 0 = z := ⟨_, rfl⟩
  rw [hy] at hk hh
  rw [hz] at hh2
  try rw [hz]
  have HY := hide hy
  have HZ := hide hz
  have hl0 : ¬ (0 : Int) < (ps.length : Int) := by rw [hp0]; simp
  have HP0 := hide hp0
  clear hp0
  obtain ⟨sa, sc, rfl⟩ := own_is hst.segs.own
  obtain ⟨oa, oc, rfl⟩ := own_is hst.opens.own
  have hb0 := below2 w (.cells #[.slice sa ps.length sc, .slice oa qs.length oc] 25) (.cells #[.slice none 0 0, .slice none 0 0] 25)
  have RS := (Row2.new w 25 (.slice sa ps.length sc) (.slice oa qs.length oc)).alloc (.cells #[.slice none 0 0, .slice none 0 0] 25)
  have RR := Row2.new (w.alloc (.cells #[.slice sa ps.length sc, .slice oa qs.length oc] 25)) 25 (.slice none 0 0) (.slice none 0 0)
  rw [sz_alloc] at RR
  have hzV : ((w.alloc (.cells #[.slice sa ps.length sc, .slice oa qs.length oc] 25)).alloc (.cells #[.slice none 0 0, .slice none 0 0] 25)).heap.size = w.heap.size + 2 := by simp
  have HST0 := hide (hst.keep hb0 (Nat.le_refl _))
  have HC0 := hide (h.keep hb0 (by omega))
  clear hy hz hx h hst
  go_enter Tryz.func28, Tryz.ntmps28
  go_wp2_with fail
  generalize (w.alloc (.cells #[.slice sa ps.length sc, .slice oa qs.length oc] 25)).alloc (.cells #[.slice none 0 0, .slice none 0 0] 25) = V at *
  have hVz : w.heap.size + 2 ≤ V.heap.size := by omega
  clear hzV
  refine (next_any N D xs V (unhide HC0) (unhide HX)).mono ?_
  rintro e w1 ⟨he, hc1, ho1⟩
  rw [unhide HY] at he
  subst he
  have hM1 : Mv V.heap.size D V w1 := ho1.mv _
  clear ho1
  go_wp2_with fail
  refine (next_any N D xs.tail w1 hc1 (unhide HX).tail).mono ?_
  rintro e w2 ⟨he, hc2, ho2⟩
  rw [unhide HZ] at he
  subst he
  have hM2 : Mv V.heap.size D V w2 := hM1.trans (ho2.mv _)
  have hZ2 : w.heap.size + 2 ≤ w2.heap.size := Nat.le_trans hVz hM2.size
  have HST2 := hide ((unhide HST0).mv hM2 (Nat.le_refl _) hD)
  have RS2 := hide (RS.mv hM2 (by omega) (by omega))
  have RR2 := hide (RR.mv hM2 (by omega) (by omega))
  have HC2 := hide hc2
  have hMw : Mv lo D w w2 := (Below.mv (hb0.mono hlo) D).trans (hM2.mono (by omega))
  obtain ⟨f0, f1, f2, f3⟩ := (unhide RS2).facts4
  obtain ⟨r0, r1, r2, r3⟩ := (unhide RR2).facts4
  clear hc1 hc2 ho2 hM1 hM2 RS RR hb0 HST0 HC0
  have hS : Hid (∀ W' : World, Below w2.heap.size w2 W' → W'.cell? ⟨w.heap.size, 1, none⟩ = some (.slice oa qs.length oc) ∧ W'.frozen? ⟨w.heap.size, 1, none⟩ = false) := fun W' hW => by
    have := ((unhide RS2).below hW (by omega)).facts4
    exact ⟨this.2.1, this.2.2.2⟩
  have hY : Hid (∀ W' : World, Below w2.heap.size w2 W' → StL lo W' (.slice sa ps.length sc) (.slice oa qs.length oc) ps qs) := fun W' hW => (unhide HST2).keep hW (Nat.le_refl _)
  go_wp2_with fail
  go_region_law (
    (first
      | (refine step_call_o 12 #[.const (.int .i64 2), .const (.int .i64 20000)] _ rfl #[.int .i64 (2 : Nat), .int .i64 (20000 : Nat)] rfl (by first | (simp [Act.eval]; done) | (simp [Act.eval, Act.put]; done) | (simp [Act.eval, hn4]; done) | (simp [Act.eval, Act.put, hn4]; done)) (run_l4many _ _) (l4many_any 2 20000 _ (by omega) (by omega) (by omega)) ?_; rintro e w4 ⟨⟨v4, rfl, us, hus, hlu⟩, hb4⟩; have hb3 : Below w2.heap.size w2 w4 := ⟨hb4.os, hb4.tape, hb4.output, hb4.size, hb4.block⟩; have hz3 := hb3.size; have HUS := hide hus; have HLU : Hid (LB w2.heap.size w4 v4 us) := hlu; have hul : 2 ≤ us.length := (by have h9 := congrArg List.length hus; rw [List.length_map, show (mny 2 20000).length = 2 from mnyK_len _ _ _] at h9; omega); have hul2 : us.length ≤ 1000 := (by have h9 := congrArg List.length hus; rw [List.length_map, show (mny 2 20000).length = 2 from mnyK_len _ _ _] at h9; omega); obtain ⟨ya, yc, rfl⟩ := own_is hlu.own; obtain ⟨d5, z5⟩ := unhide hS _ hb3; clear hus hlu hb4; refine ⟨_, rfl, ?_⟩)
      | (refine step_app_all lo rfl (.tmp 104) (.tmp 105) rfl (.slice oa qs.length oc) (.slice ya us.length yc) qs us (by first | (simp [Act.eval]; done) | (simp [Act.eval, Act.put]; done)) (by exact (unhide hY _ hb3).opens) (by first | (simp [Act.eval]; done) | (simp [Act.eval, Act.put]; done)) (by exact (unhide HLU).low (by omega)) (by omega) (by intro p hp q hq h0 h1 e; have h7 := ((unhide HST2).opens.ok p hp).lt h0; have h8 := (unhide HLU).lo q hq h1; omega) (by show lo ≤ w4.heap.size; omega) (by omega) (fun va vc w5 h5 hg5 ho5 => ?_); have hg5' : w4.grownBy w5 (Value.slice oa qs.length oc).ownBlock := ⟨hg5.os, hg5.tape, hg5.output, hg5.size, hg5.block⟩; have ho5' : OwnS w4 (.slice oa qs.length oc) (.slice (some ⟨va, 0, none⟩) (qs.length + us.length) vc) := ho5; have RS5 := hide (((unhide RS2).below hb3 (by omega)).grown (unhide hY _ hb3).opens.own hg5'); have H5 := hide h5; obtain ⟨t0, t1, t2, t3⟩ := (unhide RS5).facts4; clear h5 hg5)))
  all_goals
    have RR3 := (unhide RR2).below hb3 (by omega)
    obtain ⟨hsd5, hB5, hrow5⟩ := (unhide hY _ hb3).openMore (by omega) (unhide H5) hg5' ho5'
    rw [unhide HUS] at hsd5
    have HSD := hide hsd5
    have RR5 := hide (hrow5 _ _ _ RR3)
    have HC5 := hide (((unhide HC2).keep hb3 (by omega)).keep hB5 hD)
    have HM5 := hide ((hMw.trans (Below.mv (hb3.mono (by omega)) D)).trans (Below.mv hB5 D))
    generalize qs.length + us.length = L at *
    clear hg5' ho5' RR3 hrow5 hsd5 hB5 hb3 d5 z5
    clear f0 f1 f2 f3 r0 r1 r2 r3

    obtain ⟨s0, s1, -⟩ := ((unhide RS5).put1 (u := .slice (some ⟨va, 0, none⟩) L vc)).facts4
    obtain ⟨u0, u1, u2, u3⟩ := ((unhide RR5).other (b' := w.heap.size) (o := 1) (u := .slice (some ⟨va, 0, none⟩) L vc) (by omega)).facts4
    go_wp2_with fail
    obtain ⟨e0, e1, -⟩ := ((((unhide RR5).other (b' := w.heap.size) (o := 1) (u := .slice (some ⟨va, 0, none⟩) L vc) (by omega)).put0 (u := .slice sa ps.length sc)).put1 (u := .slice (some ⟨va, 0, none⟩) L vc)).facts4
    have hP : Below lo w5 (((w5.setCell ⟨w.heap.size, 1, none⟩ (.slice (some ⟨va, 0, none⟩) L vc)).setCell ⟨w.heap.size + 1, 0, none⟩ (.slice sa ps.length sc)).setCell ⟨w.heap.size + 1, 1, none⟩ (.slice (some ⟨va, 0, none⟩) L vc)) := bput2 (bput (Below.refl _ _) hlo _) (by omega) _ _
    refine bodyPost_ret (v := .agg #[.slice sa ps.length sc, .slice (some ⟨va, 0, none⟩) L vc]) (by simp [results, Tryz.results28, go_sem, e0, e1]) rfl ⟨⟨_, rfl, ?_⟩, (unhide HC5).keep hP hD, (unhide HM5).trans (Below.mv hP D)⟩
    exact (((unhide HSD).putty (unhide RS5)).putty ((unhide RR5).other (by omega))).putty (((unhide RR5).other (by omega)).put0)

set_option maxHeartbeats 8000000 in
set_option maxRecDepth 100000 in
theorem l5spoil_none3 (lo N D : Nat) (xs : List Int) (sv ov : Value) (ps qs : List (Cl Int)) (w : World) (hst : StL lo w sv ov ps qs) (hlo : lo ≤ w.heap.size) (h : CdAt N D w xs) (hx : Cod xs) (hD : D < lo) (l1 : ps.length ≤ 5) (l2 : qs.length ≤ 5) (hk : xs.headD 0 % 7 = 3) (hp0 : ps = []) :
    Calls Tryz.prog 28 #[.agg #[sv, ov], .pointer (some ⟨D, 0, none⟩)] w (SpOut lo N D w xs.tail.tail (ps.map Cl.xs) (qs.map Cl.xs ++ mny 2 20000)) := by
  obtain ⟨i0, hi, hz0, hz1, hz2⟩ := info_parts Tryz.zinByteS
  have hl12 := And.intro l1 l2
  clear hl12
  have HX := hide hx
  have hh := hx.head
  have hh2 := hx.tail.head
  obtain ⟨y, hy⟩ : ∃ y, xs.headD 0 = y := ⟨_, rfl⟩
  obtain ⟨z, hz⟩ : ∃ z, xs.tail.headD 0 = z := ⟨_, rfl⟩
  rw [hy] at hk hh
  rw [hz] at hh2
  try rw [hz]
  have HY := hide hy
  have HZ := hide hz
  have hl0 : ¬ (0 : Int) < (ps.length : Int) := by rw [hp0]; simp
  have HP0 := hide hp0
  clear hp0
  obtain ⟨sa, sc, rfl⟩ := own_is hst.segs.own
  obtain ⟨oa, oc, rfl⟩ := own_is hst.opens.own
  have hb0 := below2 w (.cells #[.slice sa ps.length sc, .slice oa qs.length oc] 25) (.cells #[.slice none 0 0, .slice none 0 0] 25)
  have RS := (Row2.new w 25 (.slice sa ps.length sc) (.slice oa qs.length oc)).alloc (.cells #[.slice none 0 0, .slice none 0 0] 25)
  have RR := Row2.new (w.alloc (.cells #[.slice sa ps.length sc, .slice oa qs.length oc] 25)) 25 (.slice none 0 0) (.slice none 0 0)
  rw [sz_alloc] at RR
  have hzV : ((w.alloc (.cells #[.slice sa ps.length sc, .slice oa qs.length oc] 25)).alloc (.cells #[.slice none 0 0, .slice none 0 0] 25)).heap.size = w.heap.size + 2 := by simp
  have HST0 := hide (hst.keep hb0 (Nat.le_refl _))
  have HC0 := hide (h.keep hb0 (by omega))
  clear hy hz hx h hst
  go_enter Tryz.func28, Tryz.ntmps28
  go_wp2_with fail
  generalize (w.alloc (.cells #[.slice sa ps.length sc, .slice oa qs.length oc] 25)).alloc (.cells #[.slice none 0 0, .slice none 0 0] 25) = V at *
  have hVz : w.heap.size + 2 ≤ V.heap.size := by omega
  clear hzV
  refine (next_any N D xs V (unhide HC0) (unhide HX)).mono ?_
  rintro e w1 ⟨he, hc1, ho1⟩
  rw [unhide HY] at he
  subst he
  have hM1 : Mv V.heap.size D V w1 := ho1.mv _
  clear ho1
  go_wp2_with fail
  refine (next_any N D xs.tail w1 hc1 (unhide HX).tail).mono ?_
  rintro e w2 ⟨he, hc2, ho2⟩
  rw [unhide HZ] at he
  subst he
  have hM2 : Mv V.heap.size D V w2 := hM1.trans (ho2.mv _)
  have hZ2 : w.heap.size + 2 ≤ w2.heap.size := Nat.le_trans hVz hM2.size
  have HST2 := hide ((unhide HST0).mv hM2 (Nat.le_refl _) hD)
  have RS2 := hide (RS.mv hM2 (by omega) (by omega))
  have RR2 := hide (RR.mv hM2 (by omega) (by omega))
  have HC2 := hide hc2
  have hMw : Mv lo D w w2 := (Below.mv (hb0.mono hlo) D).trans (hM2.mono (by omega))
  obtain ⟨f0, f1, f2, f3⟩ := (unhide RS2).facts4
  obtain ⟨r0, r1, r2, r3⟩ := (unhide RR2).facts4
  clear hc1 hc2 ho2 hM1 hM2 RS RR hb0 HST0 HC0
  have hS : Hid (∀ W' : World, Below w2.heap.size w2 W' → W'.cell? ⟨w.heap.size, 1, none⟩ = some (.slice oa qs.length oc) ∧ W'.frozen? ⟨w.heap.size, 1, none⟩ = false) := fun W' hW => by
    have := ((unhide RS2).below hW (by omega)).facts4
    exact ⟨this.2.1, this.2.2.2⟩
  have hY : Hid (∀ W' : World, Below w2.heap.size w2 W' → StL lo W' (.slice sa ps.length sc) (.slice oa qs.length oc) ps qs) := fun W' hW => (unhide HST2).keep hW (Nat.le_refl _)
  go_wp2_with fail
  go_region_law (
    (first
      | (refine step_call_o 12 #[.const (.int .i64 2), .const (.int .i64 20000)] _ rfl #[.int .i64 (2 : Nat), .int .i64 (20000 : Nat)] rfl (by first | (simp [Act.eval]; done) | (simp [Act.eval, Act.put]; done) | (simp [Act.eval, hn4]; done) | (simp [Act.eval, Act.put, hn4]; done)) (run_l4many _ _) (l4many_any 2 20000 _ (by omega) (by omega) (by omega)) ?_; rintro e w4 ⟨⟨v4, rfl, us, hus, hlu⟩, hb4⟩; have hb3 : Below w2.heap.size w2 w4 := ⟨hb4.os, hb4.tape, hb4.output, hb4.size, hb4.block⟩; have hz3 := hb3.size; have HUS := hide hus; have HLU : Hid (LB w2.heap.size w4 v4 us) := hlu; have hul : 2 ≤ us.length := (by have h9 := congrArg List.length hus; rw [List.length_map, show (mny 2 20000).length = 2 from mnyK_len _ _ _] at h9; omega); have hul2 : us.length ≤ 1000 := (by have h9 := congrArg List.length hus; rw [List.length_map, show (mny 2 20000).length = 2 from mnyK_len _ _ _] at h9; omega); obtain ⟨ya, yc, rfl⟩ := own_is hlu.own; obtain ⟨d5, z5⟩ := unhide hS _ hb3; clear hus hlu hb4; refine ⟨_, rfl, ?_⟩)
      | (refine step_app_all lo rfl (.tmp 104) (.tmp 105) rfl (.slice oa qs.length oc) (.slice ya us.length yc) qs us (by first | (simp [Act.eval]; done) | (simp [Act.eval, Act.put]; done)) (by exact (unhide hY _ hb3).opens) (by first | (simp [Act.eval]; done) | (simp [Act.eval, Act.put]; done)) (by exact (unhide HLU).low (by omega)) (by omega) (by intro p hp q hq h0 h1 e; have h7 := ((unhide HST2).opens.ok p hp).lt h0; have h8 := (unhide HLU).lo q hq h1; omega) (by show lo ≤ w4.heap.size; omega) (by omega) (fun va vc w5 h5 hg5 ho5 => ?_); have hg5' : w4.grownBy w5 (Value.slice oa qs.length oc).ownBlock := ⟨hg5.os, hg5.tape, hg5.output, hg5.size, hg5.block⟩; have ho5' : OwnS w4 (.slice oa qs.length oc) (.slice (some ⟨va, 0, none⟩) (qs.length + us.length) vc) := ho5; have RS5 := hide (((unhide RS2).below hb3 (by omega)).grown (unhide hY _ hb3).opens.own hg5'); have H5 := hide h5; obtain ⟨t0, t1, t2, t3⟩ := (unhide RS5).facts4; clear h5 hg5)))
  all_goals
    have RR3 := (unhide RR2).below hb3 (by omega)
    obtain ⟨hsd5, hB5, hrow5⟩ := (unhide hY _ hb3).openMore (by omega) (unhide H5) hg5' ho5'
    rw [unhide HUS] at hsd5
    have HSD := hide hsd5
    have RR5 := hide (hrow5 _ _ _ RR3)
    have HC5 := hide (((unhide HC2).keep hb3 (by omega)).keep hB5 hD)
    have HM5 := hide ((hMw.trans (Below.mv (hb3.mono (by omega)) D)).trans (Below.mv hB5 D))
    generalize qs.length + us.length = L at *
    clear hg5' ho5' RR3 hrow5 hsd5 hB5 hb3 d5 z5
    clear f0 f1 f2 f3 r0 r1 r2 r3

    obtain ⟨s0, s1, -⟩ := ((unhide RS5).put1 (u := .slice (some ⟨va, 0, none⟩) L vc)).facts4
    obtain ⟨u0, u1, u2, u3⟩ := ((unhide RR5).other (b' := w.heap.size) (o := 1) (u := .slice (some ⟨va, 0, none⟩) L vc) (by omega)).facts4
    go_wp2_with fail
    obtain ⟨e0, e1, -⟩ := ((((unhide RR5).other (b' := w.heap.size) (o := 1) (u := .slice (some ⟨va, 0, none⟩) L vc) (by omega)).put0 (u := .slice sa ps.length sc)).put1 (u := .slice (some ⟨va, 0, none⟩) L vc)).facts4
    have hP : Below lo w5 (((w5.setCell ⟨w.heap.size, 1, none⟩ (.slice (some ⟨va, 0, none⟩) L vc)).setCell ⟨w.heap.size + 1, 0, none⟩ (.slice sa ps.length sc)).setCell ⟨w.heap.size + 1, 1, none⟩ (.slice (some ⟨va, 0, none⟩) L vc)) := bput2 (bput (Below.refl _ _) hlo _) (by omega) _ _
    refine bodyPost_ret (v := .agg #[.slice sa ps.length sc, .slice (some ⟨va, 0, none⟩) L vc]) (by simp [results, Tryz.results28, go_sem, e0, e1]) rfl ⟨⟨_, rfl, ?_⟩, (unhide HC5).keep hP hD, (unhide HM5).trans (Below.mv hP D)⟩
    exact (((unhide HSD).putty (unhide RS5)).putty ((unhide RR5).other (by omega))).putty (((unhide RR5).other (by omega)).put0)

set_option maxHeartbeats 8000000 in
set_option maxRecDepth 100000 in
theorem l5spoil_5 (lo N D : Nat) (xs : List Int) (sv ov : Value) (ps qs : List (Cl Int)) (w : World) (hst : StL lo w sv ov ps qs) (hlo : lo ≤ w.heap.size) (h : CdAt N D w xs) (hx : Cod xs) (hD : D < lo) (l1 : ps.length ≤ 5) (l2 : qs.length ≤ 5) (hk : xs.headD 0 % 7 = 5) :
    Calls Tryz.prog 28 #[.agg #[sv, ov], .pointer (some ⟨D, 0, none⟩)] w (SpOut lo N D w xs.tail.tail (ps.map Cl.xs ++ [[]]) (qs.map Cl.xs)) := by
  obtain ⟨i0, hi, hz0, hz1, hz2⟩ := info_parts Tryz.zinByteS
  have hl12 := And.intro l1 l2
  clear hl12
  have HX := hide hx
  have hh := hx.head
  have hh2 := hx.tail.head
  obtain ⟨y, hy⟩ : ∃ y, xs.headD 0 = y := ⟨_, rfl⟩
  obtain ⟨z, hz⟩ : ∃ z, xs.tail.headD 0 = z := ⟨_, rfl⟩
  rw [hy] at hk hh
  rw [hz] at hh2
  try rw [hz]
  have HY := hide hy
  have HZ := hide hz
  obtain ⟨sa, sc, rfl⟩ := own_is hst.segs.own
  obtain ⟨oa, oc, rfl⟩ := own_is hst.opens.own
  have hb0 := below2 w (.cells #[.slice sa ps.length sc, .slice oa qs.length oc] 25) (.cells #[.slice none 0 0, .slice none 0 0] 25)
  have RS := (Row2.new w 25 (.slice sa ps.length sc) (.slice oa qs.length oc)).alloc (.cells #[.slice none 0 0, .slice none 0 0] 25)
  have RR := Row2.new (w.alloc (.cells #[.slice sa ps.length sc, .slice oa qs.length oc] 25)) 25 (.slice none 0 0) (.slice none 0 0)
  rw [sz_alloc] at RR
  have hzV : ((w.alloc (.cells #[.slice sa ps.length sc, .slice oa qs.length oc] 25)).alloc (.cells #[.slice none 0 0, .slice none 0 0] 25)).heap.size = w.heap.size + 2 := by simp
  have HST0 := hide (hst.keep hb0 (Nat.le_refl _))
  have HC0 := hide (h.keep hb0 (by omega))
  clear hy hz hx h hst
  go_enter Tryz.func28, Tryz.ntmps28
  go_wp2_with fail
  generalize (w.alloc (.cells #[.slice sa ps.length sc, .slice oa qs.length oc] 25)).alloc (.cells #[.slice none 0 0, .slice none 0 0] 25) = V at *
  have hVz : w.heap.size + 2 ≤ V.heap.size := by omega
  clear hzV
  refine (next_any N D xs V (unhide HC0) (unhide HX)).mono ?_
  rintro e w1 ⟨he, hc1, ho1⟩
  rw [unhide HY] at he
  subst he
  have hM1 : Mv V.heap.size D V w1 := ho1.mv _
  clear ho1
  go_wp2_with fail
  refine (next_any N D xs.tail w1 hc1 (unhide HX).tail).mono ?_
  rintro e w2 ⟨he, hc2, ho2⟩
  rw [unhide HZ] at he
  subst he
  have hM2 : Mv V.heap.size D V w2 := hM1.trans (ho2.mv _)
  have hZ2 : w.heap.size + 2 ≤ w2.heap.size := Nat.le_trans hVz hM2.size
  have HST2 := hide ((unhide HST0).mv hM2 (Nat.le_refl _) hD)
  have RS2 := hide (RS.mv hM2 (by omega) (by omega))
  have RR2 := hide (RR.mv hM2 (by omega) (by omega))
  have HC2 := hide hc2
  have hMw : Mv lo D w w2 := (Below.mv (hb0.mono hlo) D).trans (hM2.mono (by omega))
  obtain ⟨f0, f1, f2, f3⟩ := (unhide RS2).facts4
  obtain ⟨r0, r1, r2, r3⟩ := (unhide RR2).facts4
  clear hc1 hc2 ho2 hM1 hM2 RS RR hb0 HST0 HC0
  go_wp2_with (at_builtin; refine wpList_append_own_at _ rfl _ _ 23 rfl lo 22 i0 (.slice none 0 0) 1 24 Tryz.underlying23 hi hz0 hz1 hz2 rfl (by decide) (.slice sa ps.length sc) _ _ rfl (World.ownsRow.alloc (w := w2) (unhide HST2).segs.own _) ⟨w2.heap.size, 0, none⟩ 1 1 [.slice none 0 0] rfl rfl (cell_one_new _ _ _) (by intro u hu; simp at hu; subst hu; rfl) (by unfold maxLen; omega) (by omega) (by rw [sz_alloc]; omega) ?_)
  intro v5 w5 h5 hg5 _ ho5
  have hg5' : (w2.alloc (.cells #[.slice none 0 0] 22)).grownBy w5 (Value.slice sa ps.length sc).ownBlock := hg5
  have ho5' : OwnS (w2.alloc (.cells #[.slice none 0 0] 22)) (.slice sa ps.length sc) v5 := ho5.imp id (fun e => ⟨w2.heap.size + 1, by rw [sz_alloc]; exact Nat.le_refl _, e⟩)
  have hb3 := below1 w2 (.cells #[.slice none 0 0] 22)
  generalize w2.alloc (.cells #[.slice none 0 0] 22) = w3 at hg5' ho5' hb3
  have hz3 := hb3.size
  have RS3 := (unhide RS2).below hb3 (by omega)
  have RR3 := (unhide RR2).below hb3 (by omega)
  obtain ⟨hsd5, hB5, hrow5⟩ := ((unhide HST2).keep hb3 (Nat.le_refl _)).segMore (p := ⟨.slice none 0 0, [], 0⟩) (by omega) ⟨none, 0, rfl, ⟨Nat.le_refl _, Nat.zero_le _⟩, fun h => absurd h (by simp)⟩ (fun h => absurd h (by simp)) h5 hg5' ho5'
  have HSD := hide hsd5
  have RS5 := hide (hrow5 _ _ _ RS3)
  have RR5 := hide (hrow5 _ _ _ RR3)
  have HC5 := hide (((unhide HC2).keep hb3 (by omega)).keep hB5 hD)
  have HM5 := hide ((hMw.trans (Below.mv (hb3.mono (by omega)) D)).trans (Below.mv hB5 D))
  obtain ⟨t0, t1, t2, t3⟩ := (unhide RS5).facts4
  obtain ⟨g5, c5, rfl⟩ := ownsRow_succ h5
  clear h5 hg5 ho5 hg5' ho5' RS3 RR3 hrow5 hsd5 hB5 hb3
  clear f0 f1 f2 f3 r0 r1 r2 r3

  obtain ⟨s0, s1, -⟩ := ((unhide RS5).put0 (u := .slice (some ⟨g5, 0, none⟩) (ps.length + 1) c5)).facts4
  obtain ⟨u0, u1, u2, u3⟩ := ((unhide RR5).other (b' := w.heap.size) (o := 0) (u := .slice (some ⟨g5, 0, none⟩) (ps.length + 1) c5) (by omega)).facts4
  go_wp2_with fail
  obtain ⟨e0, e1, -⟩ := ((((unhide RR5).other (b' := w.heap.size) (o := 0) (u := .slice (some ⟨g5, 0, none⟩) (ps.length + 1) c5) (by omega)).put0 (u := .slice (some ⟨g5, 0, none⟩) (ps.length + 1) c5)).put1 (u := .slice oa qs.length oc)).facts4
  have hP : Below lo w5 (((w5.setCell ⟨w.heap.size, 0, none⟩ (.slice (some ⟨g5, 0, none⟩) (ps.length + 1) c5)).setCell ⟨w.heap.size + 1, 0, none⟩ (.slice (some ⟨g5, 0, none⟩) (ps.length + 1) c5)).setCell ⟨w.heap.size + 1, 1, none⟩ (.slice oa qs.length oc)) := bput2 (bput (Below.refl _ _) hlo _) (by omega) _ _
  refine bodyPost_ret (v := .agg #[.slice (some ⟨g5, 0, none⟩) (ps.length + 1) c5, .slice oa qs.length oc]) (by simp [results, Tryz.results28, go_sem, e0, e1]) rfl ⟨⟨_, rfl, ?_⟩, (unhide HC5).keep hP hD, (unhide HM5).trans (Below.mv hP D)⟩
  exact (((unhide HSD).putty (unhide RS5)).putty ((unhide RR5).other (by omega))).putty (((unhide RR5).other (by omega)).put0)

set_option maxHeartbeats 8000000 in
set_option maxRecDepth 100000 in
theorem l5spoil_2 (lo N D : Nat) (xs : List Int) (sv ov : Value) (ps qs : List (Cl Int)) (w : World) (hst : StL lo w sv ov ps qs) (hlo : lo ≤ w.heap.size) (h : CdAt N D w xs) (hx : Cod xs) (hD : D < lo) (l1 : ps.length ≤ 5) (l2 : qs.length ≤ 5) (hk : xs.headD 0 % 7 = 2) (hp0 : ps ≠ []) :
    Calls Tryz.prog 28 #[.agg #[sv, ov], .pointer (some ⟨D, 0, none⟩)] w (SpOut lo N D w xs.tail.tail ((ps.map Cl.xs).tail) (qs.map Cl.xs)) := by
  obtain ⟨i0, hi, hz0, hz1, hz2⟩ := info_parts Tryz.zinByteS
  have hl12 := And.intro l1 l2
  clear hl12
  have HX := hide hx
  have hh := hx.head
  have hh2 := hx.tail.head
  obtain ⟨y, hy⟩ : ∃ y, xs.headD 0 = y := ⟨_, rfl⟩
  obtain ⟨z, hz⟩ : ∃ z, xs.tail.headD 0 = z := ⟨_, rfl⟩
  rw [hy] at hk hh
  rw [hz] at hh2
  try rw [hz]
  have HY := hide hy
  have HZ := hide hz
  obtain ⟨sa, sc, rfl⟩ := own_is hst.segs.own
  obtain ⟨oa, oc, rfl⟩ := own_is hst.opens.own
  have hb0 := below2 w (.cells #[.slice sa ps.length sc, .slice oa qs.length oc] 25) (.cells #[.slice none 0 0, .slice none 0 0] 25)
  have RS := (Row2.new w 25 (.slice sa ps.length sc) (.slice oa qs.length oc)).alloc (.cells #[.slice none 0 0, .slice none 0 0] 25)
  have RR := Row2.new (w.alloc (.cells #[.slice sa ps.length sc, .slice oa qs.length oc] 25)) 25 (.slice none 0 0) (.slice none 0 0)
  rw [sz_alloc] at RR
  have hzV : ((w.alloc (.cells #[.slice sa ps.length sc, .slice oa qs.length oc] 25)).alloc (.cells #[.slice none 0 0, .slice none 0 0] 25)).heap.size = w.heap.size + 2 := by simp
  have HST0 := hide (hst.keep hb0 (Nat.le_refl _))
  have HC0 := hide (h.keep hb0 (by omega))
  clear hy hz hx h hst
  go_enter Tryz.func28, Tryz.ntmps28
  go_wp2_with fail
  generalize (w.alloc (.cells #[.slice sa ps.length sc, .slice oa qs.length oc] 25)).alloc (.cells #[.slice none 0 0, .slice none 0 0] 25) = V at *
  have hVz : w.heap.size + 2 ≤ V.heap.size := by omega
  clear hzV
  refine (next_any N D xs V (unhide HC0) (unhide HX)).mono ?_
  rintro e w1 ⟨he, hc1, ho1⟩
  rw [unhide HY] at he
  subst he
  have hM1 : Mv V.heap.size D V w1 := ho1.mv _
  clear ho1
  go_wp2_with fail
  refine (next_any N D xs.tail w1 hc1 (unhide HX).tail).mono ?_
  rintro e w2 ⟨he, hc2, ho2⟩
  rw [unhide HZ] at he
  subst he
  have hM2 : Mv V.heap.size D V w2 := hM1.trans (ho2.mv _)
  have hZ2 : w.heap.size + 2 ≤ w2.heap.size := Nat.le_trans hVz hM2.size
  have HST2 := hide ((unhide HST0).mv hM2 (Nat.le_refl _) hD)
  have RS2 := hide (RS.mv hM2 (by omega) (by omega))
  have RR2 := hide (RR.mv hM2 (by omega) (by omega))
  have HC2 := hide hc2
  have hMw : Mv lo D w w2 := (Below.mv (hb0.mono hlo) D).trans (hM2.mono (by omega))
  obtain ⟨f0, f1, f2, f3⟩ := (unhide RS2).facts4
  obtain ⟨r0, r1, r2, r3⟩ := (unhide RR2).facts4
  clear hc1 hc2 ho2 hM1 hM2 RS RR hb0 HST0 HC0
  obtain ⟨m, hm⟩ : ∃ m, ps.length = m + 1 := ⟨ps.length - 1, by have := List.length_pos_iff.2 hp0; omega⟩
  rcases (unhide HST2).segs.own.2 with ⟨e9, hz9⟩ | ⟨g, cap, cur, e9, -, -, hnc, hcm, -⟩
  · omega
  · simp only [Value.slice.injEq] at e9
    obtain ⟨rfl, -, rfl⟩ := e9
    have hsr := row_ssR (unhide HST2).segs.own (unhide HST2).segs.ok
    have hbd := (unhide HST2).bound
    have HOP := hide (unhide HST2).opens
    have HFR := hide (unhide HST2)
    rw [hm] at hsr hnc RS2 f0
    have hbd1 := hbd.1
    have hbd2 := hbd.2
    rw [hm] at hbd1 hbd2 ⊢
    have hl9 : (ps.map Cl.xs).tail.length = m := by rw [List.length_tail, List.length_map]; omega
    have HL9 := hide hl9
    have hm1 : (1 : Int) ≤ ((m + 1 : Nat) : Int) := by omega
    have hm2 : (0 : Int) < ((m + 1 : Nat) : Int) := by omega
    have hm3 : m ≤ 4 := by omega
    have HC5 := HC2
    have HM5 := hide hMw
    have RR5 := RR2
    have RS5 := RS2
    have HM := hide hm
    clear hm hl9 hbd HST2
    rcases (show sc = 1 ∨ ∃ c, sc = c + 2 from if h9 : sc = 1 then Or.inl h9 else Or.inr ⟨sc - 2, by omega⟩) with rfl | ⟨c, rfl⟩
    · obtain rfl : m = 0 := by omega
      have HSD : Hid (StD lo w2 (.agg #[.slice (some ⟨g, 0, none⟩) 0 0, .slice oa qs.length oc]) (ps.map Cl.xs).tail (qs.map Cl.xs)) := by
        rw [List.eq_nil_of_length_eq_zero (unhide HL9)]
        exact ⟨_, _, _, qs, rfl, ⟨_, _, rfl, ⟨Nat.le_refl _, Nat.zero_le _⟩, fun h => absurd h (by simp)⟩, unhide HOP, rfl, hbd1, hbd2⟩
      clear hsr hbd1 hbd2

      obtain ⟨s0, s1, -⟩ := ((unhide RS5).put0 (u := .slice (some ⟨g, 0, none⟩) 0 0)).facts4
      obtain ⟨u0, u1, u2, u3⟩ := ((unhide RR5).other (b' := w.heap.size) (o := 0) (u := .slice (some ⟨g, 0, none⟩) 0 0) (by omega)).facts4
      go_wp2_with fail
      obtain ⟨e0, e1, -⟩ := ((((unhide RR5).other (b' := w.heap.size) (o := 0) (u := .slice (some ⟨g, 0, none⟩) 0 0) (by omega)).put0 (u := .slice (some ⟨g, 0, none⟩) 0 0)).put1 (u := .slice oa qs.length oc)).facts4
      have hP : Below lo w2 (((w2.setCell ⟨w.heap.size, 0, none⟩ (.slice (some ⟨g, 0, none⟩) 0 0)).setCell ⟨w.heap.size + 1, 0, none⟩ (.slice (some ⟨g, 0, none⟩) 0 0)).setCell ⟨w.heap.size + 1, 1, none⟩ (.slice oa qs.length oc)) := bput2 (bput (Below.refl _ _) hlo _) (by omega) _ _
      refine bodyPost_ret (v := .agg #[.slice (some ⟨g, 0, none⟩) 0 0, .slice oa qs.length oc]) (by simp [results, Tryz.results28, go_sem, e0, e1]) rfl ⟨⟨_, rfl, ?_⟩, (unhide HC5).keep hP hD, (unhide HM5).trans (Below.mv hP D)⟩
      exact (((unhide HSD).putty (unhide RS5)).putty ((unhide RR5).other (by omega))).putty (((unhide RR5).other (by omega)).put0)

    · have HSD : Hid (StD lo w2 (.agg #[.slice (some ⟨g, 1, none⟩) m (c + 1), .slice oa qs.length oc]) (ps.map Cl.xs).tail (qs.map Cl.xs)) :=
        ⟨_, _, _, qs, rfl, hsr.tail, unhide HOP, rfl, hbd1, hbd2⟩
      clear hsr hbd1 hbd2

      obtain ⟨s0, s1, -⟩ := ((unhide RS5).put0 (u := .slice (some ⟨g, 1, none⟩) m (c + 1))).facts4
      obtain ⟨u0, u1, u2, u3⟩ := ((unhide RR5).other (b' := w.heap.size) (o := 0) (u := .slice (some ⟨g, 1, none⟩) m (c + 1)) (by omega)).facts4
      go_wp2_with fail
      obtain ⟨e0, e1, -⟩ := ((((unhide RR5).other (b' := w.heap.size) (o := 0) (u := .slice (some ⟨g, 1, none⟩) m (c + 1)) (by omega)).put0 (u := .slice (some ⟨g, 1, none⟩) m (c + 1))).put1 (u := .slice oa qs.length oc)).facts4
      have hP : Below lo w2 (((w2.setCell ⟨w.heap.size, 0, none⟩ (.slice (some ⟨g, 1, none⟩) m (c + 1))).setCell ⟨w.heap.size + 1, 0, none⟩ (.slice (some ⟨g, 1, none⟩) m (c + 1))).setCell ⟨w.heap.size + 1, 1, none⟩ (.slice oa qs.length oc)) := bput2 (bput (Below.refl _ _) hlo _) (by omega) _ _
      refine bodyPost_ret (v := .agg #[.slice (some ⟨g, 1, none⟩) m (c + 1), .slice oa qs.length oc]) (by simp [results, Tryz.results28, go_sem, e0, e1]) rfl ⟨⟨_, rfl, ?_⟩, (unhide HC5).keep hP hD, (unhide HM5).trans (Below.mv hP D)⟩
      exact (((unhide HSD).putty (unhide RS5)).putty ((unhide RR5).other (by omega))).putty (((unhide RR5).other (by omega)).put0)

set_option maxHeartbeats 8000000 in
set_option maxRecDepth 100000 in
theorem l5spoil_3 (lo N D : Nat) (xs : List Int) (sv ov : Value) (ps qs : List (Cl Int)) (w : World) (hst : StL lo w sv ov ps qs) (hlo : lo ≤ w.heap.size) (h : CdAt N D w xs) (hx : Cod xs) (hD : D < lo) (l1 : ps.length ≤ 5) (l2 : qs.length ≤ 5) (hk : xs.headD 0 % 7 = 3) (m : Nat) (p : Cl Int) (hm : ps.length = m + 1) (hp : ps[m]? = some p) (hp0 : 0 < p.xs.length) :
    Calls Tryz.prog 28 #[.agg #[sv, ov], .pointer (some ⟨D, 0, none⟩)] w (SpOut lo N D w xs.tail.tail (ps.map Cl.xs ++ [p.xs]) (qs.map Cl.xs)) := by
  obtain ⟨i0, hi, hz0, hz1, hz2⟩ := info_parts Tryz.zinByteS
  have hl12 := And.intro l1 l2
  clear hl12
  have HX := hide hx
  have hh := hx.head
  have hh2 := hx.tail.head
  obtain ⟨y, hy⟩ : ∃ y, xs.headD 0 = y := ⟨_, rfl⟩
  obtain ⟨z, hz⟩ : ∃ z, xs.tail.headD 0 = z := ⟨_, rfl⟩
  rw [hy] at hk hh
  rw [hz] at hh2
  try rw [hz]
  have HY := hide hy
  have HZ := hide hz
  have HMM := hide hm
  clear hm
  obtain ⟨sa, sc, rfl⟩ := own_is hst.segs.own
  obtain ⟨oa, oc, rfl⟩ := own_is hst.opens.own
  have hb0 := below2 w (.cells #[.slice sa ps.length sc, .slice oa qs.length oc] 25) (.cells #[.slice none 0 0, .slice none 0 0] 25)
  have RS := (Row2.new w 25 (.slice sa ps.length sc) (.slice oa qs.length oc)).alloc (.cells #[.slice none 0 0, .slice none 0 0] 25)
  have RR := Row2.new (w.alloc (.cells #[.slice sa ps.length sc, .slice oa qs.length oc] 25)) 25 (.slice none 0 0) (.slice none 0 0)
  rw [sz_alloc] at RR
  have hzV : ((w.alloc (.cells #[.slice sa ps.length sc, .slice oa qs.length oc] 25)).alloc (.cells #[.slice none 0 0, .slice none 0 0] 25)).heap.size = w.heap.size + 2 := by simp
  have HST0 := hide (hst.keep hb0 (Nat.le_refl _))
  have HC0 := hide (h.keep hb0 (by omega))
  clear hy hz hx h hst
  go_enter Tryz.func28, Tryz.ntmps28
  go_wp2_with fail
  generalize (w.alloc (.cells #[.slice sa ps.length sc, .slice oa qs.length oc] 25)).alloc (.cells #[.slice none 0 0, .slice none 0 0] 25) = V at *
  have hVz : w.heap.size + 2 ≤ V.heap.size := by omega
  clear hzV
  refine (next_any N D xs V (unhide HC0) (unhide HX)).mono ?_
  rintro e w1 ⟨he, hc1, ho1⟩
  rw [unhide HY] at he
  subst he
  have hM1 : Mv V.heap.size D V w1 := ho1.mv _
  clear ho1
  go_wp2_with fail
  refine (next_any N D xs.tail w1 hc1 (unhide HX).tail).mono ?_
  rintro e w2 ⟨he, hc2, ho2⟩
  rw [unhide HZ] at he
  subst he
  have hM2 : Mv V.heap.size D V w2 := hM1.trans (ho2.mv _)
  have hZ2 : w.heap.size + 2 ≤ w2.heap.size := Nat.le_trans hVz hM2.size
  have HST2 := hide ((unhide HST0).mv hM2 (Nat.le_refl _) hD)
  have RS2 := hide (RS.mv hM2 (by omega) (by omega))
  have RR2 := hide (RR.mv hM2 (by omega) (by omega))
  have HC2 := hide hc2
  have hMw : Mv lo D w w2 := (Below.mv (hb0.mono hlo) D).trans (hM2.mono (by omega))
  obtain ⟨f0, f1, f2, f3⟩ := (unhide RS2).facts4
  obtain ⟨r0, r1, r2, r3⟩ := (unhide RR2).facts4
  clear hc1 hc2 ho2 hM1 hM2 RS RR hb0 HST0 HC0
  have hm := unhide HMM
  obtain ⟨g, cap, off, pc, e1, hcg, hpv, -, -⟩ := LB.place (unhide HST2).segs hp hp0
  have hpm : p ∈ ps := List.mem_of_getElem? hp
  have HPOK := hide ((unhide HST2).segs.ok p hpm)
  have HPM := hide hpm
  simp only [Value.slice.injEq] at e1
  obtain ⟨rfl, -, rfl⟩ := e1
  have hm2 : (0 : Int) < (ps.length : Int) := by omega
  have hm3 : m < ps.length := by omega
  have hm4 : (m : Int) < (ps.length : Int) := by omega
  have hi1 : wrap64 ((ps.length : Int) - 1) = (m : Int) := by unfold wrap64; omega
  have hi2 : IntKind.i64.wrap ((ps.length : Int) - 1) = (m : Int) := by rw [k64i (by omega) (by omega)]; omega
  have hi3 : (ps.length : Int) - 1 = (m : Int) := by omega
  have hi4 : IntKind.i64.wrap (m : Int) = (m : Int) := k64i (by omega) (by omega)
  rw [hpv] at hcg
  have HPV := hide hpv
  obtain ⟨x0, x1, x2, x3⟩ := ((unhide RS2).alloc (.cells #[.slice (some ⟨p.b, off, none⟩) p.xs.length pc] 22)).facts4
  clear hm hp hpv hpm
  go_wp2_with fail
  go_region_law (refine step_append_lies _ rfl (.tmp 76) (.tmp 83) 23 rfl lo 22 i0 (.slice none 0 0) 1 24 Tryz.underlying23 hi hz0 hz1 hz2 rfl (by decide) (.slice (some ⟨g, 0, none⟩) ps.length sc) ps.length (ps.map Cl.v) (by first | (simp [Act.eval]; done) | (simp [Act.eval, Act.put]; done)) (by refine Pushd.own (w := w2) (o := .cells #[.slice (some ⟨p.b, off, none⟩) p.xs.length pc] 22) ?_ (unhide HST2).segs.own; exact ⟨rfl, rfl, rfl, rfl⟩) ⟨w2.heap.size, 0, none⟩ 1 1 [.slice (some ⟨p.b, off, none⟩) p.xs.length pc] (by first | (simp [Act.eval]; done) | (simp [Act.eval, Act.put]; done)) rfl (by refine Pushd.news (w := w2) (cs := #[.slice (some ⟨p.b, off, none⟩) p.xs.length pc]) (t := 22) ?_; exact ⟨rfl, rfl, rfl, rfl⟩) (by intro u hu; simp at hu; subst hu; rfl) (by decide) (by unfold maxLen; omega) (by omega) (by show lo ≤ (w2.alloc _).heap.size; rw [sz_alloc]; omega) (w2.heap.size + 1) (sz_alloc w2 _) (fun gg cap' w5 q1 q2 q3 q4 => ?_); have HQ1 := hide q1; have hg5 : (w2.alloc (.cells #[.slice (some ⟨p.b, off, none⟩) p.xs.length pc] 22)).grownBy w5 (Value.slice (some ⟨g, 0, none⟩) ps.length sc).ownBlock := ⟨q2.os, q2.tape, q2.output, q2.size, q2.block⟩; have ho5 : OwnS (w2.alloc (.cells #[.slice (some ⟨p.b, off, none⟩) p.xs.length pc] 22)) (.slice (some ⟨g, 0, none⟩) ps.length sc) (.slice (some ⟨gg, 0, none⟩) (ps.length + 1) cap') := q3.imp (fun e => e.symm) (fun e => ⟨w2.heap.size + 1, (by rw [sz_alloc]; exact Nat.le_refl _), (by rw [e]; rfl)⟩); have hb3 := below1 w2 (.cells #[.slice (some ⟨p.b, off, none⟩) p.xs.length pc] 22); have hM5 := hide (((unhide HST2).keep hb3 (Nat.le_refl _)).segMore (p := p) (qs := qs) (by have := hb3.size; omega) ((unhide HPOK).below hb3 (Nat.le_refl _)) (fun _ => unhide HPM) (by rw [unhide HPV]; exact q1) hg5 ho5); have RS5 := hide ((unhide hM5).2.2 _ _ _ ((unhide RS2).below hb3 (by omega))); obtain ⟨t0, t1, t2, t3⟩ := (unhide RS5).facts4; clear q1 q2 q3 q4)
  all_goals
    obtain ⟨hsd5, hB5, hrow5⟩ := unhide hM5
    have HSD := hide hsd5
    have RR5 := hide (hrow5 _ _ _ ((unhide RR2).below hb3 (by omega)))
    have HC5 := hide (((unhide HC2).keep hb3 (by omega)).keep hB5 hD)
    have HM5 := hide ((hMw.trans (Below.mv (hb3.mono (by omega)) D)).trans (Below.mv hB5 D))
    clear hM5 hrow5 hsd5 hB5 hb3 hg5 ho5 x0 x1 x2 x3 hcg
    clear f0 f1 f2 f3 r0 r1 r2 r3

    obtain ⟨s0, s1, -⟩ := ((unhide RS5).put0 (u := .slice (some ⟨gg, 0, none⟩) (ps.length + 1) cap')).facts4
    obtain ⟨u0, u1, u2, u3⟩ := ((unhide RR5).other (b' := w.heap.size) (o := 0) (u := .slice (some ⟨gg, 0, none⟩) (ps.length + 1) cap') (by omega)).facts4
    go_wp2_with fail
    obtain ⟨e0, e1, -⟩ := ((((unhide RR5).other (b' := w.heap.size) (o := 0) (u := .slice (some ⟨gg, 0, none⟩) (ps.length + 1) cap') (by omega)).put0 (u := .slice (some ⟨gg, 0, none⟩) (ps.length + 1) cap')).put1 (u := .slice oa qs.length oc)).facts4
    have hP : Below lo w5 (((w5.setCell ⟨w.heap.size, 0, none⟩ (.slice (some ⟨gg, 0, none⟩) (ps.length + 1) cap')).setCell ⟨w.heap.size + 1, 0, none⟩ (.slice (some ⟨gg, 0, none⟩) (ps.length + 1) cap')).setCell ⟨w.heap.size + 1, 1, none⟩ (.slice oa qs.length oc)) := bput2 (bput (Below.refl _ _) hlo _) (by omega) _ _
    refine bodyPost_ret (v := .agg #[.slice (some ⟨gg, 0, none⟩) (ps.length + 1) cap', .slice oa qs.length oc]) (by simp [results, Tryz.results28, go_sem, e0, e1]) rfl ⟨⟨_, rfl, ?_⟩, (unhide HC5).keep hP hD, (unhide HM5).trans (Below.mv hP D)⟩
    exact (((unhide HSD).putty (unhide RS5)).putty ((unhide RR5).other (by omega))).putty (((unhide RR5).other (by omega)).put0)

set_option maxHeartbeats 8000000 in
set_option maxRecDepth 100000 in
theorem l5spoil_1 (lo N D : Nat) (xs : List Int) (sv ov : Value) (ps qs : List (Cl Int)) (w : World) (hst : StL lo w sv ov ps qs) (hlo : lo ≤ w.heap.size) (h : CdAt N D w xs) (hx : Cod xs) (hD : D < lo) (l1 : ps.length ≤ 5) (l2 : qs.length ≤ 5) (hk : xs.headD 0 % 7 = 1) (i : Nat) (p : Cl Int) (hi9 : (xs.tail.headD 0).toNat % ps.length = i) (hp : ps[i]? = some p) (hp0 : 0 < p.xs.length) (hp2 : p.xs.length ≤ 1048576) :
    Calls Tryz.prog 28 #[.agg #[sv, ov], .pointer (some ⟨D, 0, none⟩)] w (SpOut lo N D w xs.tail.tail ((ps.map Cl.xs).set i (flipB (xs.tail.headD 0).toNat p.xs)) (qs.map Cl.xs)) := by
  obtain ⟨i0, hi, hz0, hz1, hz2⟩ := info_parts Tryz.zinByteS
  have hl12 := And.intro l1 l2
  clear hl12
  have HX := hide hx
  have hh := hx.head
  have hh2 := hx.tail.head
  obtain ⟨y, hy⟩ : ∃ y, xs.headD 0 = y := ⟨_, rfl⟩
  obtain ⟨z, hz⟩ : ∃ z, xs.tail.headD 0 = z := ⟨_, rfl⟩
  rw [hy] at hk hh
  rw [hz] at hh2
  try rw [hz]
  have HY := hide hy
  have HZ := hide hz
  rw [hz] at hi9
  obtain ⟨F, hF⟩ : ∃ F, flipB z.toNat p.xs = F := ⟨_, rfl⟩
  rw [hF]
  have HF := hide hF
  have HI9 := hide hi9
  clear hF hi9
  obtain ⟨sa, sc, rfl⟩ := own_is hst.segs.own
  obtain ⟨oa, oc, rfl⟩ := own_is hst.opens.own
  have hb0 := below2 w (.cells #[.slice sa ps.length sc, .slice oa qs.length oc] 25) (.cells #[.slice none 0 0, .slice none 0 0] 25)
  have RS := (Row2.new w 25 (.slice sa ps.length sc) (.slice oa qs.length oc)).alloc (.cells #[.slice none 0 0, .slice none 0 0] 25)
  have RR := Row2.new (w.alloc (.cells #[.slice sa ps.length sc, .slice oa qs.length oc] 25)) 25 (.slice none 0 0) (.slice none 0 0)
  rw [sz_alloc] at RR
  have hzV : ((w.alloc (.cells #[.slice sa ps.length sc, .slice oa qs.length oc] 25)).alloc (.cells #[.slice none 0 0, .slice none 0 0] 25)).heap.size = w.heap.size + 2 := by simp
  have HST0 := hide (hst.keep hb0 (Nat.le_refl _))
  have HC0 := hide (h.keep hb0 (by omega))
  clear hy hz hx h hst
  go_enter Tryz.func28, Tryz.ntmps28
  go_wp2_with fail
  generalize (w.alloc (.cells #[.slice sa ps.length sc, .slice oa qs.length oc] 25)).alloc (.cells #[.slice none 0 0, .slice none 0 0] 25) = V at *
  have hVz : w.heap.size + 2 ≤ V.heap.size := by omega
  clear hzV
  refine (next_any N D xs V (unhide HC0) (unhide HX)).mono ?_
  rintro e w1 ⟨he, hc1, ho1⟩
  rw [unhide HY] at he
  subst he
  have hM1 : Mv V.heap.size D V w1 := ho1.mv _
  clear ho1
  go_wp2_with fail
  refine (next_any N D xs.tail w1 hc1 (unhide HX).tail).mono ?_
  rintro e w2 ⟨he, hc2, ho2⟩
  rw [unhide HZ] at he
  subst he
  have hM2 : Mv V.heap.size D V w2 := hM1.trans (ho2.mv _)
  have hZ2 : w.heap.size + 2 ≤ w2.heap.size := Nat.le_trans hVz hM2.size
  have HST2 := hide ((unhide HST0).mv hM2 (Nat.le_refl _) hD)
  have RS2 := hide (RS.mv hM2 (by omega) (by omega))
  have RR2 := hide (RR.mv hM2 (by omega) (by omega))
  have HC2 := hide hc2
  have hMw : Mv lo D w w2 := (Below.mv (hb0.mono hlo) D).trans (hM2.mono (by omega))
  obtain ⟨f0, f1, f2, f3⟩ := (unhide RS2).facts4
  obtain ⟨r0, r1, r2, r3⟩ := (unhide RR2).facts4
  clear hc1 hc2 ho2 hM1 hM2 RS RR hb0 HST0 HC0
  have hlt : i < ps.length := (List.getElem?_eq_some_iff.1 hp).1
  obtain ⟨g, cap, off, pc, e1, hcg, hpv, hcl, hfz⟩ := LB.place (unhide HST2).segs hp hp0
  have hbk := ((unhide HST2).segs.ok p (List.mem_of_getElem? hp)).bk hp0
  have HFL := hide (fun (j : Nat) (x : Int) (hj : j < p.xs.length) => (unhide HST2).flip (j := j) (y := x) hp hpv hj)
  obtain ⟨pv, pxs, pb⟩ := p
  dsimp only at hp0 hp2 hcg hpv hcl hfz hbk HFL HF
  subst hpv
  have hne1 : pb ≠ w.heap.size := fun e => by rw [e] at hbk; exact hbk.box (unhide RS2)
  have hne2 : pb ≠ w.heap.size + 1 := fun e => by rw [e] at hbk; exact hbk.box (unhide RR2)
  have hplo : lo ≤ pb := (unhide HST2).segs.lo _ (List.mem_of_getElem? hp) hp0
  simp only [Value.slice.injEq] at e1
  obtain ⟨rfl, -, rfl⟩ := e1
  obtain ⟨j, hj9⟩ : ∃ j, z.toNat % pxs.length = j := ⟨_, rfl⟩
  have hjl : j < pxs.length := by rw [← hj9]; exact Nat.mod_lt _ hp0
  have hcj := hcl j hjl
  have hfj := hfz (off + j)
  unfold mB at hcj
  have hFB : flipB z.toNat pxs = pxs.set j (bits .xor .u8 (pxs[j]?.getD 0) 4) := by unfold flipB; rw [hj9]
  rw [unhide HF] at hFB
  have HFB := hide hFB
  clear hFB
  generalize pxs[j]?.getD 0 = x at hcj HFB
  have hi9 := unhide HI9
  have hd1 : ((ps.length : Int) == 0) = false := by simpa using (by omega : ¬ ps.length = 0)
  have hd2 : ¬ (ps.length : Int) = 0 := by omega
  have hd3 : ((pxs.length : Int) == 0) = false := by simpa using (by omega : ¬ pxs.length = 0)
  have hd4 : ¬ (pxs.length : Int) = 0 := by omega
  have hzz : z = ((z.toNat : Nat) : Int) := by omega
  have hq1 : z.tmod (ps.length : Int) = (i : Int) := by rw [Int.tmod_eq_emod_of_nonneg hh2.1, hzz, ← hi9]; rfl
  have hq2 : z % (ps.length : Int) = (i : Int) := by rw [hzz, ← hi9]; rfl
  have hq3 : z.tmod (pxs.length : Int) = (j : Int) := by rw [Int.tmod_eq_emod_of_nonneg hh2.1, hzz, ← hj9]; rfl
  have hq4 : z % (pxs.length : Int) = (j : Int) := by rw [hzz, ← hj9]; rfl
  have hw1 : IntKind.i64.wrap (i : Int) = (i : Int) := k64i (by omega) (by omega)
  have hw2 : IntKind.i64.wrap (j : Int) = (j : Int) := k64i (by omega) (by omega)
  have hm2 : (0 : Int) < (ps.length : Int) := by omega
  have hm4 : (i : Int) < (ps.length : Int) := by omega
  have hm5 : (j : Int) < (pxs.length : Int) := by omega
  have HJ9 := hide hj9
  clear hi9 hj9 hzz hp hcl hfz hbk
  go_upto_region 9 with fail
  go_region
  all_goals
    have hsd5 := unhide HFL j (bits .xor .u8 x 4) hjl
    rw [← unhide HFB] at hsd5
    have HSD : Hid (StD lo (w2.setCell ⟨pb, off + j, none⟩ (.int .u8 (bits .xor .u8 x 4))) (.agg #[.slice (some ⟨g, 0, none⟩) ps.length sc, .slice oa qs.length oc]) ((ps.map Cl.xs).set i F) (qs.map Cl.xs)) := hsd5
    have RS5 := hide (show Row2 (w2.setCell ⟨pb, off + j, none⟩ (.int .u8 (bits .xor .u8 x 4))) w.heap.size 25 (.slice (some ⟨g, 0, none⟩) ps.length sc) (.slice oa qs.length oc) from (unhide RS2).other (Ne.symm hne1))
    have RR5 := hide (show Row2 (w2.setCell ⟨pb, off + j, none⟩ (.int .u8 (bits .xor .u8 x 4))) (w.heap.size + 1) 25 (.slice none 0 0) (.slice none 0 0) from (unhide RR2).other (Ne.symm hne2))
    have hPb : Below lo w2 (w2.setCell ⟨pb, off + j, none⟩ (.int .u8 (bits .xor .u8 x 4))) := bput (Below.refl _ _) hplo _
    have HC5 := hide ((unhide HC2).keep hPb hD)
    have HM5 := hide (hMw.trans (Below.mv hPb D))
    obtain ⟨t0, t1, t2, t3⟩ := (unhide RS5).facts4
    obtain ⟨u0, u1, u2, u3⟩ := (unhide RR5).facts4
    clear hcg hcj hfj
    clear f0 f1 f2 f3 r0 r1 r2 r3
    go_wp2_with fail
    obtain ⟨e0, e1, -⟩ := (((unhide RR5).put0 (u := .slice (some ⟨g, 0, none⟩) ps.length sc)).put1 (u := .slice oa qs.length oc)).facts4
    have hP : Below lo (w2.setCell ⟨pb, off + j, none⟩ (.int .u8 (bits .xor .u8 x 4))) (((w2.setCell ⟨pb, off + j, none⟩ (.int .u8 (bits .xor .u8 x 4))).setCell ⟨w.heap.size + 1, 0, none⟩ (.slice (some ⟨g, 0, none⟩) ps.length sc)).setCell ⟨w.heap.size + 1, 1, none⟩ (.slice oa qs.length oc)).drew := (bput2 (Below.refl _ _) (by omega) _ _).drew
    refine bodyPost_ret (v := .agg #[.slice (some ⟨g, 0, none⟩) ps.length sc, .slice oa qs.length oc]) (by simp [results, Tryz.results28, go_sem, e0, e1]) rfl ⟨⟨_, rfl, ?_⟩, (unhide HC5).keep hP hD, (unhide HM5).trans (Below.mv hP D)⟩
    exact StD.keep (((unhide HSD).putty (unhide RR5)).putty ((unhide RR5).put0)) ((Below.refl _ _).drew) (Nat.le_refl _)

end Go.Proofs.YthgnefdefjannaaGreat
