import Derived.Test.YtinhliecfjlocaaGreatPk13
import Derived.Test.YtinhliecfjlocaaGreatX4
import Derived.Test.YtinhliecfjlocaaGreatPk15
import Derived.Test.YtinhliecfjlocaaGreatPk7
import Derived.Test.YtinhliecfjlocaaGreatW4
namespace Go.Proofs.YtinhliecfjlocaaGreat
open Go.RowKit
def Sm (S : List (List Int)) : Prop := S.length ≤ 50 ∧ ∀ x, x ∈ S → x.length ≤ 60
theorem CutR.sm {L S : List (List Int)} (h : CutR L S) : Sm S := h.small
theorem fld_sk (a b : Value) (w : World) : Sem.run Tryz.prog (Instr.field 86 (.agg #[a, b]) 0) w = .ok a w := by kernel_rfl
set_option maxHeartbeats 1000000 in
set_option maxRecDepth 100000 in
theorem SkV.alt {u v : Value} {S1 S2 S : List (List Int)} (hu : SkV u S1) (hv : SkV v S2) (m1 : Sm S1) (m2 : Sm S2) (hS : CutR (S1 ++ S2) S) : SkV (aV u v) S := by
  refine ⟨⟨_, _, rfl⟩, fun w => ?_⟩
  obtain ⟨⟨T, x, rfl⟩, hu⟩ := hu
  obtain ⟨⟨T', x', rfl⟩, hv⟩ := hv
  unfold aV
  have HU := hide hu
  have HV := hide hv
  have HS := hide hS
  have t1 := tb_ae
  have t2 := tb_as
  have t3 := tb_ac
  have t4 := tb_aa
  have t5 := fld_sk
  obtain ⟨h1, h2, h3⟩ := sk_start w
  have H1 := hide h1
  have H2 := hide h2
  have H3 := hide h3
  clear h1 h2 h3 hu hv hS
  go_enter Tryz.func43, Tryz.ntmps43
  go_wp2_with fail
  have H4 := hide ((unhide H1).keep (below1 _ (.cells #[.iface T x, .iface T' x'] 134)) (Nat.le_refl _))
  have H5 := hide ((unhide H2).alloc (.cells #[.iface T x, .iface T' x'] 134))
  have H6 := hide ((unhide H3).alloc (by rw [sz_alloc, sz_alloc]; omega) (.cells #[.iface T x, .iface T' x'] 134))
  have h7 := Bx2.new ((w.alloc zS).alloc zS) 134 (.iface T x) (.iface T' x')
  rw [sz_alloc, sz_alloc] at h7
  have H7 := hide h7
  clear h7
  generalize (((w.alloc zS).alloc zS).alloc (.cells #[.iface T x, .iface T' x'] 134)) = w2 at *
  have hz2 : w.heap.size + 1 + 1 < w2.heap.size := World.rowIs.lt (unhide H7)
  refine (unhide HU w2).mono ?_
  rintro e w3 ⟨lv1, qs1, c1, rfl, hl1, hq1, hb3⟩
  have hz3 := hb3.size
  have hn1 : qs1.length ≤ 1048576 := by have := m1.1; rw [← hq1, List.length_map] at this; omega
  have H33 := hide hb3
  have HL1 := hide hl1
  have HQ1 := hide hq1
  have HK3 := hide ((unhide H4).keep hb3 (Nat.le_refl _))
  obtain ⟨l1a, l1c, rfl⟩ := own_is hl1.own
  have HA := hide (addAll_any (w.heap.size + 1) _ _ [] [] qs1 false w3 (unhide HK3) ⟨(unhide HL1).base (by omega), fun k hk e => by cases e⟩ hn1 (fun p hp => by cases hp))
  clear hb3 hl1 hq1
  go_wp2_with fail
  refine (unhide HA).mono ?_
  rintro e w4 ⟨rfl, lv4, ps4, c4, hk4, hsub4, hf4, -⟩
  have hb4 : ∀ k, k < w3.heap.size → k ≠ w.heap.size + 1 → w4.heap[k]? = w3.heap[k]? := fun k h1 h2 => hf4.block k h1 h2 (by intro h; cases h)
  have hz4 := hf4.size
  have h45 : ∀ k, k < w2.heap.size → k ≠ w.heap.size + 1 → w4.heap[k]? = w2.heap[k]? := fun k h1 h2 => (hb4 k (by omega) h2).trans ((unhide H33).block k h1)
  have hN4 := (unhide H7).blk (h45 _ (by omega) (by omega))
  obtain ⟨n0, n1, n2, n3⟩ := hN4.facts4
  have H45 := hide h45
  have HK4 := hide hk4
  have HF4 := hide hf4
  clear hb4 h45 hN4 hk4 hsub4 hf4 HA
  go_wp2_with fail
  refine (unhide HV w4).mono ?_
  rintro e w5 ⟨lv2, qs2, c2, rfl, hl2, hq2, hb5⟩
  have hz5 := hb5.size
  have hn2 : qs2.length ≤ 1048576 := by have := m2.1; rw [← hq2, List.length_map] at this; omega
  have H5b := hide hb5
  have HL2 := hide hl2
  have HQ2 := hide hq2
  have HK5 := hide ((unhide HK4).keep hb5 (Nat.le_refl _))
  obtain ⟨l2a, l2c, rfl⟩ := own_is hl2.own
  have HA := hide (addAll_any (w.heap.size + 1) _ _ _ ps4 qs2 c4 w5 (unhide HK5) ⟨(unhide HL2).base (by omega), fun k hk e => by have := ((unhide HL2).own.lt k hk).1; have := ((unhide HK4).row.own.lt k e).2; omega⟩ hn2 (fun p hp q hq h0 h1 e => by have := ((unhide HK4).row.ok p hp).lt h0; have := (unhide HL2).lo q hq h1; omega))
  clear hb5 hl2 hq2
  go_wp2_with fail
  refine (unhide HA).mono ?_
  rintro e w6 ⟨rfl, lv6, ps6, c6, hk6, hsub6, hf6, -⟩
  have hz6 := hf6.size
  have h62 : ∀ k, k ≤ w.heap.size → w6.heap[k]? = w2.heap[k]? := fun k h1 => ((hf6.block k (by omega) (by omega) (fun e => by have := ((unhide HK4).row.own.lt k e).1; omega)).trans ((unhide H5b).block k (by omega))).trans (unhide H45 k (by omega) (by omega))
  obtain ⟨y0, y1, y2, y3⟩ := hk6.box.facts4
  obtain ⟨z0, z1, z2, z3⟩ := ((unhide H5).blk (h62 _ (Nat.le_refl _))).facts4
  have hR := sk_fin (S := S) (R := w.heap.size) hk6 ((unhide H6).trans ⟨hf6.os.trans ((unhide H5b).os.trans ((unhide HF4).os.trans (unhide H33).os)), hf6.tape.trans ((unhide H5b).tape.trans ((unhide HF4).tape.trans (unhide H33).tape)), hf6.output.trans ((unhide H5b).output.trans ((unhide HF4).output.trans (unhide H33).output)), by omega, fun k hk => h62 k (by omega)⟩) (Nat.le_refl _) (by omega) (by rw [List.nil_append, unhide HQ1, unhide HQ2]; exact unhide HS)
  have HRR := hide hR
  obtain ⟨la, lc, rfl⟩ := own_is hk6.row.own
  clear hR hk6 hf6 hsub6 HA h62
  go_wp2
  refine bodyPost_ret (v := .agg #[.slice la ps6.length lc, .bool c6]) (by simp [results, Tryz.results43, go_sem, z0, z1]) rfl (unhide HRR)
set_option maxHeartbeats 2000000 in
set_option maxRecDepth 100000 in
theorem SkV.cat {u v : Value} {S1 S2 S : List (List Int)} (hu : SkV u S1) (hv : SkV v S2) (m1 : Sm S1) (m2 : Sm S2) (hS : CutR (prd S1 S2) S) : SkV (cV u v) S := by
  refine ⟨⟨_, _, rfl⟩, fun w => ?_⟩
  obtain ⟨⟨T, x, rfl⟩, hu⟩ := hu
  obtain ⟨⟨T', x', rfl⟩, hv⟩ := hv
  unfold cV
  have HU := hide hu
  have HV := hide hv
  have HS := hide hS
  have t1 := tb_ce
  have t2 := tb_cs
  have t3 := tb_cc
  have t5 := fld_sk
  obtain ⟨h1, h2, h3⟩ := sk_start w
  have H4 := hide (h1.keep (below1 _ (.cells #[.iface T x, .iface T' x'] 132)) (Nat.le_refl _))
  have H5 := hide (h2.alloc (.cells #[.iface T x, .iface T' x'] 132))
  have H6 := hide (h3.alloc (by rw [sz_alloc, sz_alloc]; omega) (.cells #[.iface T x, .iface T' x'] 132))
  have h7 := Bx2.new ((w.alloc zS).alloc zS) 132 (.iface T x) (.iface T' x')
  rw [sz_alloc, sz_alloc] at h7
  have H7 := hide h7
  have hz2 : w.heap.size + 1 + 1 < (((w.alloc zS).alloc zS).alloc (.cells #[.iface T x, .iface T' x'] 132)).heap.size := World.rowIs.lt h7
  clear h1 h2 h3 hu hv hS h7
  go_enter Tryz.func43, Tryz.ntmps43
  go_wp2_with fail
  obtain ⟨g0, g1, g2, g3⟩ := (unhide H7).facts4
  generalize (((w.alloc zS).alloc zS).alloc (.cells #[.iface T x, .iface T' x'] 132)) = w2 at *
  go_region_with (first
    | ((with_reducible refine (unhide HU _).mono ?_)
       rintro e w3 ⟨lv1, qs1, c1, rfl, hl1, hq1, hb3⟩
       have HL1 : Hid (LL mI 0 3 34 w2.heap.size w3 lv1 qs1) := hl1
       have H33 : Hid (Below w2.heap.size w2 w3) := ⟨hb3.os, hb3.tape, hb3.output, hb3.size, hb3.block⟩
       have hz3 : w2.heap.size ≤ w3.heap.size := (unhide H33).size
       have HQ1 := hide hq1
       obtain ⟨n0, n1, n2, n3⟩ := ((unhide H7).blk ((unhide H33).block _ (by omega))).facts4
       obtain ⟨l1a, l1c, rfl⟩ := own_is hl1.own
       clear hl1 hb3 hq1)
    | ((with_reducible refine (unhide HV _).mono ?_)
       rintro e w4 ⟨lv2, qs2, c2, rfl, hl2, hq2, hb4⟩
       have HL2 : Hid (LL mI 0 3 34 w3.heap.size w4 lv2 qs2) := hl2
       have H44 : Hid (Below w3.heap.size w3 w4) := ⟨hb4.os, hb4.tape, hb4.output, hb4.size, hb4.block⟩
       have hz4 : w3.heap.size ≤ w4.heap.size := (unhide H44).size
       have HQ2 := hide hq2
       obtain ⟨l2a, l2c, rfl⟩ := own_is hl2.own
       clear hl2 hb4 hq2)
    | (have HK4 := hide (((unhide H4).keep (unhide H33) (Nat.le_refl _)).keep (unhide H44) (Nat.le_refl _))
       have HS1 : Hid (Side (w.heap.size + 1) (.slice none 0 0) w4 (.slice l1a qs1.length l1c) qs1) := ⟨((unhide HL1).keep (unhide H44) (Nat.le_refl _)).base (by omega), fun k hk e => by cases e⟩
       have HS2 : Hid (Side (w.heap.size + 1) (.slice none 0 0) w4 (.slice l2a qs2.length l2c) qs2) := ⟨(unhide HL2).base (by omega), fun k hk e => by cases e⟩
       have hn1 : qs1.length ≤ 50 := by have := m1.1; rw [← unhide HQ1, List.length_map] at this; exact this
       have hn2 : qs2.length ≤ 50 := by have := m2.1; rw [← unhide HQ2, List.length_map] at this; exact this
       have HX1 : Hid (∀ q ∈ qs1, q.xs.length ≤ 1000) := fun q hq => by have := m1.2 q.xs (by rw [← unhide HQ1]; exact List.mem_map_of_mem hq); omega
       have HX2 : Hid (∀ q ∈ qs2, q.xs.length ≤ 1000) := fun q hq => by have := m2.2 q.xs (by rw [← unhide HQ2]; exact List.mem_map_of_mem hq); omega
       first
         | (with_reducible refine (addJoined_any (w.heap.size + 1) (.slice none 0 0) _ _ [] [] qs1 qs2 false w4 (unhide HK4) (unhide HS1) (unhide HS2) (by omega) (by omega) (unhide HX1) (unhide HX2)).mono ?_)
         | (with_reducible refine (addJoined_any (w.heap.size + 1) (.slice none 0 0) _ _ [] [] qs1 qs2 false w4.drew ⟨(unhide HK4).box, ⟨(unhide HK4).row.own, (unhide HK4).row.ok, (unhide HK4).row.lo, (unhide HK4).row.apart⟩, (unhide HK4).add⟩ ⟨⟨(unhide HS1).ll.own, (unhide HS1).ll.ok, (unhide HS1).ll.lo, (unhide HS1).ll.apart⟩, (unhide HS1).row⟩ ⟨⟨(unhide HS2).ll.own, (unhide HS2).ll.ok, (unhide HS2).ll.lo, (unhide HS2).ll.apart⟩, (unhide HS2).row⟩ (by omega) (by omega) (unhide HX1) (unhide HX2)).mono ?_)
       rintro e w5 ⟨rfl, lv5, ps5, c5, hk5, hsub5, hf5, -⟩
       have HK5 := hide hk5
       have HF5 : Hid (Fr (w.heap.size + 1) none w4 w5) := ⟨hf5.os, hf5.tape, hf5.output, hf5.size, hf5.block⟩
       clear hk5 hsub5 hf5))
  all_goals
    have hz5 := (unhide HF5).size
    have h52 : ∀ k, k ≤ w.heap.size → w5.heap[k]? = w2.heap[k]? := fun k h1 => (((unhide HF5).block k (by omega) (by omega) (by intro h; cases h)).trans ((unhide H44).block k (by omega))).trans ((unhide H33).block k (by omega))
    obtain ⟨y0, y1, y2, y3⟩ := (unhide HK5).box.facts4
    obtain ⟨z0, z1, z2, z3⟩ := ((unhide H5).blk (h52 _ (Nat.le_refl _))).facts4
    have hR := sk_fin (S := S) (R := w.heap.size) (unhide HK5) ((unhide H6).trans ⟨(unhide HF5).os.trans ((unhide H44).os.trans (unhide H33).os), (unhide HF5).tape.trans ((unhide H44).tape.trans (unhide H33).tape), (unhide HF5).output.trans ((unhide H44).output.trans (unhide H33).output), by omega, fun k hk => h52 k (by omega)⟩) (Nat.le_refl _) (by omega) (by rw [List.nil_append, unhide HQ1, unhide HQ2]; exact unhide HS)
    have HRR := hide hR
    obtain ⟨la, lc, rfl⟩ := own_is (unhide HK5).row.own
    clear hR h52 n0 n1 n2 n3 g0 g1 g2 g3
    go_wp2
    refine bodyPost_ret (v := .agg #[.slice la ps5.length lc, .bool c5]) (by simp [results, Tryz.results43, go_sem, z0, z1]) rfl (unhide HRR)
def RepQ (B : Nat) (w w' : World) (L : List (List Int)) (e : Ending) : Prop := e = .returned (.tuple #[]) ∧ ∃ lv ps c, SkB B w' lv L ps c ∧ Fr B none w w'
theorem OwnN.weak {a b : World} {v v' : Value} (h : OwnN b v v') (hs : a.heap.size ≤ b.heap.size) : OwnN a v v' := h.imp id (Or.imp id (fun ⟨k, h1, h2⟩ => ⟨k, by omega, h2⟩))
theorem gap_cl {w : World} {N : Nat} (h1 : w.heap[N]? = some (.cells #[.int .i64 256] 3 (0, 0))) : Cl.ok mI 0 3 w ⟨.slice (some ⟨N, 0, none⟩) 1 1, [256], N⟩ := by
  refine ⟨_, 1, rfl, ⟨Nat.le_refl _, by unfold maxLen; omega⟩, fun _ => ⟨0, rfl, ⟨_, h1⟩, fun i hi => ?_⟩⟩
  have hi' : i < 1 := hi
  obtain rfl : i = 0 := by omega
  simp [World.cell?, h1]
  rfl
set_option maxHeartbeats 1000000 in
set_option maxRecDepth 100000 in
theorem addRep_zero (B : Nat) (u : Value) (mx : Int) (w : World) (hu : ∃ T x, u = .iface T x) (h : SkB B w (.slice none 0 0) [] [] false) :
    Calls Tryz.prog 82 #[.pointer (some ⟨B, 0, none⟩), .agg #[u, .int .i64 0, .int .i64 mx]] w fun e w' => RepQ B w w' [[256]] e := by
  obtain ⟨T, x, rfl⟩ := hu
  have H := hide h
  have hB : B < w.heap.size := World.rowIs.lt h.box
  clear h
  go_enter Tryz.func82, Tryz.ntmps82
  go_wp2_with fail
  have hb2 := below2 w (.cells #[.iface T x, .int .i64 0, .int .i64 mx] 136) (.cells #[.int .i64 256] 3)
  have hn2 : ((w.alloc (.cells #[.iface T x, .int .i64 0, .int .i64 mx] 136)).alloc (.cells #[.int .i64 256] 3)).heap[w.heap.size + 1]? = some (.cells #[.int .i64 256] 3 (0, 0)) := by
    have h := (pushd_alloc (w.alloc (.cells #[.iface T x, .int .i64 0, .int .i64 mx] 136)) (.cells #[.int .i64 256] 3)).new
    rw [sz_alloc] at h
    exact h
  have HA := hide (add_any B _ [] [] false ⟨.slice (some ⟨w.heap.size + 1, 0, none⟩) 1 1, [256], w.heap.size + 1⟩ _ ((unhide H).keep hb2 (Nat.le_refl _)) (gap_cl hn2) (fun _ => by show B + 1 ≤ w.heap.size + 1; omega) (fun q hq => by cases hq))
  have HB2 := hide hb2
  clear hn2 hb2
  generalize ((w.alloc (.cells #[.iface T x, .int .i64 0, .int .i64 mx] 136)).alloc (.cells #[.int .i64 256] 3)) = w2 at *
  refine (unhide HA).mono ?_
  rintro e w3 ⟨rfl, lv, ps, c, hs, -, hf, -⟩
  have HRR : Hid (RepQ B w w3 [[256]] (.returned (.tuple #[]))) := ⟨rfl, lv, ps, c, hs, Fr.trans (v := .slice none 0 0) (Below.fr (unhide HB2) (Nat.le_refl _)) (Or.inl rfl) hf⟩
  clear hs hf
  go_wp2
  first | (refine bodyPost_ret (results_none rfl _ _ _) rfl ?_) | (refine bodyPost_end (results_none rfl _ _ _) rfl ?_)
  exact unhide HRR
set_option maxHeartbeats 4000000 in
set_option maxRecDepth 100000 in
theorem addRep_some (B : Nat) (u : Value) (mn mx : Int) (S1 : List (List Int)) (w : World) (hu : SkV u S1) (m1 : Sm S1) (hmn : mn ≠ 0) (h : SkB B w (.slice none 0 0) [] [] false) :
    Calls Tryz.prog 82 #[.pointer (some ⟨B, 0, none⟩), .agg #[u, .int .i64 mn, .int .i64 mx]] w fun e w' => RepQ B w w' (S1 ++ prd (S1.map (fun a => jn2 a [256])) S1) e := by
  obtain ⟨i1', hi', hz0', hz1', hz2'⟩ := info_parts Tryz.zinIntS
  obtain ⟨⟨T, x, rfl⟩, hu⟩ := hu
  have HU := hide hu
  have H := hide h
  have hB : B < w.heap.size := World.rowIs.lt h.box
  have hmn' : (mn == 0) = false := by simpa using hmn
  have t5 := fld_sk
  clear h hu hmn
  go_enter Tryz.func82, Tryz.ntmps82
  go_wp2_with fail
  have hb2 := below1 w (.cells #[.iface T x, .int .i64 mn, .int .i64 mx] 136)
  have hz2 : w.heap.size < (w.alloc (.cells #[.iface T x, .int .i64 mn, .int .i64 mx] 136)).heap.size := by rw [sz_alloc]; omega
  generalize (w.alloc (.cells #[.iface T x, .int .i64 mn, .int .i64 mx] 136)) = w2 at *
  refine (unhide HU w2).mono ?_
  rintro e w3 ⟨lv1, qs, c1, rfl, hl1, hq1, hb3⟩
  have hz3 := hb3.size
  have hB3 : Below w.heap.size w w3 := hb2.trans (hb3.mono (by omega))
  have HL1 := hide hl1
  have HQ1 := hide hq1
  have hn1 : qs.length ≤ 50 := by have := m1.1; rw [← hq1, List.length_map] at this; exact this
  have HX1 : Hid (∀ q ∈ qs, q.xs.length ≤ 60) := fun q hq => m1.2 q.xs (by rw [← unhide HQ1]; exact List.mem_map_of_mem hq)
  have HB3 := hide hB3
  obtain ⟨l1a, l1c, rfl⟩ := own_is hl1.own
  clear hl1 hq1 hb3 hb2 hB3
  go_wp2_with fail
  go_loopw [5, 20] (fun ov iv wr => ∃ (i : Nat) (os : List (Cl Int)), i ≤ qs.length ∧ iv = .int .i64 i ∧ os.map Cl.xs = ((qs.map Cl.xs).take i).map (fun a => jn2 a [256]) ∧ LL mI 0 3 34 w3.heap.size wr ov os ∧ Below w3.heap.size w3 wr) (fun _ iv _ => qs.length - (intOf iv).toNat)
  case atStart => exact ⟨0, [], Nat.zero_le _, rfl, rfl, LL.nil, Below.refl _ _⟩
  case round =>
    obtain ⟨i, os, hil, rfl, hos, hll, hbr⟩ := hrel
    have hszr := hbr.size
    have hol : os.length ≤ i := by
      have := congrArg List.length hos
      simp at this
      omega
    have HOS := hide hos
    have HLL := hide hll
    obtain ⟨oa, oc, rfl⟩ := own_is hll.own
    clear hos hll
    by_cases hlt : i < qs.length
    · have hlt' : (i : Int) < (qs.length : Int) := by omega
      obtain ⟨p, hp⟩ : ∃ p, qs[i]? = some p := ⟨qs[i], by simp [hlt]⟩
      have hpm : p ∈ qs := List.mem_of_getElem? hp
      have hL1r := (unhide HL1).keep hbr (Nat.le_refl _)
      have hpx := unhide HX1 p hpm
      rcases hL1r.own.2 with ⟨e9, hz9⟩ | ⟨g, cap, cur, e9, -⟩
      · omega
      · simp only [Value.slice.injEq] at e9
        obtain ⟨rfl, -, rfl⟩ := e9
        have hcell : wr.cell? ⟨g, i, none⟩ = some p.v := by
          rw [hL1r.own.cellAt i (by omega), List.getElem?_map, hp]
          rfl
        have hok := (hL1r.ok p hpm)
        obtain ⟨pa, pc, hpv⟩ : ∃ pa pc, p.v = .slice pa p.xs.length pc := by obtain ⟨a, cp, e, -⟩ := hok; exact ⟨a, cp, e⟩
        have hB9 := below1 wr (.cells #[.int .i64 256] 3)
        have hokA := hok.below hB9 (Nat.le_refl _)
        have hzA : (wr.alloc (.cells #[.int .i64 256] 3)).heap.size = wr.heap.size + 1 := sz_alloc _ _
        have hlit : (wr.alloc (.cells #[.int .i64 256] 3)).heap[wr.heap.size]? = some (.cells #[.int .i64 256] 3 (0, 0)) := (pushd_alloc wr (.cells #[.int .i64 256] 3)).new
        have hlok := gap_cl hlit
        have HJ := hide (joinSk_any p.v (.slice (some ⟨wr.heap.size, 0, none⟩) 1 1) p.xs [256] (wr.alloc (.cells #[.int .i64 256] 3)) hokA.at hokA.cap hlok.at hlok.cap (by show p.xs.length + 1 ≤ 1048576; omega))
        rw [hpv] at hcell HJ
        have HN : Hid (∀ q : Cl Int, q.xs = jn2 p.xs [256] → (os ++ [q]).map Cl.xs = ((qs.map Cl.xs).take (i + 1)).map (fun a => jn2 a [256])) := fun q hq => by
          rw [List.map_append, List.map_singleton, hq, unhide HOS, List.take_add_one, List.getElem?_map, hp]
          simp
        have HLLA := hide ((unhide HLL).keep hB9 (Nat.le_refl _))
        have HB9 := hide hB9
        clear hL1r hp hpm hok hpv hokA hlit hlok HOS hB9
        go_wp2_with fail
        generalize wr.alloc (.cells #[.int .i64 256] 3) = wA at *
        refine (unhide HJ).mono ?_
        rintro e w4 ⟨v4, rfl, hown4, hb4⟩
        have hz4 := hb4.size
        obtain ⟨pb, hok4, hlo4⟩ := own_cl hown4
        obtain ⟨va4, vc4, rfl⟩ := own_is hown4
        have HLL4 := hide ((unhide HLLA).keep hb4 (Nat.le_refl _))
        have hB4 : Below w3.heap.size w3 w4 := hbr.trans ((unhide HB9).mono hszr |>.trans (hb4.mono (by omega)))
        have HOK4 := hide hok4
        have Hst : Hid (∀ (w' : World) (v' : Value), w'.ownsRow w3.heap.size 34 1 v' (os.length + 1) (os.map Cl.v ++ [.slice va4 (jn2 p.xs [256]).length vc4]) → (w4.alloc (.cells #[.slice va4 (jn2 p.xs [256]).length vc4] 34)).grownBy w' (Value.slice oa os.length oc).ownBlock → LL mI 0 3 34 w3.heap.size w' v' (os ++ [⟨.slice va4 (jn2 p.xs [256]).length vc4, jn2 p.xs [256], pb⟩]) ∧ Below w3.heap.size w4 w') := fun w' v' g1 g2 =>
          (unhide HLL4).app (by decide) (by omega) (unhide HOK4) (fun h0 => by have := hlo4 h0; show w3.heap.size ≤ pb; omega) (fun q hq h0 h1 e => by have := ((unhide HLL).ok q hq).lt h0; have := hlo4 h1; simp only at e; omega) (pushd_alloc _ _) g1 g2
        clear hown4 hok4 HJ
        generalize (jn2 p.xs [256]).length = JL at *
        go_wp2_with (at_builtin; refine wpList_append_own _ rfl _ _ 29 rfl w3.heap.size 34 i1' (.slice none 0 0) 1 24 Tryz.underlying29 hi' hz0' hz1' hz2' rfl (by decide) _ _ _ rfl (World.ownsRow.alloc (w := w4) (unhide HLL4).own _) ⟨w4.heap.size, 0, none⟩ 1 1 [.slice va4 JL vc4] rfl rfl ?_ ?_ ?_ ?_ ?_ ?_)
        · exact cell_1 (by simp)
        · intro u' hu; simp at hu; subst hu; rfl
        · unfold maxLen; omega
        · omega
        · rw [sz_alloc]; omega
        intro v5 w5 h5 hg5 _
        have h3 := hide (unhide Hst w5 v5 h5 hg5)
        obtain ⟨g5, cap5, rfl⟩ := ownsRow_succ h5
        clear h5 hg5
        have hB5 : Below w3.heap.size w3 w5 := hB4.trans (unhide h3).2
        go_wp2
        go_roundw
        case rel => exact ⟨i + 1, _, by omega, by go_num, unhide HN _ rfl, (unhide h3).1, hB5⟩
        case measure => simp [intOf]; omega
    · obtain rfl : i = qs.length := by omega
      have hbV : Below w.heap.size w wr := (unhide HB3).trans (hbr.mono (by omega))
      have HK := hide ((unhide H).keep hbV (Nat.le_refl _))
      have HS1 : Hid (Side B (.slice none 0 0) wr (.slice l1a qs.length l1c) qs) := ⟨((unhide HL1).keep hbr (Nat.le_refl _)).base (by omega), fun k hk e => by cases e⟩
      have HS2 : Hid (Side B (.slice none 0 0) wr (.slice oa os.length oc) os) := ⟨(unhide HLL).base (by omega), fun k hk e => by cases e⟩
      have HA := hide (addAll_any B _ _ [] [] qs false wr (unhide HK) (unhide HS1) (by omega) (fun p hp => by cases hp))
      have HBV := hide hbV
      clear hbV
      go_wp2_with fail
      refine (unhide HA).mono ?_
      rintro e w5 ⟨rfl, lv5, ps5, c5, hk5, -, hf5, ho5⟩
      have HS15 := (unhide HS1).fr (unhide HK).row hf5 ho5
      have HS25 := (unhide HS2).fr (unhide HK).row hf5 ho5
      have hxo : ∀ q ∈ os, q.xs.length ≤ 1000 := fun q hq => by
        have hm : q.xs ∈ os.map Cl.xs := List.mem_map_of_mem hq
        rw [unhide HOS] at hm
        obtain ⟨a, ha, e⟩ := List.mem_map.1 hm
        obtain ⟨p, hp, rfl⟩ := List.mem_map.1 (List.mem_of_mem_take ha)
        have h1 := unhide HX1 p hp
        have h2 := jpt_len p.xs [256] 1
        have h3 := jpt_all p.xs [256]
        rw [show ([256] : List Int).length = 1 from rfl] at h3
        rw [h3, e] at h2
        omega
      have HJ := hide (addJoined_any B lv5 _ _ _ ps5 os qs c5 w5 hk5 HS25 HS15 (by omega) (by omega) hxo (fun q hq => by have := unhide HX1 q hq; omega))
      have HF5 := hide hf5
      have HO5 := hide ho5
      clear hk5 hf5 ho5 HS15 HS25 hxo HA
      go_wp2_with fail
      refine (unhide HJ).mono ?_
      rintro e w6 ⟨rfl, lv6, ps6, c6, hk6, -, hf6, -⟩
      have HRR : Hid (RepQ B w w6 (S1 ++ prd (S1.map (fun a => jn2 a [256])) S1) (.returned (.tuple #[]))) := by
        refine ⟨rfl, lv6, ps6, c6, ?_, Fr.trans (v := .slice none 0 0) (Fr.trans (v := .slice none 0 0) (Below.fr (unhide HBV) (Nat.le_refl _)) (Or.inl rfl) (unhide HF5)) (OwnN.weak (unhide HO5) (unhide HBV).size) hf6⟩
        rw [unhide HOS, unhide HQ1, List.nil_append, List.take_of_length_le (by have := congrArg List.length (unhide HQ1); rw [List.length_map] at this; omega)] at hk6
        exact hk6
      clear hk6 hf6 HJ
      go_wp2
      first | (refine bodyPost_ret (results_none rfl _ _ _) rfl ?_) | (refine bodyPost_end (results_none rfl _ _ _) rfl ?_)
      exact unhide HRR
theorem bt_in {set : List Int} {g : Nat → Nat} (hg : WordsOf set g) (n : Nat) : Bt g n = true ↔ inPs set (n : Int) := by rw [inPs_iff, hg.2]
set_option maxHeartbeats 2000000 in
set_option maxRecDepth 100000 in
theorem members_any (g : Nat → Nat) (set : List Int) (w : World) (hg : WordsOf set g) :
    Calls Tryz.prog 104 #[ws4 g] w fun e w' => ∃ v, e = .returned v ∧ w'.ownsRow (w.heap.size + 1) 3 1 v (bytesOf set 256).length ((bytesOf set 256).map mI) ∧ Below w.heap.size w w' := by
  obtain ⟨i0, hi, hz0, hz1, hz2⟩ := info_parts Tryz.zinInt
  have HG := hide hg
  have Hrow := hide (four_row w 126 g)
  clear hg
  unfold ws4
  go_enter Tryz.func104, Tryz.ntmps104
  go_wp2_with fail
  have hB0 := below1 w (.cells #[.int .u64 (g 0 : Nat), .int .u64 (g 1 : Nat), .int .u64 (g 2 : Nat), .int .u64 (g 3 : Nat)] 126)
  have hzW : (w.alloc (.cells #[.int .u64 (g 0 : Nat), .int .u64 (g 1 : Nat), .int .u64 (g 2 : Nat), .int .u64 (g 3 : Nat)] 126)).heap.size = w.heap.size + 1 := sz_alloc _ _
  generalize (w.alloc (.cells #[.int .u64 (g 0 : Nat), .int .u64 (g 1 : Nat), .int .u64 (g 2 : Nat), .int .u64 (g 3 : Nat)] 126)) = W0 at *
  have hzW' : w.heap.size + 1 ≤ W0.heap.size := by omega
  clear hzW
  go_loopw [3, 5] (fun bv iv wr => ∃ n : Nat, n ≤ 256 ∧ iv = .int .i64 n ∧ wr.ownsRow W0.heap.size 3 1 bv (bytesOf set n).length ((bytesOf set n).map mI) ∧ Below W0.heap.size W0 wr) (fun _ iv _ => 256 - (intOf iv).toNat)
  case atStart => exact ⟨0, Nat.zero_le _, rfl, World.ownsRow_nil _ _ _ _, Below.refl _ _⟩
  case round =>
    obtain ⟨n, hn, rfl, hown, hbw⟩ := hrel
    have hszr := hbw.size
    have hbl := bytes_len set n
    have Hown := hide hown
    obtain ⟨oa, oc, rfl⟩ := own_is hown
    clear hown
    by_cases hlt : n < 256
    · have hlt' : (n : Int) < 256 := by omega
      have hrw := (unhide Hrow).of_block (hbw.block _ (by omega))
      have c0 := hrw.cell (i := 0) (by omega)
      have c1 := hrw.cell (i := 1) (by omega)
      have c2 := hrw.cell (i := 2) (by omega)
      have c3 := hrw.cell (i := 3) (by omega)
      clear hrw
      go_wp2_with fail
      refine (has_w g n _ (unhide HG).1 hlt).mono ?_
      rintro e w1 ⟨rfl, hb1⟩
      have Hown1 := hide (own_keep (unhide Hown) hb1 (Nat.le_refl _))
      have hB1 : Below W0.heap.size W0 w1 := hbw.trans (hb1.mono hbw.size)
      have hsz1 := hB1.size
      clear hb1 c0 c1 c2 c3
      have hbi := bt_in (unhide HG) n
      cases hbv : Bt g n with
      | true =>
        have HN := hide (bytes_in (hbi.1 hbv))
        clear hbi hbv
        generalize bytesOf set n = bs at *
        go_wp2_with (at_builtin; refine wpList_append_own _ rfl _ _ 34 rfl W0.heap.size 3 i0 (.int .i64 0) 1 8 Tryz.underlying34 hi hz0 hz1 hz2 rfl (by decide) _ _ _ rfl (World.ownsRow.alloc (w := w1) (unhide Hown1) _) ⟨w1.heap.size, 0, none⟩ 1 1 [.int .i64 n] rfl rfl (cell_1 (by simp)) (fun u' hu => by simp at hu; subst hu; rfl) (by unfold maxLen; omega) (by omega) (by rw [sz_alloc]; omega) ?_)
        intro v' w3 h5 hg5 _
        have hst := hide (grow_int (unhide Hown1) hsz1 (pushd_alloc w1 _) h5 hg5)
        clear h5 hg5
        go_wp2
        go_roundw
        case rel => exact ⟨n + 1, by omega, by go_num, by rw [unhide HN]; exact (unhide hst).1, hB1.trans (unhide hst).2⟩
        case measure => simp [intOf]; omega
      | false =>
        have HN := hide (bytes_out (fun h => by rw [hbi.2 h] at hbv; cases hbv))
        clear hbi hbv
        go_wp2
        go_roundw
        case rel => exact ⟨n + 1, by omega, by go_num, by rw [unhide HN]; exact unhide Hown1, hB1⟩
        case measure => simp [intOf]; omega
    · obtain rfl : n = 256 := by omega
      have hB1 : Below w.heap.size w wr := hB0.trans (hbw.mono (by omega))
      have hO := hide (own_low (unhide Hown) hzW')
      go_wp2
      go_ret
      exact ⟨_, rfl, unhide hO, hB1⟩
set_option maxHeartbeats 2000000 in
set_option maxRecDepth 100000 in
theorem leafSk_any (g : Nat → Nat) (set : List Int) (w : World) (hg : WordsOf set g) :
    Calls Tryz.prog 80 #[ws4 g] w fun e w' => ∃ v ps, e = .returned v ∧ LL mI 0 3 34 w.heap.size w' v ps ∧ ps.map Cl.xs = leafS set ∧ Below w.heap.size w w' := by
  obtain ⟨i1', hi', hz0', hz1', hz2'⟩ := info_parts Tryz.zinIntS
  have HM := hide (fun w => members_any g set w hg)
  have hrow := four_row w 126 g
  have c0 := hrow.cell (i := 0) (by omega)
  have c1 := hrow.cell (i := 1) (by omega)
  have c2 := hrow.cell (i := 2) (by omega)
  have c3 := hrow.cell (i := 3) (by omega)
  clear hrow hg
  unfold ws4 at HM ⊢
  go_enter Tryz.func80, Tryz.ntmps80
  go_wp2_with fail
  refine (unhide HM _).mono ?_
  rintro e V ⟨mv, rfl, hown, hbV⟩
  have hB1 : Below w.heap.size w V := (below1 w _).trans (hbV.mono (by rw [sz_alloc]; omega))
  have hszV := hB1.size
  have hbl := bytes_len set 256
  have Hown := hide hown
  obtain ⟨ma, mc, rfl⟩ := own_is hown
  clear hown hbV c0 c1 c2 c3
  by_cases h8 : 8 < (bytesOf set 256).length
  · have h8' : (8 : Int) < ((bytesOf set 256).length : Int) := by omega
    have HL : Hid (leafS set = [[256]]) := if_pos h8
    have hbA := below2 V (.cells #[.int .i64 256] 3) (.cells #[.slice (some ⟨V.heap.size, 0, none⟩) 1 1] 34)
    have hl1 : ((V.alloc (.cells #[.int .i64 256] 3)).alloc (.cells #[.slice (some ⟨V.heap.size, 0, none⟩) 1 1] 34)).heap[V.heap.size]? = some (.cells #[.int .i64 256] 3 (0, 0)) := by
      show ((V.heap.push _).push _)[V.heap.size]? = _
      rw [Array.getElem?_push_lt (by simp)]
      simp
    have hl2 : ((V.alloc (.cells #[.int .i64 256] 3)).alloc (.cells #[.slice (some ⟨V.heap.size, 0, none⟩) 1 1] 34)).heap[V.heap.size + 1]? = some (.cells #[.slice (some ⟨V.heap.size, 0, none⟩) 1 1] 34 (0, 0)) := by
      show ((V.heap.push _).push _)[V.heap.size + 1]? = _
      rw [Array.getElem?_push, if_pos (by simp)]
    have HR := hide (gap_row (base := w.heap.size) hl1 hl2 (by omega))
    have HBA := hide (hB1.trans (hbA.mono hszV))
    clear hl1 hl2 hbA
    go_wp2
    go_ret
    exact ⟨_, _, rfl, unhide HR, by rw [unhide HL]; rfl, unhide HBA⟩
  · have h8' : ¬ (8 : Int) < ((bytesOf set 256).length : Int) := by omega
    have HL : Hid (leafS set = (bytesOf set 256).map (fun b => [b])) := if_neg h8
    have Hb := hide (own_slw (lo := 0) (unhide Hown) (Nat.zero_le _) (by unfold maxLen; omega)).at
    generalize bytesOf set 256 = bs at *
    go_wp2_with fail
    go_loopw [4, 16] (fun ov iv wr => ∃ (i : Nat) (os : List (Cl Int)), i ≤ bs.length ∧ iv = .int .i64 i ∧ os.map Cl.xs = (bs.take i).map (fun b => [b]) ∧ LL mI 0 3 34 V.heap.size wr ov os ∧ Below V.heap.size V wr) (fun _ iv _ => bs.length - (intOf iv).toNat)
    case atStart => exact ⟨0, [], Nat.zero_le _, rfl, rfl, LL.nil, Below.refl _ _⟩
    case round =>
      obtain ⟨i, os, hil, rfl, hos, hlr, hbr⟩ := hrel
      have hsz2 := hbr.size
      have hol : os.length ≤ i := by
        have := congrArg List.length hos
        simp at this
        omega
      have Hos := hide hos
      have Hlr := hide hlr
      obtain ⟨ta, tc, rfl⟩ := own_is hlr.own
      clear hos hlr
      by_cases hlt2 : i < bs.length
      · have hlt2' : (i : Int) < (bs.length : Int) := by omega
        obtain ⟨_, _, e, -, hcb⟩ := (unhide Hb).below hbr (Nat.le_refl _)
        cases e
        obtain ⟨vb, vo, rfl, -, -, hcell⟩ := hcb (by omega)
        have hx : wr.cell? ⟨vb, vo + i, none⟩ = some (.int .i64 (bs[i]?.getD 0)) := hcell i hlt2
        have HN : Hid (∀ p : Cl Int, p.xs = [bs[i]?.getD 0] → (os ++ [p]).map Cl.xs = (bs.take (i + 1)).map (fun b => [b])) := fun p hp => by
          rw [List.map_append, List.map_singleton, hp, unhide Hos, single_next hlt2]
        clear hcell hcb Hos
        generalize bs[i]?.getD 0 = x at *
        have hB9 := below1 wr (.cells #[.int .i64 x] 3)
        have HA := hide ((unhide Hlr).keep hB9 (Nat.le_refl _))
        have Hpok : Hid (Cl.ok mI 0 3 (wr.alloc (.cells #[.int .i64 x] 3)) ⟨.slice (some ⟨wr.heap.size, 0, none⟩) 1 1, [x], wr.heap.size⟩) := ⟨_, 1, rfl, ⟨Nat.le_refl _, by unfold maxLen; omega⟩, fun _ => ⟨0, rfl, ⟨_, (pushd_alloc wr _).new⟩, fun k hk => by
          obtain rfl : k = 0 := by have : k < 1 := hk; omega
          exact (pushd_alloc wr (.cells #[.int .i64 x] 3)).news 0 _ rfl⟩⟩
        have hzA : V.heap.size ≤ (wr.alloc (.cells #[.int .i64 x] 3)).heap.size := by rw [sz_alloc]; omega
        have Hst : Hid (∀ (w' : World) (v' : Value), w'.ownsRow V.heap.size 34 1 v' (os.length + 1) (os.map Cl.v ++ [.slice (some ⟨wr.heap.size, 0, none⟩) 1 1]) → ((wr.alloc (.cells #[.int .i64 x] 3)).alloc (.cells #[.slice (some ⟨wr.heap.size, 0, none⟩) 1 1] 34)).grownBy w' (Value.slice ta os.length tc).ownBlock → LL mI 0 3 34 V.heap.size w' v' (os ++ [⟨.slice (some ⟨wr.heap.size, 0, none⟩) 1 1, [x], wr.heap.size⟩]) ∧ Below V.heap.size (wr.alloc (.cells #[.int .i64 x] 3)) w') := fun w' v' g1 g2 =>
          (unhide HA).app (by decide) hzA (unhide Hpok) (fun _ => hsz2) (fun q hq h0 _ e => by have := ((unhide Hlr).ok q hq).lt h0; simp only at e; omega) (pushd_alloc _ _) g1 g2
        go_wp2_with (at_builtin; refine wpList_append_own _ rfl _ _ 29 rfl V.heap.size 34 i1' (.slice none 0 0) 1 24 Tryz.underlying29 hi' hz0' hz1' hz2' rfl (by decide) _ _ _ rfl (World.ownsRow.alloc (w := wr.alloc (.cells #[.int .i64 x] 3)) (unhide HA).own _) ⟨wr.heap.size + 1, 0, none⟩ 1 1 [.slice (some ⟨wr.heap.size, 0, none⟩) 1 1] rfl rfl ?_ ?_ ?_ ?_ ?_ ?_)
        · exact cell_1 (by simp)
        · intro u' hu; simp at hu; subst hu; rfl
        · unfold maxLen; omega
        · omega
        · rw [sz_alloc]; omega
        intro v3 w3 h5 hg5 _
        have h3 := hide (unhide Hst w3 v3 h5 hg5)
        obtain ⟨g3, cap3, rfl⟩ := ownsRow_succ h5
        clear h5 hg5
        have hB3 : Below V.heap.size V w3 := hbr.trans ((hB9.mono hsz2).trans (unhide h3).2)
        go_wp2
        go_roundw
        case rel => exact ⟨i + 1, _, by omega, by go_num, unhide HN _ rfl, (unhide h3).1, hB3⟩
        case measure => simp [intOf]; omega
      · obtain rfl : i = bs.length := by omega
        rw [List.take_length] at Hos
        have Hl4 := hide ((unhide Hlr).base hszV)
        go_wp2
        go_ret
        exact ⟨_, os, rfl, unhide Hl4, by rw [unhide Hos, unhide HL], hB1.trans (hbr.mono hszV)⟩
set_option maxHeartbeats 1000000 in
set_option maxRecDepth 100000 in
theorem SkV.repG {u : Value} {mn mx : Int} {L S : List (List Int)} (iu : ∃ T x, u = .iface T x) (hS : CutR L S) (h : ∀ B w, SkB B w (.slice none 0 0) [] [] false → Calls Tryz.prog 82 #[.pointer (some ⟨B, 0, none⟩), .agg #[u, .int .i64 mn, .int .i64 mx]] w fun e w' => RepQ B w w' L e) : SkV (rV u mn mx) S := by
  refine ⟨⟨_, _, rfl⟩, fun w => ?_⟩
  obtain ⟨T, x, rfl⟩ := iu
  unfold rV
  have HH := hide h
  have HS := hide hS
  have t1 := tb_re
  have t2 := tb_rs
  have t3 := tb_rc
  have t4 := tb_ra
  have t5 := tb_rr
  obtain ⟨h1, h2, h3⟩ := sk_start w
  have H4 := hide (h1.keep (below1 _ (.cells #[.iface T x, .int .i64 mn, .int .i64 mx] 136)) (Nat.le_refl _))
  have H5 := hide (h2.alloc (.cells #[.iface T x, .int .i64 mn, .int .i64 mx] 136))
  have H6 := hide (h3.alloc (by rw [sz_alloc, sz_alloc]; omega) (.cells #[.iface T x, .int .i64 mn, .int .i64 mx] 136))
  have hz2 : w.heap.size + 1 < (((w.alloc zS).alloc zS).alloc (.cells #[.iface T x, .int .i64 mn, .int .i64 mx] 136)).heap.size := by rw [sz_alloc, sz_alloc, sz_alloc]; omega
  clear h1 h2 h3 h hS
  go_enter Tryz.func43, Tryz.ntmps43
  go_wp2_with fail
  generalize (((w.alloc zS).alloc zS).alloc (.cells #[.iface T x, .int .i64 mn, .int .i64 mx] 136)) = w2 at *
  refine (unhide HH _ _ (unhide H4)).mono ?_
  rintro e w5 ⟨rfl, lv5, ps5, c5, hk5, hf5⟩
  have hz5 := hf5.size
  have h52 : ∀ k, k ≤ w.heap.size → w5.heap[k]? = w2.heap[k]? := fun k h1 => hf5.block k (by omega) (by omega) (by intro h; cases h)
  obtain ⟨y0, y1, y2, y3⟩ := hk5.box.facts4
  obtain ⟨z0, z1, z2, z3⟩ := ((unhide H5).blk (h52 _ (Nat.le_refl _))).facts4
  have hR := sk_fin (S := S) (R := w.heap.size) hk5 ((unhide H6).trans ⟨hf5.os, hf5.tape, hf5.output, by omega, fun k hk => h52 k (by omega)⟩) (Nat.le_refl _) (by omega) (unhide HS)
  have HRR := hide hR
  obtain ⟨la, lc, rfl⟩ := own_is hk5.row.own
  clear hR h52 hk5 hf5
  go_wp2
  refine bodyPost_ret (v := .agg #[.slice la ps5.length lc, .bool c5]) (by simp [results, Tryz.results43, go_sem, z0, z1]) rfl (unhide HRR)
theorem cut_gap : CutR [[256]] [[256]] := ⟨[[256]], List.pairwise_singleton _ _, by simp, Or.inr ⟨fun h => by rcases h with h | ⟨x, h, h2⟩ <;> simp at h; subst h; simp at h2, rfl⟩⟩
theorem SkV.rep0 {u : Value} (iu : ∃ T x, u = .iface T x) (mx : Int) : SkV (rV u 0 mx) [[256]] := SkV.repG iu cut_gap (fun B w h => addRep_zero B u mx w iu h)
theorem SkV.rep {u : Value} {S1 S : List (List Int)} (hu : SkV u S1) (m1 : Sm S1) (mn mx : Int) (hmn : mn ≠ 0) (hS : CutR (S1 ++ prd (S1.map (fun a => jn2 a [256])) S1) S) : SkV (rV u mn mx) S := SkV.repG hu.1 hS (fun B w h => addRep_some B u mn mx S1 w hu m1 hmn h)
theorem bytes_lt (set : List Int) : ∀ n : Nat, ∀ b ∈ bytesOf set n, b < (n : Int)
  | 0, b, h => by cases h
  | n + 1, b, h => by
    by_cases q : inPs set n
    · rw [bytes_in q] at h
      rcases List.mem_append.1 h with h | h
      · have := bytes_lt set n b h; omega
      · rw [List.mem_singleton.1 h]; omega
    · rw [bytes_out q] at h
      have := bytes_lt set n b h; omega
theorem lexc_one {a b : Int} (h : a < b) : lexc [a] [b] < 0 := by
  simp [lexc, h]
theorem bytes_asc (set : List Int) : ∀ n : Nat, LAsc ((bytesOf set n).map (fun b => [b]))
  | 0 => List.Pairwise.nil
  | n + 1 => by
    by_cases q : inPs set n
    · rw [bytes_in q, List.map_append]
      refine List.pairwise_append.2 ⟨bytes_asc set n, List.pairwise_singleton _ _, fun a ha b hb => ?_⟩
      obtain ⟨x, hx, rfl⟩ := List.mem_map.1 ha
      rw [List.map_singleton] at hb
      rw [List.mem_singleton.1 hb]
      exact lexc_one (bytes_lt set n x hx)
    · rw [bytes_out q]
      exact bytes_asc set n
theorem leaf_cut (set : List Int) : CutR (leafS set) (leafS set) := by
  unfold leafS
  by_cases h : 8 < (bytesOf set 256).length
  · rw [if_pos h]; exact cut_gap
  · rw [if_neg h]
    refine ⟨_, bytes_asc set 256, fun z => Iff.rfl, Or.inr ⟨fun k => ?_, rfl⟩⟩
    rcases k with k | ⟨x, hx, k⟩
    · rw [List.length_map] at k; omega
    · obtain ⟨b, -, rfl⟩ := List.mem_map.1 hx
      simp at k
theorem leaf_len (set : List Int) : (leafS set).length ≤ 50 := (leaf_cut set).small.1
set_option maxHeartbeats 1000000 in
set_option maxRecDepth 100000 in
theorem SkV.s {g : Nat → Nat} {set : List Int} (hg : WordsOf set g) : SkV (sV g) (leafS set) := by
  refine ⟨⟨_, _, rfl⟩, fun w => ?_⟩
  have HM := hide (fun w => leafSk_any g set w hg)
  unfold sV ws4
  unfold ws4 at HM
  have t1 := tb_se
  have t2 := tb_ss
  obtain ⟨h1, h2, h3⟩ := sk_start w
  have H4 := hide (h1.keep (below1 _ (.cells #[.int .u64 (g 0 : Nat), .int .u64 (g 1 : Nat), .int .u64 (g 2 : Nat), .int .u64 (g 3 : Nat)] 128)) (Nat.le_refl _))
  have H5 := hide (h2.alloc (.cells #[.int .u64 (g 0 : Nat), .int .u64 (g 1 : Nat), .int .u64 (g 2 : Nat), .int .u64 (g 3 : Nat)] 128))
  have H6 := hide (h3.alloc (by rw [sz_alloc, sz_alloc]; omega) (.cells #[.int .u64 (g 0 : Nat), .int .u64 (g 1 : Nat), .int .u64 (g 2 : Nat), .int .u64 (g 3 : Nat)] 128))
  have hz2 : w.heap.size + 1 < (((w.alloc zS).alloc zS).alloc (.cells #[.int .u64 (g 0 : Nat), .int .u64 (g 1 : Nat), .int .u64 (g 2 : Nat), .int .u64 (g 3 : Nat)] 128)).heap.size := by rw [sz_alloc, sz_alloc, sz_alloc]; omega
  clear h1 h2 h3 hg
  go_enter Tryz.func43, Tryz.ntmps43
  go_wp2_with fail
  generalize (((w.alloc zS).alloc zS).alloc (.cells #[.int .u64 (g 0 : Nat), .int .u64 (g 1 : Nat), .int .u64 (g 2 : Nat), .int .u64 (g 3 : Nat)] 128)) = w2 at *
  refine (unhide HM w2).mono ?_
  rintro e w3 ⟨lv1, qs1, rfl, hl1, hq1, hb3⟩
  have hz3 := hb3.size
  have hn1 : qs1.length ≤ 1048576 := by have := leaf_len set; rw [← hq1, List.length_map] at this; omega
  have H33 := hide hb3
  have HQ1 := hide hq1
  have HL1 := hide hl1
  obtain ⟨l1a, l1c, rfl⟩ := own_is hl1.own
  have HA := hide (addAll_any (w.heap.size + 1) _ _ [] [] qs1 false w3 ((unhide H4).keep hb3 (Nat.le_refl _)) ⟨(unhide HL1).base (by omega), fun k hk e => by cases e⟩ hn1 (fun p hp => by cases hp))
  clear hb3 hl1 hq1
  go_wp2_with fail
  refine (unhide HA).mono ?_
  rintro e w5 ⟨rfl, lv5, ps5, c5, hk5, -, hf5, -⟩
  have hz5 := hf5.size
  have h52 : ∀ k, k ≤ w.heap.size → w5.heap[k]? = w2.heap[k]? := fun k h1 => (hf5.block k (by omega) (by omega) (by intro h; cases h)).trans ((unhide H33).block k (by omega))
  obtain ⟨y0, y1, y2, y3⟩ := hk5.box.facts4
  obtain ⟨z0, z1, z2, z3⟩ := ((unhide H5).blk (h52 _ (Nat.le_refl _))).facts4
  have hR := sk_fin (S := leafS set) (R := w.heap.size) hk5 ((unhide H6).trans ⟨hf5.os.trans (unhide H33).os, hf5.tape.trans (unhide H33).tape, hf5.output.trans (unhide H33).output, by omega, fun k hk => h52 k (by omega)⟩) (Nat.le_refl _) (by omega) (by rw [List.nil_append, unhide HQ1]; exact leaf_cut set)
  have HRR := hide hR
  obtain ⟨la, lc, rfl⟩ := own_is hk5.row.own
  clear hR h52 hk5 hf5 HA
  go_wp2
  refine bodyPost_ret (v := .agg #[.slice la ps5.length lc, .bool c5]) (by simp [results, Tryz.results43, go_sem, z0, z1]) rfl (unhide HRR)
end Go.Proofs.YtinhliecfjlocaaGreat
