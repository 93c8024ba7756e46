import Derived.Test.YtjefklagedidmaaGreatQo1
import Derived.Deep.RegionHeld3
namespace Go.Proofs.YtjefklagedidmaaGreat
open Go.RowKit

set_option maxHeartbeats 8000000 in
set_option maxRecDepth 100000 in
theorem specQ_any (l r : Bool) (v : Value) (xs : List El) (w : World) (hv : ElsAt 0 w.heap.size w v xs) :
    Calls Tryz.prog 5 #[.agg #[.bool l, .bool r, v]] w fun e w' => ∃ v' rs, e = .returned (.agg #[v']) ∧ QAns xs rs ∧ SsAt mI 0 w'.heap.size w' v' rs ∧ Below w.heap.size w w' := by
  obtain ⟨i0, hi, hz0, hz1, hz2⟩ := info_parts Tryz.zinIntS
  obtain ⟨j0, hj, hy0, hy1, hy2⟩ := info_parts Tryz.zinInt
  have Hv := hide hv
  obtain ⟨a, cp, rfl, -, -⟩ := id hv
  clear hv
  go_enter Tryz.func5, Tryz.ntmps5
  go_wp2_with fail
  have hB0 := below2 w (.cells #[.bool l, .bool r, .slice a xs.length cp] 32) (.cells #[.slice none 0 0] 28)
  have RR := Boxed.new (w.alloc (.cells #[.bool l, .bool r, .slice a xs.length cp] 32)) 28 (.slice none 0 0)
  rw [World.size_alloc] at RR
  have hzW : w.heap.size + 2 ≤ ((w.alloc (.cells #[.bool l, .bool r, .slice a xs.length cp] 32)).alloc (.cells #[.slice none 0 0] 28)).heap.size := by rw [sz_alloc, sz_alloc]; omega
  generalize (w.alloc (.cells #[.bool l, .bool r, .slice a xs.length cp] 32)).alloc (.cells #[.slice none 0 0] 28) = W0 at *
  refine (specK_any l r _ xs _ ((unhide Hv).below hB0 (Nat.le_refl _))).mono ?_
  rintro e w1 ⟨kv, ps, rfl, hans, hll, hb1⟩
  have hz1' := hb1.size
  have RR1 := hide (Boxed.below' RR hb1 (by omega))
  have hB1 : Below w.heap.size w w1 := hB0.trans (hb1.mono (by omega))
  have HAT : Hid (∀ W, Below w1.heap.size w1 W → SsAt mI 0 W.heap.size W kv (ps.map Cl.xs)) := fun W hW => (hll.keep hW (Nat.le_refl _)).lr.at
  have hSm := hans.sm
  have HSy := hide hans.sy
  have HSm := hide hSm
  have hSl : (ps.map Cl.xs).length ≤ 50 := hSm.1
  obtain ⟨ka, kc, rfl, -, -⟩ := unhide HAT w1 (Below.refl _ _)
  have Hans := hide hans
  generalize ps.map Cl.xs = S at *
  clear hb1 hll hans hSm RR Hv
  go_wp2_with fail
  go_loopw [4, 5] (fun sv iv wr => ∃ (n : Nat) (os : List (Cl Int)), n ≤ S.length ∧ iv = .int .i64 n ∧ os.map Cl.xs = (gS S).take n ∧ LL mI 0 3 41 w1.heap.size wr sv os ∧ Below w1.heap.size w1 wr) (fun _ iv _ => S.length - (intOf iv).toNat)
  case atStart => exact ⟨0, [], Nat.zero_le _, rfl, rfl, LL.nil, Below.refl _ _⟩
  case round =>
    obtain ⟨n, os, hn, rfl, heq, hlo, hb⟩ := hrel
    obtain ⟨V, hVe⟩ : ∃ V, V = wr := ⟨_, rfl⟩
    subst hVe
    have hszr := hb.size
    have hol : os.length ≤ 50 := by
      have := congrArg List.length heq
      rw [List.length_map, List.length_take, gS_len] at this
      omega
    have Heq := hide heq
    have Hll := hide hlo
    obtain ⟨oa, oc, rfl⟩ := own_is hlo.own
    clear heq hlo
    by_cases hlt : n < S.length
    · have hlt' : (n : Int) < (S.length : Int) := by omega
      obtain ⟨_, _, e, -, hc⟩ := unhide HAT V hb
      cases e
      obtain ⟨b, off, rfl, hbn, hcell⟩ := hc (by omega)
      obtain ⟨sv, hx, hsx, -⟩ := hcell n hlt
      obtain ⟨sa, sc, rfl, hsl, hcs⟩ := hsx
      have hmem : S[n]?.getD [] ∈ S := by rw [List.getElem?_eq_getElem hlt]; exact List.getElem_mem hlt
      have hxl : (S[n]?.getD []).length ≤ 60 := (unhide HSm).2 _ hmem
      have Hxs : Hid (∀ i : Nat, 0 ≤ (S[n]?.getD [])[i]?.getD 0 ∧ (S[n]?.getD [])[i]?.getD 0 ≤ 256) := sym_get (unhide HSy _ hmem)
      have Hnext : Hid (∀ p : Cl Int, p.xs = gtr (S[n]?.getD []) ((S[n]?.getD []).length - 2) → (os ++ [p]).map Cl.xs = (gS S).take (n + 1)) := fun p h1 => by
        rw [List.map_append, unhide Heq, gS_step S n hlt, ← h1]; rfl
      clear hcell hc hmem hsl
      generalize S[n]?.getD [] = x at *
      have HXC : Hid (∀ W : World, Below V.heap.size V W → W.cell? ⟨b, off + n, none⟩ = some (.slice sa x.length sc)) := fun W hW => (hW.cell (p := ⟨b, off + n, none⟩) hbn).trans hx
      clear hx
      go_wp2_with fail
      go_loopw [6, 7] (fun cv jv wq => ∃ m : Nat, m ≤ x.length - 2 ∧ jv = .int .i64 m ∧ wq.ownsRow V.heap.size 3 1 cv (gtr x m).length ((gtr x m).map mI) ∧ Below V.heap.size V wq) (fun _ jv _ => x.length - (intOf jv).toNat)
      case atStart => exact ⟨0, Nat.zero_le _, rfl, World.ownsRow_nil _ _ _ _, Below.refl _ _⟩
      case round =>
        obtain ⟨m, hm, rfl, hown, hbq⟩ := hrel
        have hszq := hbq.size
        have Hown := hide hown
        obtain ⟨ca, cc, rfl⟩ := own_is hown
        have hgl := gtr_len x m
        have hx := unhide HXC wr hbq
        clear hown
        by_cases hm2 : m + 2 < x.length
        · have hlt2 : (m : Int) + 2 < (x.length : Int) := by omega
          obtain ⟨sb, so, rfl, -, hsb, hsc⟩ := hcs (by omega)
          have hS : Hid (∀ W' : World, Below V.heap.size V W' → W'.cell? ⟨b, off + n, none⟩ = some (.slice (some ⟨sb, so, none⟩) x.length sc) ∧ W'.cell? ⟨sb, so + m, none⟩ = some (.int .i64 (x[m]?.getD 0)) ∧ W'.cell? ⟨sb, so + (m + 1), none⟩ = some (.int .i64 (x[m + 1]?.getD 0)) ∧ W'.cell? ⟨sb, so + ((m : Int) + 2).toNat, none⟩ = some (.int .i64 (x[m + 2]?.getD 0)) ∧ W'.cell? ⟨sb, so + (m + 2), none⟩ = some (.int .i64 (x[m + 2]?.getD 0))) := fun W' hW =>
            ⟨unhide HXC W' hW, (hW.cell (p := ⟨sb, so + m, none⟩) hsb).trans (hsc m (by omega)), (hW.cell (p := ⟨sb, so + (m + 1), none⟩) hsb).trans (hsc (m + 1) (by omega)), by rw [show ((m : Int) + 2).toNat = m + 2 by omega]; exact (hW.cell (p := ⟨sb, so + (m + 2), none⟩) hsb).trans (hsc (m + 2) (by omega)), (hW.cell (p := ⟨sb, so + (m + 2), none⟩) hsb).trans (hsc (m + 2) (by omega))⟩
          obtain ⟨-, hx0, hx1, hx2, hx2'⟩ := unhide hS wr hbq
          have q0 := unhide Hxs m
          have q1 := unhide Hxs (m + 1)
          have q2 := unhide Hxs (m + 2)
          have HT : Hid (tri3 x m = x[m]?.getD 0 * 65536 + x[m + 1]?.getD 0 * 256 + x[m + 2]?.getD 0) := rfl
          have HG : Hid (gap3 x m ↔ (x[m]?.getD 0 = 256 ∨ x[m + 1]?.getD 0 = 256 ∨ x[m + 2]?.getD 0 = 256)) := Iff.rfl
          clear hsc
          generalize x[m]?.getD 0 = x0 at *
          generalize x[m + 1]?.getD 0 = x1 at *
          generalize x[m + 2]?.getD 0 = x2 at *
          have k1 : IntKind.i64.wrap ((m : Int) + 2) = (m : Int) + 2 := k64i (by omega) (by omega)
          have k2 : IntKind.i64.wrap ((m : Int) + 1) = (m : Int) + 1 := k64i (by omega) (by omega)
          have hlt1 : (m : Int) + 1 < (x.length : Int) := by omega
          have hlt0 : (m : Int) < (x.length : Int) := by omega
          have hp1 : (0 : Int) ≤ (m : Int) + 1 := by omega
          have hp2 : (0 : Int) ≤ (m : Int) + 2 := by omega
          by_cases g0 : x0 < 256
          · by_cases g1 : x1 < 256
            · by_cases g2 : x2 < 256
              · have HE := hide (gtr_yes (bs := x) (n := m) (fun q => by have := (unhide HG).1 q; omega))
                have hst : Hid (∀ (W w' : World) (v' : Value) (o : Obj), Pushd wr W o → w'.ownsRow V.heap.size 3 1 v' ((gtr x m).length + 1) ((gtr x m).map mI ++ [.int .i64 (x0 * 65536 + x1 * 256 + x2)]) → W.grownBy w' (Value.slice ca (gtr x m).length cc).ownBlock → w'.ownsRow V.heap.size 3 1 v' (gtr x (m + 1)).length ((gtr x (m + 1)).map mI) ∧ Below V.heap.size V w') := fun W w' v' o hP q1 q2 => by
                  obtain ⟨r1, r2⟩ := grow_int (os := gtr x m) (u := tri3 x m) (v' := v') (unhide Hown) hszq hP (by rw [unhide HT]; exact q1) q2
                  rw [← unhide HE] at r1
                  exact ⟨r1, hbq.trans r2⟩
                have Hq0 : Hid (0 ≤ x0 ∧ x0 ≤ 255) := ⟨q0.1, by omega⟩
                have Hq1 : Hid (0 ≤ x1 ∧ x1 ≤ 255) := ⟨q1.1, by omega⟩
                have Hq2 : Hid (0 ≤ x2 ∧ x2 ≤ 255) := ⟨q2.1, by omega⟩
                clear HG hcs Hnext
                go_wp2_with fail
                go_region_held3 (fun W' => W'.cell? ⟨b, off + n, none⟩ = some (.slice (some ⟨sb, so, none⟩) x.length sc) ∧ W'.cell? ⟨sb, so + m, none⟩ = some (.int .i64 x0) ∧ W'.cell? ⟨sb, so + (m + 1), none⟩ = some (.int .i64 x1) ∧ W'.cell? ⟨sb, so + ((m : Int) + 2).toNat, none⟩ = some (.int .i64 x2) ∧ W'.cell? ⟨sb, so + (m + 2), none⟩ = some (.int .i64 x2))
                  (first | go_keep | exact unhide hS _ (unhide hs).2)
                  (first
                    | (refine step_call_o 15 #[.tmp 63, .tmp 71, .tmp 79] _ rfl #[.int .i64 x0, .int .i64 x1, .int .i64 x2] rfl (by simp [Act.eval]) (run_l3num _ _ _) (l3num_any x0 x1 x2 _ (unhide Hq0) (unhide Hq1) (unhide Hq2)) ?_; rintro e w2 ⟨rfl, rfl⟩; refine ⟨_, rfl, ?_⟩)
                    | (refine step_append_lies _ rfl (.tmp 56) (.tmp 81) 41 rfl V.heap.size 3 j0 (.int .i64 0) 1 8 Tryz.underlying41 hj hy0 hy1 hy2 rfl (by decide) (.slice ca (gtr x m).length cc) (gtr x m).length ((gtr x m).map mI) (by simp [Act.eval]) (by refine Pushd.own (w := wr) (o := .cells #[.int .i64 (x0 * 65536 + x1 * 256 + x2)] 3) ?_ (unhide Hown); exact ⟨rfl, rfl, rfl, rfl⟩) ⟨wr.heap.size, 0, none⟩ 1 1 [.int .i64 (x0 * 65536 + x1 * 256 + x2)] (by simp [Act.eval]) rfl (by refine Pushd.news (w := wr) (cs := #[.int .i64 (x0 * 65536 + x1 * 256 + x2)]) (t := 3) ?_; exact ⟨rfl, rfl, rfl, rfl⟩) (by intro u hu; simp at hu; subst hu; rfl) (by decide) (by unfold maxLen; omega) (by omega) (by show V.heap.size ≤ (wr.alloc _).heap.size; rw [sz_alloc]; omega) (wr.heap.size + 1) (sz_alloc wr _) (fun g cap' w' q1 q2 q3 q4 => ?_); have hs := hide (unhide hst _ w' (.slice (some ⟨g, 0, none⟩) ((gtr x m).length + 1) cap') (.cells #[.int .i64 (x0 * 65536 + x1 * 256 + x2)] 3) (by exact ⟨rfl, rfl, rfl, rfl⟩) q1 q2); clear q1 q2 q3 q4))
                all_goals
                  go_wp2
                  exact ⟨⟨m + 1, by omega, by go_num, (unhide hs).1, (unhide hs).2⟩, by simp [intOf]; omega⟩
              · have HE := hide (gtr_no (bs := x) (n := m) ((unhide HG).2 (by omega)))
                clear HG hcs Hnext hS
                go_wp2
                go_roundw
                case rel => exact ⟨m + 1, by omega, by go_num, by rw [unhide HE]; exact unhide Hown, hbq⟩
                case measure => simp [intOf]; omega
            · have HE := hide (gtr_no (bs := x) (n := m) ((unhide HG).2 (by omega)))
              clear HG hcs Hnext hS
              go_wp2
              go_roundw
              case rel => exact ⟨m + 1, by omega, by go_num, by rw [unhide HE]; exact unhide Hown, hbq⟩
              case measure => simp [intOf]; omega
          · have HE := hide (gtr_no (bs := x) (n := m) ((unhide HG).2 (by omega)))
            clear HG hcs Hnext hS
            go_wp2
            go_roundw
            case rel => exact ⟨m + 1, by omega, by go_num, by rw [unhide HE]; exact unhide Hown, hbq⟩
            case measure => simp [intOf]; omega
        · have hlt2 : ¬ (m : Int) + 2 < (x.length : Int) := by omega
          have hme : Hid (gtr x m = gtr x (x.length - 2)) := by show gtr x m = gtr x (x.length - 2); rw [show m = x.length - 2 by omega]
          have k1 : IntKind.i64.wrap ((m : Int) + 2) = (m : Int) + 2 := k64i (by omega) (by omega)
          generalize gtr x m = ys at *
          obtain ⟨pb, hpok, hplo⟩ := own_cl (unhide Hown)
          have Hll1 := hide ((unhide Hll).keep hbq (Nat.le_refl _))
          have Hp := hide hpok
          have Hst : Hid (∀ (w' : World) (v' : Value), w'.ownsRow w1.heap.size 41 1 v' (os.length + 1) (os.map Cl.v ++ [.slice ca ys.length cc]) → (wr.alloc (.cells #[.slice ca ys.length cc] 41)).grownBy w' (Value.slice oa os.length oc).ownBlock → LL mI 0 3 41 w1.heap.size w' v' (os ++ [⟨.slice ca ys.length cc, ys, pb⟩]) ∧ Below w1.heap.size wr w') := fun w' v' q1 q2 =>
            (unhide Hll1).app (by decide) (by omega) (unhide Hp) (fun h => by have h9 : V.heap.size ≤ pb := hplo h; show w1.heap.size ≤ pb; omega) (fun q hq h1 h2 e => by
              have h3 := ((unhide Hll).ok q hq).lt h1
              have h4 := hplo h2
              have : q.b = pb := e
              omega) (pushd_alloc wr _) q1 q2
          have HN := hide (unhide Hnext ⟨.slice ca ys.length cc, ys, pb⟩ (unhide hme))
          clear hpok hplo Hnext hcs
          go_wp2_with (at_builtin; refine wpList_append_own _ rfl _ _ 26 rfl w1.heap.size 41 i0 (.slice none 0 0) 1 24 Tryz.underlying26 hi hz0 hz1 hz2 rfl (by decide) _ _ _ rfl (World.ownsRow.alloc (w := wr) (unhide Hll1).own _) ⟨wr.heap.size, 0, none⟩ 1 1 [.slice ca ys.length cc] rfl rfl ?_ ?_ ?_ ?_ ?_ ?_)
          any_goals (first | exact cell_1 (by simp) | rfl | (intro u hu; simp at hu; subst hu; rfl) | (unfold maxLen; omega) | omega | (rw [sz_alloc]; omega))
          intro v3 w3 h5 hg5 _
          have h3 := hide (unhide Hst w3 v3 h5 hg5)
          obtain ⟨g3, cap3, rfl⟩ := ownsRow_succ h5
          clear h5 hg5
          go_wp2
          go_roundw
          case rel => exact ⟨n + 1, _, by omega, by go_num, unhide HN, (unhide h3).1, hb.trans ((hbq.mono hszr).trans (unhide h3).2)⟩
          case measure => simp [intOf]; omega
    · obtain rfl : n = S.length := by omega
      rw [← gS_len S, List.take_length] at Heq
      have htp : tot (os.map Cl.xs) ≤ 1048576 := by rw [unhide Heq]; have := (sm_gS (unhide HSm)); omega
      have hwB : Below w.heap.size w V := hB1.trans (hb.mono (by omega))
      have HRR := hide (Boxed.below' (unhide RR1) hb (by omega))
      have hRl := (unhide HRR).lt
      go_wp2_with fail
      refine (l3normal_any _ (os.map Cl.xs) _ (unhide Hll).lr.at (by rw [List.length_map]; omega) htp).mono ?_
      rintro e w2 ⟨v2, ks, rfl, hn2, ⟨base, hs2⟩, hb2⟩
      have HNV : Hid (QAns xs (ks.map Cl.xs)) := ⟨S, unhide Hans, by rw [← unhide Heq]; exact hn2⟩
      have HS := hide hs2
      obtain ⟨ra, rc, rfl⟩ := own_is hs2.own
      have RR2 := Boxed.below' (unhide HRR) hb2 hRl
      have cr2 := RR2.cell
      have fr2 := RR2.frozen
      have hBB := hwB.trans (hb2.mono hwB.size)
      have Hres := hide (ok_box_row (unhide HS) (by decide) RR2)
      clear hs2 hn2 hb2
      go_wp2
      exact bodyPost_ret (v := .agg #[.slice ra ks.length rc]) (by simp [results, Tryz.results5, go_sem, cr2]) rfl ⟨_, _, rfl, unhide HNV, (unhide Hres _).at, bput hBB (by omega) _⟩

end Go.Proofs.YtjefklagedidmaaGreat
