import Derived.Test.YtjefklagedidmaaGreatP6
import Derived.Laws.EntriesVeiled
namespace Go.Proofs.YtjefklagedidmaaGreat
open Go.RowKit

theorem ok_box {w : World} {B : Nat} {t : TypeId} {u v : Value} {q : Cl Int} (hq : q.ok mI 0 3 w) (ht : t ≠ 3) (hb : Boxed w B t v) : q.ok mI 0 3 (w.setCell ⟨B, 0, none⟩ u) := by
  refine hq.same (fun hp => Below.heap_setCell _ _ _ _ ?_)
  intro e
  have e' : q.b = B := e
  obtain ⟨a, cap, -, -, hc⟩ := hq
  obtain ⟨off, -, ⟨c, h1⟩, -⟩ := hc hp
  rw [e', show w.heap[B]? = _ from hb] at h1
  simp at h1
  exact ht h1.2
theorem ok_box_row {w : World} {B base : Nat} {t : TypeId} {v r : Value} {ks : List (Cl Int)} (h : LR base w r ks) (ht : t ≠ 3 ∧ t ≠ 41) (hb : Boxed w B t v) (u : Value) : LR base (w.setCell ⟨B, 0, none⟩ u) r ks :=
  ⟨ownsRow_setCell_other h.own (fun e => hb.not_row ht.2 h.own e.symm) u, fun p hp => ok_box (h.ok p hp) ht.1 hb⟩

/-- All of d stands in c. -/
def SubP (d c : List Int) : Prop := ∀ z, z ∈ d → z ∈ c
theorem l3holds_yes (u v : Value) (xs ys : List Int) (w : World) (hu : SlAt mI 0 0 w.heap.size w u xs) (ha : Asc xs) (hl : xs.length ≤ 1048576) (hv : SlAt mI 0 0 w.heap.size w v ys) (h : SubP ys xs) :
    Calls Tryz.prog 32 #[u, v] w fun e w' => e = .returned (.bool true) ∧ w' = w :=
  (l3holds_any u v xs ys w hu ha hl hv).mono (fun _ _ ⟨h1, h2⟩ => ⟨by
    rcases h1.cases with ⟨h3, -⟩ | ⟨-, h4⟩
    · exact h3
    · exact absurd h h4, h2⟩)
theorem l3holds_no (u v : Value) (xs ys : List Int) (w : World) (hu : SlAt mI 0 0 w.heap.size w u xs) (ha : Asc xs) (hl : xs.length ≤ 1048576) (hv : SlAt mI 0 0 w.heap.size w v ys) (h : ¬ SubP ys xs) :
    Calls Tryz.prog 32 #[u, v] w fun e w' => e = .returned (.bool false) ∧ w' = w :=
  (l3holds_any u v xs ys w hu ha hl hv).mono (fun _ _ ⟨h1, h2⟩ => ⟨by
    rcases h1.cases with ⟨-, h4⟩ | ⟨h3, -⟩
    · exact absurd h4 h
    · exact h3, h2⟩)

set_option maxHeartbeats 8000000 in
set_option maxRecDepth 100000 in
theorem l3normal_any (v : Value) (xss : List (List Int)) (w : World) (hv : SsAt mI 0 w.heap.size w v xss) (hl : xss.length ≤ 1048576) (ht : tot xss ≤ 1048576) :
    Calls Tryz.prog 16 #[v] w fun e w' => ∃ v' ks, e = .returned (.agg #[v']) ∧ NormV xss (ks.map Cl.xs) ∧ (∃ base, LR base w' v' ks) ∧ Below w.heap.size w w' := by
  obtain ⟨i0, hi, hz0, hz1, hz2⟩ := info_parts Tryz.zinIntS
  have Hv := hide hv
  obtain ⟨a, cap, rfl, hml, -⟩ := hv
  unfold maxLen at hml
  go_enter Tryz.func16, Tryz.ntmps16
  go_wp2_with fail
  have hB0 := below1 w (.cells #[.slice none 0 0] 28)
  have RB := hide (Boxed.new w 28 (.slice none 0 0))
  have hzW : w.heap.size + 1 ≤ (w.alloc (.cells #[.slice none 0 0] 28)).heap.size := by rw [sz_alloc]; exact Nat.le_refl _
  generalize w.alloc (.cells #[.slice none 0 0] 28) = W0 at *
  have Hv0 := hide ((unhide Hv).below hB0 (Nat.le_refl _))
  go_loopw [3, 4] (fun sv iv wr => ∃ (n : Nat) (ps : List (Cl Int)), n ≤ xss.length ∧ iv = .int .i64 n ∧ Each (xss.take n) ps ∧ LL mI 0 3 41 W0.heap.size wr sv ps ∧ Below W0.heap.size W0 wr) (fun _ iv _ => xss.length - (intOf iv).toNat)
  case atStart => exact ⟨0, [], Nat.zero_le _, rfl, Each.nil, LL.nil, Below.refl _ _⟩
  case round =>
    obtain ⟨n, ps, hn, rfl, hea, hll, hb⟩ := hrel
    have hszr := hb.size
    have hlen := hea.len
    rw [List.length_take] at hlen
    have hpl : ps.length ≤ 1048576 := by omega
    have Hea := hide hea
    have Hll := hide hll
    obtain ⟨oa, oc, rfl⟩ := own_is hll.own
    clear hea hll
    by_cases hlt : n < xss.length
    · have hlt' : (n : Int) < (xss.length : Int) := by omega
      obtain ⟨_, _, e, -, hc⟩ := (unhide Hv0).below hb (Nat.le_refl _)
      cases e
      obtain ⟨b, off, rfl, hbn, hcell⟩ := hc (by omega)
      obtain ⟨sv, hx, hsx, hcx⟩ := hcell n hlt
      have HX := hide hsx
      have HC := hide hcx
      obtain ⟨sa, sc, rfl, -⟩ := id hsx
      have hxl := tot_get xss n
      have Hnext : Hid (∀ p : Cl Int, Ord (xss[n]?.getD []) p.xs → p.xs.length ≤ (xss[n]?.getD []).length → Each (xss.take (n + 1)) (ps ++ [p])) := fun p h1 h2 => (unhide Hea).next hlt h1 h2
      clear hcell hc hsx hcx hlen
      generalize xss[n]?.getD [] = x at *
      go_wp2_with fail
      refine (l3order_own x.length _ x _ (Nat.le_refl _) (by omega) (unhide HX) (unhide HC)).mono ?_
      rintro e w1 ⟨⟨v1, ys, rfl, ho, hle, hown1⟩, hb1⟩
      have hz1' := hb1.size
      obtain ⟨pb, hpok, hplo⟩ := own_cl hown1
      obtain ⟨ya, yc, rfl⟩ := own_is hown1
      have Hll1 := hide ((unhide Hll).keep hb1 (Nat.le_refl _))
      have Hp := hide hpok
      have Hst : Hid (∀ (w' : World) (v' : Value), w'.ownsRow W0.heap.size 41 1 v' (ps.length + 1) (ps.map Cl.v ++ [.slice ya ys.length yc]) → (w1.alloc (.cells #[.slice ya ys.length yc] 41)).grownBy w' (Value.slice oa ps.length oc).ownBlock → LL mI 0 3 41 W0.heap.size w' v' (ps ++ [⟨.slice ya ys.length yc, ys, pb⟩]) ∧ Below W0.heap.size w1 w') := fun w' v' q1 q2 =>
        (unhide Hll1).app (by decide) (by omega) (unhide Hp) (fun h => by have h9 : wr.heap.size ≤ pb := hplo h; show W0.heap.size ≤ pb; omega) (fun q hq h1 h2 e => by
          have h3 := ((unhide Hll).ok q hq).lt h1
          have h4 := hplo h2
          have : q.b = pb := e
          omega) (pushd_alloc w1 _) q1 q2
      have HN := hide (unhide Hnext ⟨.slice ya ys.length yc, ys, pb⟩ ho hle)
      clear hown1 hpok hplo ho Hnext
      go_wp2_with (at_builtin; refine wpList_append_own _ rfl _ _ 26 rfl W0.heap.size 41 i0 (.slice none 0 0) 1 24 Tryz.underlying26 hi hz0 hz1 hz2 rfl (by decide) _ _ _ rfl (World.ownsRow.alloc (w := w1) (unhide Hll1).own _) ⟨w1.heap.size, 0, none⟩ 1 1 [.slice ya ys.length yc] rfl rfl ?_ ?_ ?_ ?_ ?_ ?_)
      · exact cell_1 (by simp)
      · intro u hu; simp at hu; subst hu; rfl
      · unfold maxLen; omega
      · omega
      · rw [sz_alloc]; omega
      intro v3 w3 h5 hg5 _
      have h3 := hide (unhide Hst w3 v3 h5 hg5)
      obtain ⟨g3, cap3, rfl⟩ := ownsRow_succ h5
      clear h5 hg5
      go_wp2
      go_roundw
      case rel => exact ⟨n + 1, _, by omega, by go_num, unhide HN, (unhide h3).1, hb.trans ((hb1.mono hszr).trans (unhide h3).2)⟩
      case measure => simp [intOf]; omega
    · obtain rfl : n = xss.length := by omega
      rw [List.take_length] at Hea
      have htp : tot (ps.map Cl.xs) ≤ 1048576 := Nat.le_trans (unhide Hea).tot ht
      clear hlen
      go_wp2_with fail
      refine (orderLists_any _ (ps.map Cl.xs) _ (unhide Hll).lr.at (by rw [List.length_map]; exact hpl) htp).mono ?_
      rintro e w2 ⟨v2, qs, rfl, hol, hql, hq2, hb2⟩
      rw [List.length_map] at hql
      have hcs : Hid (LAsc (qs.map Cl.xs) ∧ ∀ z, z ∈ qs.map Cl.xs ↔ ∃ xs, xs ∈ xss ∧ Ord xs z) := ⟨hol.asc, fun z => (hol.mem z).trans ((unhide Hea).mem z)⟩
      have hz2' := hb2.size
      have Hq := hide hq2.lr
      have HqA : Hid (∀ p ∈ qs, Asc p.xs ∧ p.xs.length ≤ 1048576) := fun p hp => by
        have h1 : p.xs ∈ qs.map Cl.xs := List.mem_map_of_mem hp
        obtain ⟨xs, -, h2⟩ := ((unhide hcs).2 p.xs).1 h1
        obtain ⟨k, hk, e⟩ := List.mem_iff_getElem.1 ((hol.mem p.xs).1 h1)
        have h3 := tot_get (ps.map Cl.xs) k
        rw [List.getElem?_eq_getElem hk, e] at h3
        exact ⟨h2.asc, Nat.le_trans h3 htp⟩
      obtain ⟨qa, qc, rfl⟩ := own_is hq2.own
      have hB2 : Below W0.heap.size W0 w2 := hb.trans (hb2.mono hszr)
      have RB2 := hide ((hB2.block w.heap.size (by omega)).trans (unhide RB))
      clear hol hq2 Hll Hea hb2 Hv Hv0 hb RB
      go_wp2_with fail
      have RO := hide (Boxed.new w2 28 (.slice none 0 0))
      have hB3 := below1 w2 (.cells #[.slice none 0 0] 28)
      have hz3 : w2.heap.size + 1 ≤ (w2.alloc (.cells #[.slice none 0 0] 28)).heap.size := by rw [sz_alloc]; exact Nat.le_refl _
      generalize w2.alloc (.cells #[.slice none 0 0] 28) = W3 at *
      go_loopw [6] (fun iv wr => ∃ (i : Nat) (ov : Value), i ≤ qs.length ∧ iv = .int .i64 i ∧ Boxed wr w2.heap.size 28 ov ∧ LR (w2.heap.size + 1) wr ov ((qs.take i).filter (fun p => mn (qs.map Cl.xs) p.xs)) ∧ Below w2.heap.size w2 wr ∧ w2.heap.size + 1 ≤ wr.heap.size) (fun iv _ => qs.length - (intOf iv).toNat)
      case atStart => exact ⟨0, _, Nat.zero_le _, rfl, unhide RO, LR.nil, hB3, hz3⟩
      case round =>
        clear RO hB3 hz3
        obtain ⟨i, ov, hiq, rfl, hbox, hlr, hbw, hzw⟩ := hrel
        have Hbox := hide hbox
        have Hlr := hide hlr
        obtain ⟨va, vc, rfl⟩ := own_is hlr.own
        have hkl := List.length_filter_le (fun p : Cl Int => mn (qs.map Cl.xs) p.xs) (qs.take i)
        rw [List.length_take] at hkl
        by_cases hit : i < qs.length
        · have hit' : (i : Int) < (qs.length : Int) := by omega
          have HqW := hide ((unhide Hq).keep hbw (Nat.le_refl _))
          obtain ⟨qg, qc', e, hcl⟩ := own_at_s (unhide HqW).own (by omega)
          cases e
          have Hcl : Hid (∀ j : Nat, j < qs.length → wr.cell? ⟨qg, j, none⟩ = some (qs[j]?.getD dC).v) := fun j hj => by
            rw [hcl j hj, List.getElem?_map, List.getElem?_eq_getElem hj]
            rfl
          have Hm : Hid (∀ j : Nat, j < qs.length → qs[j]?.getD dC ∈ qs) := fun j hj => by rw [List.getElem?_eq_getElem hj]; exact List.getElem_mem _
          have hx := unhide Hcl i hit
          have SI := hide ((unhide HqW).ok _ (unhide Hm i hit))
          have AI := unhide HqA _ (unhide Hm i hit)
          have Htk : Hid ((qs.take (i + 1)).filter (fun p => mn (qs.map Cl.xs) p.xs) = if mn (qs.map Cl.xs) (qs[i]?.getD dC).xs = true then (qs.take i).filter (fun p => mn (qs.map Cl.xs) p.xs) ++ [qs[i]?.getD dC] else (qs.take i).filter (fun p => mn (qs.map Cl.xs) p.xs)) := by
            show List.filter _ _ = _
            rw [List.take_add_one, List.filter_append, List.getElem?_eq_getElem hit]
            simp only [Option.toList_some, Option.getD_some, List.filter_cons, List.filter_nil]
            split <;> simp
          have Hmn : Hid ((mn (qs.map Cl.xs) (qs[i]?.getD dC).xs = true) ↔ ∀ j : Nat, j < qs.length → j ≠ i → ¬ ∀ z, z ∈ (qs[j]?.getD dC).xs → z ∈ (qs[i]?.getD dC).xs) := by
            show _ ↔ _
            rw [mn_iff]
            constructor
            · intro h j hj hne
              refine h _ (List.mem_map_of_mem (unhide Hm j hj)) (fun e => ?_)
              have hp := List.pairwise_iff_getElem.1 (unhide hcs).1
              have e1 : (qs[j]?.getD dC).xs = (qs.map Cl.xs)[j]'(by simpa using hj) := by simp [hj]
              have e2 : (qs[i]?.getD dC).xs = (qs.map Cl.xs)[i]'(by simpa using hit) := by simp [hit]
              rcases Nat.lt_or_gt_of_ne hne with hlt | hlt
              · have := hp j i (by simpa using hj) (by simpa using hit) hlt
                rw [← e1, ← e2, e, lexc_zero.2 rfl] at this
                omega
              · have := hp i j (by simpa using hit) (by simpa using hj) hlt
                rw [← e1, ← e2, e, lexc_zero.2 rfl] at this
                omega
            · intro h d hd hne
              obtain ⟨q, hq, rfl⟩ := List.mem_map.1 hd
              obtain ⟨j, hj, e⟩ := List.mem_iff_getElem.1 hq
              have e1 : qs[j]?.getD dC = q := by rw [← e]; simp [hj]
              have := h j hj (fun e2 => hne (by rw [← e1, e2]))
              rw [e1] at this
              exact this
          generalize (qs.take i).filter (fun p => mn (qs.map Cl.xs) p.xs) = ks at *
          have Hmi := hide (unhide Hm i hit)
          clear hcl hlr hbox
          generalize qs[i]?.getD dC = pi at *
          go_wp2_with fail
          go_loopw [7, 8] (fun kv jv wr2 => ∃ (j : Nat) (k : Bool), j ≤ qs.length ∧ kv = .bool k ∧ jv = .int .i64 j ∧ (k = true ↔ ∀ j' : Nat, j' < j → j' ≠ i → ¬ ∀ z, z ∈ (qs[j']?.getD dC).xs → z ∈ pi.xs) ∧ ∃ q, wr2 = wr.drewN q) (fun _ jv _ => qs.length - (intOf jv).toNat)
          case atStart => exact ⟨0, true, Nat.zero_le _, rfl, rfl, ⟨fun _ j' h => absurd h (Nat.not_lt_zero _), fun _ => rfl⟩, 0, rfl⟩
          case round =>
            obtain ⟨j, k, hjq, rfl, rfl, hk, q, rfl⟩ := hrel
            have Hk := hide hk
            clear hk
            obtain ⟨V, hV⟩ : ∃ V, wr.drewN q = V := ⟨_, rfl⟩
            have HV := hide hV
            have hclV : Hid (∀ j : Nat, j < qs.length → V.cell? ⟨qg, j, none⟩ = some (qs[j]?.getD dC).v) := by rw [← hV]; exact unhide Hcl
            have hokV : Hid (∀ p ∈ qs, p.ok mI 0 3 V) := by rw [← hV]; exact (unhide HqW).ok
            have HboxV : Hid (Boxed V w2.heap.size 28 (.slice va ks.length vc)) := by rw [← hV]; exact unhide Hbox
            have HlrV : Hid (LR (w2.heap.size + 1) V (.slice va ks.length vc) ks) := by rw [← hV]; exact ⟨(unhide Hlr).own, (unhide Hlr).ok⟩
            have hbV : Below w2.heap.size w2 V := by rw [← hV]; exact below_drewN hbw q
            have hzV : w2.heap.size + 1 ≤ V.heap.size := by rw [← hV]; exact hzw
            replace hx : V.cell? ⟨qg, i, none⟩ = some pi.v := by rw [← hV]; exact hx
            have hokI : Hid (pi.ok mI 0 3 V) := by rw [← hV]; exact unhide SI
            rw [hV]
            clear hV
            have SI := hide (unhide hokI).at
            obtain ⟨pa, pc, e1⟩ : ∃ a c, pi.v = .slice a pi.xs.length c := by obtain ⟨a, c, e, -⟩ := unhide SI; exact ⟨a, c, e⟩
            have E1 := hide e1
            rw [e1] at hx SI
            by_cases hjt : j < qs.length
            · have hjt' : (j : Int) < (qs.length : Int) := by omega
              by_cases hji : j = i
              · subst hji
                have hn : Hid (k = true ↔ ∀ j' : Nat, j' < j + 1 → j' ≠ j → ¬ ∀ z, z ∈ (qs[j']?.getD dC).xs → z ∈ pi.xs) := ⟨fun h j' h1 h2 => (unhide Hk).1 h j' (by omega) h2, fun h => (unhide Hk).2 (fun j' h1 h2 => h j' (by omega) h2)⟩
                clear Hk
                go_wp2_with fail
                go_quiet (fail)
                go_wp2
                go_roundw
                case rel => exact ⟨j + 1, k, by omega, rfl, by go_num, unhide hn, q + nq, by rw [← unhide HV, drew2]⟩
                case measure => simp [intOf]; omega
              · have hne : ((j : Int) != (i : Int)) = true := by simp; omega
                have hy := unhide hclV j hjt
                have SJ := hide ((unhide hokV) _ (unhide Hm j hjt)).at
                have Hext : Hid ((∀ z, z ∈ (qs[j]?.getD dC).xs → z ∈ pi.xs) → (false = true ↔ ∀ j' : Nat, j' < j + 1 → j' ≠ i → ¬ ∀ z, z ∈ (qs[j']?.getD dC).xs → z ∈ pi.xs)) := fun h => ⟨fun e => Bool.noConfusion e, fun h2 => absurd h (h2 j (by omega) hji)⟩
                have Hext2 : Hid ((¬ ∀ z, z ∈ (qs[j]?.getD dC).xs → z ∈ pi.xs) → (k = true ↔ ∀ j' : Nat, j' < j + 1 → j' ≠ i → ¬ ∀ z, z ∈ (qs[j']?.getD dC).xs → z ∈ pi.xs)) := fun h => ⟨fun e j' h1 h2 => by
                  by_cases e3 : j' = j
                  · subst e3; exact h
                  · exact (unhide Hk).1 e j' (by omega) h2, fun h2 => (unhide Hk).2 (fun j' h3 h4 => h2 j' (by omega) h4)⟩
                obtain ⟨ja, jc, e2⟩ : ∃ a c, (qs[j]?.getD dC).v = .slice a (qs[j]?.getD dC).xs.length c := by obtain ⟨a, c, e, -⟩ := unhide SJ; exact ⟨a, c, e⟩
                rw [e2] at hy SJ
                generalize qs[j]?.getD dC = pj at *
                by_cases hsub : ∀ z, z ∈ pj.xs → z ∈ pi.xs
                · have hn := hide (unhide Hext hsub)
                  have HS := hide (show SubP pj.xs pi.xs from hsub)
                  clear hsub Hext Hext2 Hk e1 e2
                  go_wp2_with fail
                  go_quiet ((go_at_call 32; refine Calls.quiet_of_same (l3holds_yes _ _ _ _ _ (by exact unhide SI) AI.1 AI.2 (by exact unhide SJ) (unhide HS))))
                  go_wp2
                  go_roundw
                  case rel => exact ⟨j + 1, false, by omega, rfl, by go_num, unhide hn, q + nq, by rw [← unhide HV, drew2]⟩
                  case measure => simp [intOf]; omega
                · have hn := hide (unhide Hext2 hsub)
                  have HS := hide (show ¬ SubP pj.xs pi.xs from hsub)
                  clear hsub Hext Hext2 Hk e1 e2
                  go_wp2_with fail
                  go_quiet ((go_at_call 32; refine Calls.quiet_of_same (l3holds_no _ _ _ _ _ (by exact unhide SI) AI.1 AI.2 (by exact unhide SJ) (unhide HS))))
                  go_wp2
                  go_roundw
                  case rel => exact ⟨j + 1, k, by omega, rfl, by go_num, unhide hn, q + nq, by rw [← unhide HV, drew2]⟩
                  case measure => simp [intOf]; omega
            · obtain rfl : j = qs.length := by omega
              have hkm : Hid (k = true ↔ mn (qs.map Cl.xs) pi.xs = true) := (unhide Hk).trans (unhide Hmn).symm
              clear Hk Hmn
              cases k with
              | false =>
                have Hks : Hid ((qs.take (i + 1)).filter (fun p => mn (qs.map Cl.xs) p.xs) = ks) := (unhide Htk).trans (if_neg (fun h => by have := (unhide hkm).2 h; cases this))
                go_wp2
                go_roundw
                case rel => exact ⟨i + 1, _, by omega, by go_num, unhide HboxV, by rw [unhide Hks]; exact unhide HlrV, hbV, hzV⟩
                case measure => simp [intOf]; omega
              | true =>
                have Hks : Hid ((qs.take (i + 1)).filter (fun p => mn (qs.map Cl.xs) p.xs) = ks ++ [pi]) := (unhide Htk).trans (if_pos ((unhide hkm).1 rfl))
                have cb := (unhide HboxV).cell
                have fb := (unhide HboxV).frozen
                have cbA : ∀ o : Obj, (V.alloc o).cell? ⟨w2.heap.size, 0, none⟩ = some (.slice va ks.length vc) := fun o => ((unhide HboxV).alloc o).cell
                have hkl2 : ks.length ≤ 1048576 := by omega
                have hst : Hid (∀ (W w' : World) (g cap' : Nat) (o : Obj), Pushd V W o → w'.ownsRow (w2.heap.size + 1) 41 1 (.slice (some ⟨g, 0, none⟩) (ks.length + 1) cap') (ks.length + 1) (ks.map Cl.v ++ [.slice pa pi.xs.length pc]) → W.grownBy w' (Value.slice va ks.length vc).ownBlock →
                    LR (w2.heap.size + 1) w' (.slice (some ⟨g, 0, none⟩) (ks.length + 1) cap') (ks ++ [pi]) ∧ Below (w2.heap.size + 1) V w' ∧ Boxed w' w2.heap.size 28 (.slice va ks.length vc)) := fun W w' g cap' o hP q1 q2 => by
                  rw [← unhide E1] at q1
                  obtain ⟨r1, r2⟩ := (unhide HlrV).app hzV (unhide hokI) hP q1 q2
                  exact ⟨r1, r2, (r2.block w2.heap.size (by omega)).trans (unhide HboxV)⟩
                clear Htk hkm e1 SI
                go_wp2_with fail
                go_region_law (refine step_append_lies _ rfl (.tmp 53) (.tmp 58) 26 rfl (w2.heap.size + 1) 41 i0 (.slice none 0 0) 1 24 Tryz.underlying26 hi hz0 hz1 hz2 rfl (by decide) (.slice va ks.length vc) ks.length (ks.map Cl.v) (by simp [Act.eval]) (by refine Pushd.own (w := V) (o := .cells #[.slice pa pi.xs.length pc] 41) ?_ (unhide HlrV).own; exact ⟨rfl, rfl, rfl, rfl⟩) ⟨V.heap.size, 0, none⟩ 1 1 [.slice pa pi.xs.length pc] (by simp [Act.eval]) rfl (by refine Pushd.news (w := V) (cs := #[.slice pa pi.xs.length pc]) (t := 41) ?_; exact ⟨rfl, rfl, rfl, rfl⟩) (by intro u hu; simp at hu; subst hu; rfl) (by decide) (by unfold maxLen; omega) (by omega) (by show w2.heap.size + 1 ≤ (V.alloc _).heap.size; rw [sz_alloc]; omega) (V.heap.size + 1) (sz_alloc V _) (fun g cap' w' q1 q2 q3 q4 => ?_); have hs := hide (unhide hst _ w' g cap' (.cells #[.slice pa pi.xs.length pc] 41) (by exact ⟨rfl, rfl, rfl, rfl⟩) q1 q2); have cb' := (unhide hs).2.2.cell; have fb' := (unhide hs).2.2.frozen; clear q1 q2 q3 q4)
                all_goals
                  go_wp2
                  refine ⟨⟨i + 1, _, by omega, by go_num, Boxed.set _ (unhide hs).2.2, ?_, bput (hbV.trans ((unhide hs).2.1.mono (by omega))) (Nat.le_refl _) _, by rw [sz_put]; have := (unhide hs).2.1.size; omega⟩, by simp [intOf]; omega⟩
                  rw [unhide Hks]
                  exact ⟨by rw [List.length_append, List.length_singleton]; have h9 := (unhide hs).1.own; rw [List.length_append, List.length_singleton] at h9; exact ownsRow_setCell_below h9 (by show w2.heap.size < w2.heap.size + 1; omega) _, fun p hp => ok_box ((unhide hs).1.ok p hp) (by decide) (unhide hs).2.2⟩
        · obtain rfl : i = qs.length := by omega
          rw [List.take_length] at *
          have cb := (unhide Hbox).cell
          have hbr := (hbw.block w.heap.size (by omega)).trans (unhide RB2)
          have cr := Boxed.cell hbr
          have fr := Boxed.frozen hbr
          have Hres := hide (ok_box_row (unhide Hlr) (by decide) hbr)
          have hBr : Below w.heap.size w wr := hB0.trans ((hB2.trans (hbw.mono (by have := hB2.size; omega))).mono (by omega))
          have Hrs : Hid (NormV xss (((qs.filter (fun p => mn (qs.map Cl.xs) p.xs))).map Cl.xs)) := ⟨qs.map Cl.xs, (unhide hcs).1, (unhide hcs).2, by rw [List.filter_map]; rfl⟩
          generalize qs.filter (fun p => mn (qs.map Cl.xs) p.xs) = ks at *
          clear hlr hbox
          go_wp2
          refine bodyPost_ret (v := .agg #[.slice va ks.length vc]) (by simp [results, Tryz.results16, go_sem, cr]) rfl ⟨_, _, rfl, unhide Hrs, ⟨_, unhide Hres _⟩, bput hBr (Nat.le_refl _) _⟩

end Go.Proofs.YtjefklagedidmaaGreat
