import Derived.Test.YtjefklagedidmaaGreatP7
import Derived.Test.YtjefklagedidmaaGreatP13
import Derived.Test.YtjefklagedidmaaGreatP9
namespace Go.Proofs.YtjefklagedidmaaGreat
open Go.RowKit

/-- The model's skeletons of this list of elements. -/
def SkS (l : List El) (S : List (List Int)) : Prop := ∀ (v : Value) (w : World), ElsAt 0 w.heap.size w v l → l.length ≤ 3000 → Calls Tryz.prog 29 #[v] w fun e w' => ∃ v' ps, e = .returned v' ∧ (ps.map Cl.xs).Perm S ∧ LR w.heap.size w' v' ps ∧ Below w.heap.size w w'

/-- Within the limits of a subtree's set. -/
def Sm (S : List (List Int)) : Prop := S.length ≤ 50 ∧ ∀ x, x ∈ S → x.length ≤ 60
theorem CutR.sm {L S : List (List Int)} (h : CutR L S) : Sm S := h.small
theorem perm_sm {ps : List (Cl Int)} {S : List (List Int)} (h : (ps.map Cl.xs).Perm S) (m : Sm S) : ps.length ≤ 50 ∧ ∀ p, p ∈ ps → p.xs.length ≤ 60 := by
  refine ⟨?_, fun p hp => m.2 _ (h.mem_iff.1 (List.mem_map_of_mem hp))⟩
  have := h.length_eq
  rw [List.length_map] at this
  have := m.1
  omega

theorem LR.get {base : Nat} {w : World} {v : Value} {ps : List (Cl Int)} (h : LR base w v ps) {i : Nat} (hi : i < ps.length) :
    ∃ g cap, v = .slice (some ⟨g, 0, none⟩) ps.length cap ∧ w.cell? ⟨g, i, none⟩ = some (ps[i]?.getD dC).v ∧ (ps[i]?.getD dC).ok mI 0 3 w ∧ ∃ a c, (ps[i]?.getD dC).v = .slice a (ps[i]?.getD dC).xs.length c := by
  obtain ⟨g, cap', e, hcl⟩ := own_at_s h.own (by omega)
  have hm : ps[i]?.getD dC ∈ ps := by rw [List.getElem?_eq_getElem hi]; exact List.getElem_mem _
  refine ⟨g, cap', e, ?_, h.ok _ hm, ?_⟩
  · rw [hcl i hi, List.getElem?_map, List.getElem?_eq_getElem hi]
    rfl
  · obtain ⟨a, c, e, -⟩ := h.ok _ hm
    exact ⟨a, c, e⟩
theorem map_take_next {ps : List (Cl Int)} {i : Nat} (hi : i < ps.length) : (ps.map Cl.xs).take (i + 1) = (ps.map Cl.xs).take i ++ [(ps[i]?.getD dC).xs] := by
  rw [List.take_add_one, List.getElem?_map, List.getElem?_eq_getElem hi]
  rfl

set_option maxHeartbeats 4000000 in
set_option maxRecDepth 100000 in
theorem sk_e (x : El) (hk : x.kind = 0) : SkS [x] [[]] := by
  intro v w hv hlen
  obtain ⟨a, cp, rfl, -, -⟩ := id hv
  obtain ⟨hlen2, hcap, b, off, rfl, hbn, hel⟩ := ElsAt.last (p := []) hv
  simp only [List.length_singleton, List.length_nil, Nat.zero_mul, Nat.add_zero] at hel hv ⊢
  obtain ⟨i1, i2, i3, sv, c0, c1, c2, c3, hints⟩ := hel
  obtain ⟨sa, sc, rfl, -, -, -⟩ := id hints
  rw [hk] at c0
  clear hv hints i1 i2 i3
  go_enter Tryz.func29, Tryz.ntmps29
  go_wp2
  go_ret
  have hB := below2 w (.cells #[.int .i64 0, .slice sa x.set.length sc, .int .i64 x.mn, .int .i64 x.mx] 59) (.cells #[.slice none 0 0] 41)
  have ho := World.ownsRow_lit (base := w.heap.size) (size := 1) (e := 41) (w.alloc (.cells #[.int .i64 0, .slice sa x.set.length sc, .int .i64 x.mn, .int .i64 x.mx] 59)) #[.slice none 0 0] 1 (by rw [sz_alloc]; omega) (by unfold maxLen; omega) rfl
  rw [sz_alloc] at ho
  refine ⟨_, [⟨.slice none 0 0, [], 0⟩], rfl, List.Perm.refl _, ⟨ho, fun q hq => ?_⟩, hB⟩
  rw [List.mem_singleton.1 hq]
  exact ⟨none, 0, rfl, ⟨Nat.le_refl _, Nat.zero_le _⟩, fun h => absurd h (by simp)⟩

set_option maxHeartbeats 8000000 in
set_option maxRecDepth 100000 in
theorem sk_alt (l r : List El) (S1 S2 S : List (List Int)) (cl cr : Int) (sl : SegM l cl) (sr : SegM r cr) (Hl : SkS l S1) (Hr : SkS r S2) (m1 : Sm S1) (m2 : Sm S2) (hS : CutR (S1 ++ S2) S) : SkS (l ++ r ++ [⟨3, [], 0, 0⟩]) S := by
  intro v w hv hlen
  have hv0 := hv
  obtain ⟨a, cp, rfl, -, -⟩ := id hv
  obtain ⟨hlen2, hcap, b, off, rfl, hbn, hel⟩ := hv.last
  rw [hlen2] at hv hv0 hcap ⊢
  simp only [List.length_append, List.length_singleton] at hv hv0 hlen hlen2 hel hcap ⊢
  unfold maxLen at hcap
  obtain ⟨i1, i2, i3, sv, c0, c1, c2, c3, hints⟩ := hel
  obtain ⟨sa, sc, rfl, -, -, -⟩ := id hints
  simp only at c0 c2 c3
  clear hlen2 i1 i2 i3 hints
  have e1 : (((l.length + r.length + 1 : Nat) : Int) - 1) = ((l.length + r.length : Nat) : Int) := by omega
  have pl := sl.ne
  have pr := sr.ne
  have hvL : ElsAt 0 w.heap.size w (.slice (some ⟨b, off, none⟩) l.length cp) (l) := by rw [List.append_assoc] at hv0; exact hv0.pre
  have hvR := hv0.mid (cap' := cp - l.length) (by unfold maxLen; omega)
  have HvL := hide hvL
  have HvR := hide hvR
  have Hv0 := hide hv0
  have HS := hide hS
  clear hvL hvR hv hv0 hS
  go_enter Tryz.func29, Tryz.ntmps29
  go_wp2_with fail
  refine (l1start_bin _ l r cr _ _ _ sr (by exact (unhide Hv0).below (below1 w _) (Nat.le_refl _)) (by omega) rfl).mono ?_
  rintro e w1 ⟨rfl, rfl⟩
  go_wp2_with fail
  refine (Hl _ _ (by exact (unhide HvL).below (below1 w _) (Nat.le_refl _)) (by omega)).mono ?_
  rintro e w1 ⟨v1, ps, rfl, hp1, hr1, hb1⟩
  rw [sz_alloc] at hr1
  obtain ⟨o1, d1, rfl⟩ := own_is hr1.own
  have hB1 : Below w.heap.size w w1 := (below1 w _).trans (hb1.mono (by rw [sz_alloc]; omega))
  have Hr1 := hide hr1
  have Hp1 := hide hp1
  have Hb1 := hide hb1
  clear hb1 hr1 hp1
  go_wp2_with fail
  refine (Hr _ _ (by exact (unhide HvR).below hB1 (Nat.le_refl _)) (by omega)).mono ?_
  rintro e w2 ⟨v2, qs, rfl, hp2, hr2, hb2⟩
  obtain ⟨o2, d2, rfl⟩ := own_is hr2.own
  have hB2 : Below w.heap.size w w2 := hB1.trans (hb2.mono hB1.size)
  have HR1 := hide ((unhide Hr1).keep hb2 (Nat.le_refl _))
  have HR2 := hide hr2
  have Hp2 := hide hp2
  have hz1 := (unhide Hb1).size
  obtain ⟨hcc, -⟩ := bcell ((unhide Hb1).trans (hb2.mono hz1))
  simp only [sz_alloc] at hcc
  have hpl := (perm_sm (unhide Hp1) m1).1
  have hql := (perm_sm (unhide Hp2) m2).1
  clear hb2 hr2 hp2 hz1 Hr1 Hb1
  go_wp2_with fail
  go_loopw [5, 16] (fun ov iv wr => ∃ (i : Nat) (os : List (Cl Int)), i ≤ ps.length ∧ iv = .int .i64 i ∧ OutS ((ps.map Cl.xs).take i) (os.map Cl.xs) ∧ LR w2.heap.size wr ov os ∧ Below w2.heap.size w2 wr) (fun _ iv _ => ps.length - (intOf iv).toNat)
  case atStart => exact ⟨0, [], Nat.zero_le _, rfl, OutS.nil, LR.nil, Below.refl _ _⟩
  case round =>
    obtain ⟨i, os, hil, rfl, hout, hlr, hbw⟩ := hrel
    have hszr := hbw.size
    have hol := hout.len
    rw [List.length_map] at hol
    have Hout := hide hout
    have Hlr := hide hlr
    obtain ⟨oa, oc, rfl⟩ := own_is hlr.own
    clear hout hlr
    by_cases hlt : i < ps.length
    · have hlt' : (i : Int) < (ps.length : Int) := by omega
      obtain ⟨g, cap', e, hx, hok, pa, pc, e1⟩ := ((unhide HR1).keep hbw (Nat.le_refl _)).get hlt
      cases e
      have Hnx : Hid (∀ os', AddR os (ps[i]?.getD dC) os' → OutS ((ps.map Cl.xs).take (i + 1)) (os'.map Cl.xs)) := fun os' h => by
        rw [map_take_next hlt]
        exact h.out (unhide Hout)
      have Hok := hide hok
      have E1 := hide e1
      rw [e1] at hx
      clear hok e1 Hout
      generalize ps[i]?.getD dC = p at *
      have HA := hide (l3add_any w2.heap.size _ os p wr (unhide Hlr) hszr (unhide Hok) hol)
      rw [unhide E1] at HA
      go_wp2_with fail
      refine (unhide HA).mono ?_
      rintro e w3 ⟨v3, os3, rfl, ha3, hlr3, hb3⟩
      have H3 := hide (unhide Hnx os3 ha3)
      have HL3 := hide hlr3
      obtain ⟨g3, cap3, rfl⟩ := own_is hlr3.own
      clear ha3 hlr3 HA Hnx
      go_wp2
      go_roundw
      case rel => exact ⟨i + 1, os3, by omega, by go_num, unhide H3, unhide HL3, hbw.trans hb3⟩
      case measure => simp [intOf]; omega
    · obtain rfl : i = ps.length := by omega
      rw [List.take_of_length_le (by rw [List.length_map]; exact Nat.le_refl _)] at Hout
      go_wp2_with fail
      go_loopw [5, 17] (fun ov iv wr => ∃ (j : Nat) (os : List (Cl Int)), j ≤ qs.length ∧ iv = .int .i64 j ∧ OutS (ps.map Cl.xs ++ (qs.map Cl.xs).take j) (os.map Cl.xs) ∧ LR w2.heap.size wr ov os ∧ Below w2.heap.size w2 wr) (fun _ iv _ => qs.length - (intOf iv).toNat)
      case atStart => exact ⟨0, os, Nat.zero_le _, rfl, by rw [List.take_zero, List.append_nil]; exact unhide Hout, unhide Hlr, hbw⟩
      case round =>
        clear Hout Hlr hbw hszr hol
        obtain ⟨j, ts, hjl, rfl, hout, hlr, hbw⟩ := hrel
        have hszr := hbw.size
        have hol := hout.len
        rw [List.length_map] at hol
        have Hout := hide hout
        have Hlr := hide hlr
        obtain ⟨ta, tc, rfl⟩ := own_is hlr.own
        clear hout hlr
        by_cases hlt2 : j < qs.length
        · have hlt2' : (j : Int) < (qs.length : Int) := by omega
          obtain ⟨g, cap', e, hx, hok, pa, pc, e1⟩ := ((unhide HR2).keep hbw (Nat.le_refl _)).get hlt2
          cases e
          have Hnx : Hid (∀ os', AddR ts (qs[j]?.getD dC) os' → OutS (ps.map Cl.xs ++ (qs.map Cl.xs).take (j + 1)) (os'.map Cl.xs)) := fun os' h => by
            rw [map_take_next hlt2, ← List.append_assoc]
            exact h.out (unhide Hout)
          have Hok := hide hok
          have E1 := hide e1
          rw [e1] at hx
          clear hok e1 Hout
          generalize qs[j]?.getD dC = p at *
          have HA := hide (l3add_any w2.heap.size _ ts p wr (unhide Hlr) hszr (unhide Hok) hol)
          rw [unhide E1] at HA
          go_wp2_with fail
          refine (unhide HA).mono ?_
          rintro e w3 ⟨v3, os3, rfl, ha3, hlr3, hb3⟩
          have H3 := hide (unhide Hnx os3 ha3)
          have HL3 := hide hlr3
          obtain ⟨g3, cap3, rfl⟩ := own_is hlr3.own
          clear ha3 hlr3 HA Hnx
          go_wp2
          go_roundw
          case rel => exact ⟨j + 1, os3, by omega, by go_num, unhide H3, unhide HL3, hbw.trans hb3⟩
          case measure => simp [intOf]; omega
        · obtain rfl : j = qs.length := by omega
          rw [List.take_of_length_le (by rw [List.length_map]; exact Nat.le_refl _)] at Hout
          go_wp2_with fail
          refine (l3cut_any w2.heap.size _ ts _ _ (unhide Hlr) hszr (unhide Hout)).mono ?_
          rintro e w4 ⟨v4, rs, S', rfl, hcut, hperm, hlr4, hb4⟩
          obtain rfl := (unhide HS).uniq (hcut.same (fun z => by rw [List.mem_append, List.mem_append, (unhide Hp1).mem_iff, (unhide Hp2).mem_iff]))
          have Hperm := hide hperm
          have Hl4 : Hid (LR w.heap.size w4 v4 rs) := ⟨own_low hlr4.own hB2.size, hlr4.ok⟩
          have hB4 : Below w.heap.size w w4 := hB2.trans ((hbw.trans (hb4.mono hszr)).mono hB2.size)
          obtain ⟨g4, cap4, rfl⟩ := own_is hlr4.own
          clear hcut hperm hlr4 hb4
          go_wp2
          go_ret
          exact ⟨_, rs, rfl, unhide Hperm, unhide Hl4, hB4⟩

end Go.Proofs.YtjefklagedidmaaGreat

namespace Go.Proofs.YtjefklagedidmaaGreat
open Go.RowKit

theorem prd_next {ps : List (Cl Int)} {i : Nat} (hi : i < ps.length) (B : List (List Int)) : prd ((ps.map Cl.xs).take (i + 1)) B = prd ((ps.map Cl.xs).take i) B ++ B.map (jn2 (ps[i]?.getD dC).xs) := by
  rw [map_take_next hi]
  unfold prd
  rw [List.flatMap_append]
  simp
theorem prd_same {A A' B B' : List (List Int)} (ha : ∀ z, z ∈ A ↔ z ∈ A') (hb : ∀ z, z ∈ B ↔ z ∈ B') (z : List Int) : z ∈ prd A B ↔ z ∈ prd A' B' := by
  simp only [mem_prd, ha, hb]
theorem jn2_len (a b : List Int) : (jn2 a b).length ≤ a.length + b.length := by
  unfold jn2
  split <;> simp <;> omega

theorem joinAdd {base m : Nat} {w : World} {tv v : Value} {ts : List (Cl Int)} {ys : List Int} (h3 : w.ownsRow m 3 1 v ys.length (ys.map mI)) (hl : LR base w tv ts) (hb : base ≤ w.heap.size) (hol : ts.length ≤ 51) :
    Calls Tryz.prog 56 #[tv, v] w fun e w' => ∃ v' os' pb, e = .returned v' ∧ AddR ts ⟨v, ys, pb⟩ os' ∧ LR base w' v' os' ∧ Below base w w' := by
  obtain ⟨pb, hpok, -⟩ := own_cl h3
  refine (l3add_any base tv ts ⟨v, ys, pb⟩ w hl hb hpok hol).mono ?_
  rintro e w' ⟨v', os', h1, h2, h3, h4⟩
  exact ⟨v', os', pb, h1, h2, h3, h4⟩

set_option maxHeartbeats 8000000 in
set_option maxRecDepth 100000 in
theorem sk_cat (l r : List El) (S1 S2 S : List (List Int)) (cl cr : Int) (sl : SegM l cl) (sr : SegM r cr) (Hl : SkS l S1) (Hr : SkS r S2) (m1 : Sm S1) (m2 : Sm S2) (hS : CutR (prd S1 S2) S) : SkS (l ++ r ++ [⟨2, [], 0, 0⟩]) S := by
  intro v w hv hlen
  have hv0 := hv
  obtain ⟨a, cp, rfl, -, -⟩ := id hv
  obtain ⟨hlen2, hcap, b, off, rfl, hbn, hel⟩ := hv.last
  rw [hlen2] at hv hv0 hcap ⊢
  simp only [List.length_append, List.length_singleton] at hv hv0 hlen hlen2 hel hcap ⊢
  unfold maxLen at hcap
  obtain ⟨i1, i2, i3, sv, c0, c1, c2, c3, hints⟩ := hel
  obtain ⟨sa, sc, rfl, -, -, -⟩ := id hints
  simp only at c0 c2 c3
  clear hlen2 i1 i2 i3 hints
  have e1 : (((l.length + r.length + 1 : Nat) : Int) - 1) = ((l.length + r.length : Nat) : Int) := by omega
  have pl := sl.ne
  have pr := sr.ne
  have hvL : ElsAt 0 w.heap.size w (.slice (some ⟨b, off, none⟩) l.length cp) (l) := by rw [List.append_assoc] at hv0; exact hv0.pre
  have hvR := hv0.mid (cap' := cp - l.length) (by unfold maxLen; omega)
  have HvL := hide hvL
  have HvR := hide hvR
  have Hv0 := hide hv0
  have HS := hide hS
  clear hvL hvR hv hv0 hS
  go_enter Tryz.func29, Tryz.ntmps29
  go_wp2_with fail
  refine (l1start_bin _ l r cr _ _ _ sr (by exact (unhide Hv0).below (below1 w _) (Nat.le_refl _)) (by omega) rfl).mono ?_
  rintro e w1 ⟨rfl, rfl⟩
  go_wp2_with fail
  refine (Hl _ _ (by exact (unhide HvL).below (below1 w _) (Nat.le_refl _)) (by omega)).mono ?_
  rintro e w1 ⟨v1, ps, rfl, hp1, hr1, hb1⟩
  rw [sz_alloc] at hr1
  obtain ⟨o1, d1, rfl⟩ := own_is hr1.own
  have hB1 : Below w.heap.size w w1 := (below1 w _).trans (hb1.mono (by rw [sz_alloc]; omega))
  have Hr1 := hide hr1
  have Hp1 := hide hp1
  have Hb1 := hide hb1
  clear hb1 hr1 hp1
  go_wp2_with fail
  refine (Hr _ _ (by exact (unhide HvR).below hB1 (Nat.le_refl _)) (by omega)).mono ?_
  rintro e w2 ⟨v2, qs, rfl, hp2, hr2, hb2⟩
  obtain ⟨o2, d2, rfl⟩ := own_is hr2.own
  have hB2 : Below w.heap.size w w2 := hB1.trans (hb2.mono hB1.size)
  have HR1 := hide ((unhide Hr1).keep hb2 (Nat.le_refl _))
  have HR2 := hide hr2
  have Hp2 := hide hp2
  have hz1 := (unhide Hb1).size
  obtain ⟨hcc, -⟩ := bcell ((unhide Hb1).trans (hb2.mono hz1))
  simp only [sz_alloc] at hcc
  have hpl := (perm_sm (unhide Hp1) m1).1
  have hql := (perm_sm (unhide Hp2) m2).1
  clear hb2 hr2 hp2 hz1 Hr1 Hb1
  go_wp2_with fail
  go_loopw [5, 18] (fun ov iv wr => ∃ (i : Nat) (os : List (Cl Int)), i ≤ ps.length ∧ iv = .int .i64 i ∧ OutS (prd ((ps.map Cl.xs).take i) (qs.map Cl.xs)) (os.map Cl.xs) ∧ LR w2.heap.size wr ov os ∧ Below w2.heap.size w2 wr) (fun _ iv _ => ps.length - (intOf iv).toNat)
  case atStart => exact ⟨0, [], Nat.zero_le _, rfl, OutS.nil, LR.nil, Below.refl _ _⟩
  case round =>
    obtain ⟨i, os, hil, rfl, hout, hlr, hbw⟩ := hrel
    have hszr := hbw.size
    have Hout := hide hout
    have Hlr := hide hlr
    obtain ⟨oa, oc, rfl⟩ := own_is hlr.own
    clear hout hlr
    by_cases hlt : i < ps.length
    · have hlt' : (i : Int) < (ps.length : Int) := by omega
      have hpm : (ps[i]?.getD dC).xs.length ≤ 60 := (perm_sm (unhide Hp1) m1).2 _ (by rw [List.getElem?_eq_getElem hlt]; exact List.getElem_mem _)
      have Hend : Hid (∀ T, OutS (prd ((ps.map Cl.xs).take i) (qs.map Cl.xs) ++ (qs.map Cl.xs).map (jn2 (ps[i]?.getD dC).xs)) T → OutS (prd ((ps.map Cl.xs).take (i + 1)) (qs.map Cl.xs)) T) := fun T h => by rw [prd_next hlt]; exact h
      have HG : Hid (∀ W, Below w2.heap.size w2 W → ∃ g cap, Value.slice o1 ps.length d1 = .slice (some ⟨g, 0, none⟩) ps.length cap ∧ W.cell? ⟨g, i, none⟩ = some (ps[i]?.getD dC).v ∧ (ps[i]?.getD dC).ok mI 0 3 W ∧ ∃ a c, (ps[i]?.getD dC).v = .slice a (ps[i]?.getD dC).xs.length c) := fun W hW => ((unhide HR1).keep hW (Nat.le_refl _)).get hlt
      generalize ps[i]?.getD dC = p at *
      generalize prd ((ps.map Cl.xs).take i) (qs.map Cl.xs) = L at *
      go_wp2_with fail
      go_loopw [5, 19] (fun ov iv wr => ∃ (j : Nat) (os : List (Cl Int)), j ≤ qs.length ∧ iv = .int .i64 j ∧ OutS (L ++ ((qs.map Cl.xs).take j).map (jn2 p.xs)) (os.map Cl.xs) ∧ LR w2.heap.size wr ov os ∧ Below w2.heap.size w2 wr) (fun _ iv _ => qs.length - (intOf iv).toNat)
      case atStart => exact ⟨0, os, Nat.zero_le _, rfl, by rw [List.take_zero, List.map_nil, List.append_nil]; exact unhide Hout, unhide Hlr, hbw⟩
      case round =>
        clear Hout Hlr hbw hszr
        obtain ⟨j, ts, hjl, rfl, hout, hlr, hbw⟩ := hrel
        have hszr := hbw.size
        have hol := hout.len
        rw [List.length_map] at hol
        have Hout := hide hout
        have Hlr := hide hlr
        obtain ⟨ta, tc, rfl⟩ := own_is hlr.own
        clear hout hlr
        by_cases hlt2 : j < qs.length
        · have hlt2' : (j : Int) < (qs.length : Int) := by omega
          have hqm : (qs[j]?.getD dC).xs.length ≤ 60 := (perm_sm (unhide Hp2) m2).2 _ (by rw [List.getElem?_eq_getElem hlt2]; exact List.getElem_mem _)
          obtain ⟨g, cap', e, hx, hok, pa, pc, e1⟩ := ((unhide HR2).keep hbw (Nat.le_refl _)).get hlt2
          cases e
          obtain ⟨g1, cap1, e, hx1, hok1, pa1, pc1, e11⟩ := unhide HG _ hbw
          cases e
          have Hnx : Hid (∀ b ys os', jn2 p.xs (qs[j]?.getD dC).xs = ys → AddR ts ⟨b, ys, 0⟩ os' ∨ (∃ k, AddR ts ⟨b, ys, k⟩ os') → OutS (L ++ ((qs.map Cl.xs).take (j + 1)).map (jn2 p.xs)) (os'.map Cl.xs)) := fun b ys os' hy h => by
            rw [map_take_next hlt2, List.map_append, ← List.append_assoc, List.map_singleton, hy]
            rcases h with h | ⟨k, h⟩
            · exact h.out (unhide Hout)
            · exact h.out (unhide Hout)
          have S1' := hide hok1.at
          have S2' := hide hok.at
          have E11 := hide e11
          have E12 := hide e1
          have HG2 : Hid (∀ W, Below w2.heap.size w2 W → ∃ g' cap, Value.slice (some ⟨g, 0, none⟩) qs.length d2 = .slice (some ⟨g', 0, none⟩) qs.length cap ∧ W.cell? ⟨g', j, none⟩ = some (qs[j]?.getD dC).v ∧ (qs[j]?.getD dC).ok mI 0 3 W ∧ ∃ a c, (qs[j]?.getD dC).v = .slice a (qs[j]?.getD dC).xs.length c) := fun W hW => ((unhide HR2).keep hW (Nat.le_refl _)).get hlt2
          rw [e11] at hx1 S1'
          rw [e1] at hx S2'
          clear hok hok1 e1 e11 Hout
          generalize qs[j]?.getD dC = q at *
          have hS : Hid (∀ W' : World, Below w2.heap.size w2 W' → W'.cell? ⟨g1, i, none⟩ = some (.slice pa1 p.xs.length pc1) ∧ W'.cell? ⟨g, j, none⟩ = some (.slice pa q.xs.length pc)) := fun W' hW => by
            obtain ⟨_, _, e, h1, -, -⟩ := unhide HG W' hW
            cases e
            obtain ⟨_, _, e, h2, -, -⟩ := unhide HG2 W' hW
            cases e
            rw [unhide E11] at h1
            rw [unhide E12] at h2
            exact ⟨h1, h2⟩
          clear HG2
          go_wp2_with fail
          go_region_held3 (fun W' => W'.cell? ⟨g1, i, none⟩ = some (.slice pa1 p.xs.length pc1) ∧ W'.cell? ⟨g, j, none⟩ = some (.slice pa q.xs.length pc))
            (first | go_keep | exact unhide hS _ hB4 | exact unhide hS _ hB3)
            (first
              | (go_at_call 57; refine (l3join_any _ _ p.xs q.xs _ (by exact unhide S1') (by exact unhide S2') (by omega) (by omega)).mono ?_; rintro e w3 ⟨v3, rfl, hown3, hb3⟩; have hB3a : Below wr.heap.size wr w3 := ⟨hb3.os, hb3.tape, hb3.output, hb3.size, hb3.block⟩; have hB3 : Below w2.heap.size w2 w3 := hbw.trans (hB3a.mono hszr); have Hown3 : Hid (w3.ownsRow wr.heap.size 3 1 v3 (jn2 p.xs q.xs).length ((jn2 p.xs q.xs).map mI)) := hown3; obtain ⟨ya, yc, rfl⟩ := own_is hown3; clear hown3 hb3)
              | (go_at_call 56; refine (joinAdd (unhide Hown3) ((unhide Hlr).keep hB3a (Nat.le_refl _)) hB3.size hol).mono ?_; rintro e w4 ⟨v4, os4, pb, rfl, ha4, hlr4, hb4⟩; have hB4 : Below w2.heap.size w2 w4 := hB3.trans hb4; have HL4 := hide hlr4; obtain ⟨g4, cap4, rfl⟩ := own_is hlr4.own; clear hlr4 hb4))
          have H4 := hide (unhide Hnx _ _ os4 rfl (Or.inr ⟨pb, ha4⟩))
          clear ha4 Hnx
          go_wp2
          go_roundw
          case rel => exact ⟨j + 1, os4, by omega, by go_num, unhide H4, unhide HL4, hB4⟩
          case measure => simp [intOf]; omega
        · obtain rfl : j = qs.length := by omega
          rw [List.take_of_length_le (by rw [List.length_map]; exact Nat.le_refl _)] at Hout
          have H5 := hide (unhide Hend _ (unhide Hout))
          clear Hout Hend
          go_wp2
          go_roundw
          case rel => exact ⟨i + 1, ts, by omega, by go_num, unhide H5, unhide Hlr, hbw⟩
          case measure => simp [intOf]; omega
    · obtain rfl : i = ps.length := by omega
      rw [List.take_of_length_le (by rw [List.length_map]; exact Nat.le_refl _)] at Hout
      go_wp2_with fail
      refine (l3cut_any w2.heap.size _ os _ _ (unhide Hlr) hszr (unhide Hout)).mono ?_
      rintro e w4 ⟨v4, rs, S', rfl, hcut, hperm, hlr4, hb4⟩
      obtain rfl := (unhide HS).uniq (hcut.same (prd_same (fun z => (unhide Hp1).mem_iff) (fun z => (unhide Hp2).mem_iff)))
      have Hperm := hide hperm
      have Hl4 : Hid (LR w.heap.size w4 v4 rs) := ⟨own_low hlr4.own hB2.size, hlr4.ok⟩
      have hB4 : Below w.heap.size w w4 := hB2.trans ((hbw.trans (hb4.mono hszr)).mono hB2.size)
      obtain ⟨g4, cap4, rfl⟩ := own_is hlr4.own
      clear hcut hperm hlr4 hb4
      go_wp2
      go_ret
      exact ⟨_, rs, rfl, unhide Hperm, unhide Hl4, hB4⟩

end Go.Proofs.YtjefklagedidmaaGreat

namespace Go.Proofs.YtjefklagedidmaaGreat
open Go.RowKit

set_option maxHeartbeats 8000000 in
set_option maxRecDepth 100000 in
theorem sk_rep0 (o : List El) (mx : Int) : SkS (o ++ [⟨4, [], 0, mx⟩]) [[256]] := by
  intro v w hv hlen
  obtain ⟨a, cp, rfl, -, -⟩ := id hv
  obtain ⟨hlen2, hcap, b, off, rfl, hbn, hel⟩ := hv.last
  rw [hlen2] at hv hcap ⊢
  simp only [List.length_append, List.length_singleton] at hv hlen hlen2 hel hcap ⊢
  unfold maxLen at hcap
  obtain ⟨i1, i2, i3, sv, c0, c1, c2, c3, hints⟩ := hel
  obtain ⟨sa, sc, rfl, -, -, -⟩ := id hints
  simp only at c0 c2 c3
  clear hlen2 i1 i2 i3 hints hv
  have e1 : (((o.length + 1 : Nat) : Int) - 1) = ((o.length : Nat) : Int) := by omega
  go_enter Tryz.func29, Tryz.ntmps29
  go_wp2_with fail
  refine (l3gap_any _).mono ?_
  rintro e w1 ⟨v1, rfl, ⟨p, hp, hlr⟩, hb1⟩
  have hlow : Hid (LR w.heap.size w1 v1 [p]) := ⟨own_low hlr.own (by rw [sz_alloc]; omega), hlr.ok⟩
  have hB : Below w.heap.size w w1 := (below1 w _).trans (hb1.mono (by rw [sz_alloc]; omega))
  obtain ⟨ga, gc, rfl⟩ := own_is hlr.own
  clear hlr hb1
  go_wp2
  go_ret
  exact ⟨_, [p], rfl, by rw [List.map_singleton, hp], unhide hlow, hB⟩

theorem prd_next2 {ps : List (Cl Int)} {i : Nat} (hi : i < ps.length) (B : List (List Int)) : prd (((ps.map Cl.xs).take (i + 1)).map (fun a => jn2 a [256])) B = prd (((ps.map Cl.xs).take i).map (fun a => jn2 a [256])) B ++ B.map (jn2 (jn2 (ps[i]?.getD dC).xs [256])) := by
  rw [map_take_next hi]
  unfold prd
  rw [List.map_append, List.flatMap_append]
  simp
theorem slAt_alloc {w : World} {v : Value} {xs : List Int} {o : Obj} (h : SlAt mI 0 0 w.heap.size w v xs) : SlAt mI 0 0 (w.alloc o).drew.heap.size (w.alloc o).drew v xs := h.below (below1 w o).drew (Nat.le_refl _)
theorem slAt_one (w : World) (x : Int) : SlAt mI 0 0 (w.alloc (.cells #[.int .i64 x] 3)).heap.size (w.alloc (.cells #[.int .i64 x] 3)) (.slice (some ⟨w.heap.size, 0, none⟩) 1 1) [x] :=
  ⟨_, 1, rfl, by unfold maxLen; simp, fun _ => ⟨w.heap.size, 0, rfl, Nat.zero_le _, by rw [sz_alloc]; omega, fun i hi => by
    obtain rfl : i = 0 := by have : i < 1 := hi; omega
    exact (pushd_alloc w (.cells #[.int .i64 x] 3)).news 0 _ rfl⟩⟩
theorem below_one {w w' : World} {o : Obj} (h : Below (w.alloc o).drew.heap.size (w.alloc o).drew w') : Below w.heap.size w w' := (below1 w o).drew.trans (h.mono (by show _ ≤ (w.alloc o).heap.size; rw [sz_alloc]; exact Nat.le_succ _))

set_option maxHeartbeats 8000000 in
set_option maxRecDepth 100000 in
theorem sk_rep (o : List El) (mn mx : Int) (S1 S : List (List Int)) (hmn : mn ≠ 0) (Ho : SkS o S1) (m1 : Sm S1) (hS : CutR (S1 ++ prd (S1.map (fun a => jn2 a [256])) S1) S) : SkS (o ++ [⟨4, [], mn, mx⟩]) S := by
  intro v w hv hlen
  have hv0 := hv
  obtain ⟨a, cp, rfl, -, -⟩ := id hv
  obtain ⟨hlen2, hcap, b, off, rfl, hbn, hel⟩ := hv.last
  rw [hlen2] at hv hv0 hcap ⊢
  simp only [List.length_append, List.length_singleton] at hv hv0 hlen hlen2 hel hcap ⊢
  unfold maxLen at hcap
  obtain ⟨i1, i2, i3, sv, c0, c1, c2, c3, hints⟩ := hel
  obtain ⟨sa, sc, rfl, -, -, -⟩ := id hints
  simp only at c0 c2 c3
  clear hlen2 i1 i2 i3 hints
  have e1 : (((o.length + 1 : Nat) : Int) - 1) = ((o.length : Nat) : Int) := by omega
  have hmn' : (mn == 0) = false := by simpa using hmn
  have HvL := hide hv0.pre
  have HS := hide hS
  clear hv hv0 hS
  go_enter Tryz.func29, Tryz.ntmps29
  go_wp2_with fail
  refine (Ho _ _ (by exact (unhide HvL).below (below1 w _) (Nat.le_refl _)) (by omega)).mono ?_
  rintro e w2 ⟨v2, ps, rfl, hp1, hr1, hb2⟩
  rw [sz_alloc] at hr1
  obtain ⟨o1, d1, rfl⟩ := own_is hr1.own
  have hB2 : Below w.heap.size w w2 := (below1 w _).trans (hb2.mono (by rw [sz_alloc]; omega))
  have HR1 := hide hr1
  have Hp1 := hide hp1
  have hpl := (perm_sm hp1 m1).1
  clear hb2 hr1 hp1
  go_wp2_with fail
  go_loopw [5, 10] (fun ov iv wr => ∃ (i : Nat) (os : List (Cl Int)), i ≤ ps.length ∧ iv = .int .i64 i ∧ OutS ((ps.map Cl.xs).take i) (os.map Cl.xs) ∧ LR w2.heap.size wr ov os ∧ Below w2.heap.size w2 wr) (fun _ iv _ => ps.length - (intOf iv).toNat)
  case atStart => exact ⟨0, [], Nat.zero_le _, rfl, OutS.nil, LR.nil, Below.refl _ _⟩
  case round =>
    obtain ⟨i, os, hil, rfl, hout, hlr, hbw⟩ := hrel
    have hszr := hbw.size
    have hol := hout.len
    rw [List.length_map] at hol
    have Hout := hide hout
    have Hlr := hide hlr
    obtain ⟨oa, oc, rfl⟩ := own_is hlr.own
    clear hout hlr
    by_cases hlt : i < ps.length
    · have hlt' : (i : Int) < (ps.length : Int) := by omega
      obtain ⟨g, cap', e, hx, hok, pa, pc, e1⟩ := ((unhide HR1).keep hbw (Nat.le_refl _)).get hlt
      cases e
      have Hnx : Hid (∀ os', AddR os (ps[i]?.getD dC) os' → OutS ((ps.map Cl.xs).take (i + 1)) (os'.map Cl.xs)) := fun os' h => by
        rw [map_take_next hlt]
        exact h.out (unhide Hout)
      have Hok := hide hok
      have E1 := hide e1
      rw [e1] at hx
      clear hok e1 Hout
      generalize ps[i]?.getD dC = p at *
      have HA := hide (l3add_any w2.heap.size _ os p wr (unhide Hlr) hszr (unhide Hok) hol)
      rw [unhide E1] at HA
      go_wp2_with fail
      refine (unhide HA).mono ?_
      rintro e w3 ⟨v3, os3, rfl, ha3, hlr3, hb3⟩
      have H3 := hide (unhide Hnx os3 ha3)
      have HL3 := hide hlr3
      obtain ⟨g3, cap3, rfl⟩ := own_is hlr3.own
      clear ha3 hlr3 HA Hnx
      go_wp2
      go_roundw
      case rel => exact ⟨i + 1, os3, by omega, by go_num, unhide H3, unhide HL3, hbw.trans hb3⟩
      case measure => simp [intOf]; omega
    · obtain rfl : i = ps.length := by omega
      rw [List.take_of_length_le (by rw [List.length_map]; exact Nat.le_refl _)] at Hout
      go_wp2_with fail
      go_loopw [5, 11] (fun ov iv wr => ∃ (i : Nat) (os : List (Cl Int)), i ≤ ps.length ∧ iv = .int .i64 i ∧ OutS (ps.map Cl.xs ++ prd (((ps.map Cl.xs).take i).map (fun a => jn2 a [256])) (ps.map Cl.xs)) (os.map Cl.xs) ∧ LR w2.heap.size wr ov os ∧ Below w2.heap.size w2 wr) (fun _ iv _ => ps.length - (intOf iv).toNat)
      case atStart => exact ⟨0, os, Nat.zero_le _, rfl, by rw [List.take_zero]; simpa [prd] using unhide Hout, unhide Hlr, hbw⟩
      case round =>
        clear Hout Hlr hbw hszr hol
        obtain ⟨i, os, hil, rfl, hout, hlr, hbw⟩ := hrel
        have hszr := hbw.size
        have Hout := hide hout
        have Hlr := hide hlr
        obtain ⟨oa, oc, rfl⟩ := own_is hlr.own
        clear hout hlr
        by_cases hlt : i < ps.length
        · have hlt' : (i : Int) < (ps.length : Int) := by omega
          have hpm : (ps[i]?.getD dC).xs.length ≤ 60 := (perm_sm (unhide Hp1) m1).2 _ (by rw [List.getElem?_eq_getElem hlt]; exact List.getElem_mem _)
          have Hend : Hid (∀ T, OutS (ps.map Cl.xs ++ prd (((ps.map Cl.xs).take i).map (fun a => jn2 a [256])) (ps.map Cl.xs) ++ (ps.map Cl.xs).map (jn2 (jn2 (ps[i]?.getD dC).xs [256]))) T → OutS (ps.map Cl.xs ++ prd (((ps.map Cl.xs).take (i + 1)).map (fun a => jn2 a [256])) (ps.map Cl.xs)) T) := fun T h => by rw [prd_next2 hlt, ← List.append_assoc]; exact h
          have HG : Hid (∀ W, Below w2.heap.size w2 W → ∃ g cap, Value.slice o1 ps.length d1 = .slice (some ⟨g, 0, none⟩) ps.length cap ∧ W.cell? ⟨g, i, none⟩ = some (ps[i]?.getD dC).v ∧ (ps[i]?.getD dC).ok mI 0 3 W ∧ ∃ a c, (ps[i]?.getD dC).v = .slice a (ps[i]?.getD dC).xs.length c) := fun W hW => ((unhide HR1).keep hW (Nat.le_refl _)).get hlt
          generalize ps[i]?.getD dC = p at *
          generalize ps.map Cl.xs ++ prd (((ps.map Cl.xs).take i).map (fun a => jn2 a [256])) (ps.map Cl.xs) = L at *
          go_wp2_with fail
          go_loopw [5, 12] (fun ov iv wr => ∃ (j : Nat) (os : List (Cl Int)), j ≤ ps.length ∧ iv = .int .i64 j ∧ OutS (L ++ ((ps.map Cl.xs).take j).map (jn2 (jn2 p.xs [256]))) (os.map Cl.xs) ∧ LR w2.heap.size wr ov os ∧ Below w2.heap.size w2 wr) (fun _ iv _ => ps.length - (intOf iv).toNat)
          case atStart => exact ⟨0, os, Nat.zero_le _, rfl, by rw [List.take_zero, List.map_nil, List.append_nil]; exact unhide Hout, unhide Hlr, hbw⟩
          case round =>
            clear Hout Hlr hbw hszr
            obtain ⟨j, ts, hjl, rfl, hout, hlr, hbw⟩ := hrel
            have hszr := hbw.size
            have hol := hout.len
            rw [List.length_map] at hol
            have Hout := hide hout
            have Hlr := hide hlr
            obtain ⟨ta, tc, rfl⟩ := own_is hlr.own
            clear hout hlr
            by_cases hlt2 : j < ps.length
            · have hlt2' : (j : Int) < (ps.length : Int) := by omega
              have hqm : (ps[j]?.getD dC).xs.length ≤ 60 := (perm_sm (unhide Hp1) m1).2 _ (by rw [List.getElem?_eq_getElem hlt2]; exact List.getElem_mem _)
              obtain ⟨g, cap', e, hx, hok, pa, pc, e1⟩ := ((unhide HR1).keep hbw (Nat.le_refl _)).get hlt2
              cases e
              obtain ⟨g1, cap1, e, hx1, hok1, pa1, pc1, e11⟩ := unhide HG _ hbw
              cases e
              have Hnx : Hid (∀ b ys os', jn2 (jn2 p.xs [256]) (ps[j]?.getD dC).xs = ys → AddR ts ⟨b, ys, 0⟩ os' ∨ (∃ k, AddR ts ⟨b, ys, k⟩ os') → OutS (L ++ ((ps.map Cl.xs).take (j + 1)).map (jn2 (jn2 p.xs [256]))) (os'.map Cl.xs)) := fun b ys os' hy h => by
                rw [map_take_next hlt2, List.map_append, ← List.append_assoc, List.map_singleton, hy]
                rcases h with h | ⟨k, h⟩
                · exact h.out (unhide Hout)
                · exact h.out (unhide Hout)
              have S1' := hide hok1.at
              have S2' := hide hok.at
              have E11 := hide e11
              have E12 := hide e1
              have HG2 : Hid (∀ W, Below w2.heap.size w2 W → ∃ g' cap, Value.slice (some ⟨g, 0, none⟩) ps.length d1 = .slice (some ⟨g', 0, none⟩) ps.length cap ∧ W.cell? ⟨g', j, none⟩ = some (ps[j]?.getD dC).v ∧ (ps[j]?.getD dC).ok mI 0 3 W ∧ ∃ a c, (ps[j]?.getD dC).v = .slice a (ps[j]?.getD dC).xs.length c) := fun W hW => ((unhide HR1).keep hW (Nat.le_refl _)).get hlt2
              rw [e11] at hx1 S1'
              rw [e1] at hx S2'
              clear hok hok1 e1 e11 Hout
              generalize ps[j]?.getD dC = q at *
              have hS : Hid (∀ W' : World, Below w2.heap.size w2 W' → W'.cell? ⟨g, i, none⟩ = some (.slice pa1 p.xs.length pc1) ∧ W'.cell? ⟨g, j, none⟩ = some (.slice pa q.xs.length pc)) := fun W' hW => by
                obtain ⟨_, _, e, h1, -, -⟩ := unhide HG W' hW
                cases e
                obtain ⟨_, _, e, h2, -, -⟩ := unhide HG2 W' hW
                cases e
                rw [unhide E11] at h1
                rw [unhide E12] at h2
                exact ⟨h1, h2⟩
              clear HG2
              go_wp2_with fail
              go_region_held3 (fun W' => W'.cell? ⟨g, i, none⟩ = some (.slice pa1 p.xs.length pc1) ∧ W'.cell? ⟨g, j, none⟩ = some (.slice pa q.xs.length pc))
                (first | go_keep | exact unhide hS _ hB4 | exact unhide hS _ hB3 | exact unhide hS _ hB5)
                (first
                  | (go_at_call 57; refine (l3join_any _ _ p.xs [256] _ (by exact slAt_alloc (unhide S1')) (by exact slAt_one wr 256) (by omega) (by simp)).mono ?_; rintro e w5 ⟨v5, rfl, hown5, hb5⟩; have hB5a : Below wr.heap.size wr w5 := below_one hb5; have hB5 : Below w2.heap.size w2 w5 := hbw.trans (hB5a.mono hszr); have Hown5 : Hid (w5.ownsRow wr.heap.size 3 1 v5 (jn2 p.xs [256]).length ((jn2 p.xs [256]).map mI)) := own_low hown5 (by show wr.heap.size ≤ (wr.alloc _).heap.size; rw [sz_alloc]; exact Nat.le_succ _); obtain ⟨xa, xc, rfl⟩ := own_is hown5; have HJ5 := jn2_len p.xs [256]; clear hown5 hb5)
                  | (go_at_call 57; refine (l3join_any _ _ (jn2 p.xs [256]) q.xs _ (by exact (own_slw (lo := 0) (unhide Hown5) (Nat.zero_le _) (by simp at HJ5; unfold maxLen; omega)).at) (by exact (unhide S2').below hB5a (Nat.le_refl _)) (by simp at HJ5; omega) (by omega)).mono ?_; rintro e w3 ⟨v3, rfl, hown3, hb3⟩; have hB3a : Below wr.heap.size wr w3 := hB5a.trans (hb3.mono hB5a.size); have hB3 : Below w2.heap.size w2 w3 := hbw.trans (hB3a.mono hszr); have Hown3 : Hid (w3.ownsRow w5.heap.size 3 1 v3 (jn2 (jn2 p.xs [256]) q.xs).length ((jn2 (jn2 p.xs [256]) q.xs).map mI)) := hown3; obtain ⟨ya, yc, rfl⟩ := own_is hown3; clear hown3 hb3)
                  | (go_at_call 56; refine (joinAdd (unhide Hown3) ((unhide Hlr).keep hB3a (Nat.le_refl _)) hB3.size hol).mono ?_; rintro e w4 ⟨v4, os4, pb, rfl, ha4, hlr4, hb4⟩; have hB4 : Below w2.heap.size w2 w4 := hB3.trans hb4; have HL4 := hide hlr4; obtain ⟨g4, cap4, rfl⟩ := own_is hlr4.own; clear hlr4 hb4))
              have H4 := hide (unhide Hnx _ _ os4 rfl (Or.inr ⟨pb, ha4⟩))
              clear ha4 Hnx
              go_wp2
              go_roundw
              case rel => exact ⟨j + 1, os4, by omega, by go_num, unhide H4, unhide HL4, hB4⟩
              case measure => simp [intOf]; omega
            · obtain rfl : j = ps.length := by omega
              rw [List.take_of_length_le (by rw [List.length_map]; exact Nat.le_refl _)] at Hout
              have H5 := hide (unhide Hend _ (unhide Hout))
              clear Hout Hend
              go_wp2
              go_roundw
              case rel => exact ⟨i + 1, ts, by omega, by go_num, unhide H5, unhide Hlr, hbw⟩
              case measure => simp [intOf]; omega
        · obtain rfl : i = ps.length := by omega
          rw [List.take_of_length_le (by rw [List.length_map]; exact Nat.le_refl _)] at Hout
          go_wp2_with fail
          refine (l3cut_any w2.heap.size _ os _ _ (unhide Hlr) hszr (unhide Hout)).mono ?_
          rintro e w4 ⟨v4, rs, S', rfl, hcut, hperm, hlr4, hb4⟩
          obtain rfl := (unhide HS).uniq (hcut.same (fun z => by rw [List.mem_append, List.mem_append, (unhide Hp1).mem_iff, prd_same (fun z => ((unhide Hp1).map (fun a => jn2 a [256])).mem_iff) (fun z => (unhide Hp1).mem_iff)]))
          have Hperm := hide hperm
          have Hl4 : Hid (LR w.heap.size w4 v4 rs) := ⟨own_low hlr4.own hB2.size, hlr4.ok⟩
          have hB4 : Below w.heap.size w w4 := hB2.trans ((hbw.trans (hb4.mono hszr)).mono hB2.size)
          obtain ⟨g4, cap4, rfl⟩ := own_is hlr4.own
          clear hcut hperm hlr4 hb4
          go_wp2
          go_ret
          exact ⟨_, rs, rfl, unhide Hperm, unhide Hl4, hB4⟩

end Go.Proofs.YtjefklagedidmaaGreat

namespace Go.Proofs.YtjefklagedidmaaGreat
open Go.RowKit

/-- The bytes of a set in order, those below n. -/
def mem256 (P : Int → Bool) : Nat → List Int
  | 0 => []
  | n + 1 => if P n then mem256 P n ++ [(n : Int)] else mem256 P n
/-- Whether b lies in one of the pairs. -/
def inPs (set : List Int) (b : Int) : Prop := ∃ i : Nat, 2 * i + 1 < set.length ∧ set[2 * i]?.getD 0 ≤ b ∧ b ≤ set[2 * i + 1]?.getD 0

set_option maxHeartbeats 4000000 in
set_option maxRecDepth 100000 in
theorem l1has_any (v : Value) (set : List Int) (b : Int) (w : World) (hv : SlAt mI 0 0 w.heap.size w v set) (hl : set.length ≤ 1048576) :
    Calls Tryz.prog 54 #[v, .int .i64 b] w fun e w' => RetB e (inPs set b) ∧ w' = w := by
  obtain ⟨a, cap, rfl, -, hc⟩ := hv
  go_enter Tryz.func54, Tryz.ntmps54
  go_wp2_with fail
  go_loop [5] (fun iv => ∃ k : Nat, 2 * k ≤ set.length + 1 ∧ iv = .int .i64 ((2 * k : Nat) : Int) ∧ ∀ j : Nat, j < k → ¬ (set[2 * j]?.getD 0 ≤ b ∧ b ≤ set[2 * j + 1]?.getD 0)) (fun iv => set.length + 2 - (intOf iv).toNat)
  case atStart => exact ⟨0, Nat.zero_le _, rfl, fun j hj => absurd hj (Nat.not_lt_zero _)⟩
  case round =>
    obtain ⟨k, hk, rfl, hno⟩ := hrel
    have Hno := hide hno
    clear hno
    by_cases hlt : 2 * k + 1 < set.length
    · have h1' : ((2 * k : Nat) : Int) + 1 < (set.length : Int) := by omega
      have h2' : ((2 * k : Nat) : Int) < (set.length : Int) := by omega
      have h3' : (0 : Int) ≤ ((2 * k : Nat) : Int) + 1 := by omega
      obtain ⟨g, off, rfl, -, -, hcell⟩ := hc (by omega)
      have hx : w.cell? ⟨g, off + 2 * k, none⟩ = some (.int .i64 (set[2 * k]?.getD 0)) := hcell _ (by omega)
      have hy : w.cell? ⟨g, off + (2 * k + 1), none⟩ = some (.int .i64 (set[2 * k + 1]?.getD 0)) := hcell _ (by omega)
      have Hyes : Hid (set[2 * k]?.getD 0 ≤ b → b ≤ set[2 * k + 1]?.getD 0 → inPs set b) := fun q1 q2 => ⟨k, hlt, q1, q2⟩
      have Hnx : Hid (¬ (set[2 * k]?.getD 0 ≤ b ∧ b ≤ set[2 * k + 1]?.getD 0) → ∀ j : Nat, j < k + 1 → ¬ (set[2 * j]?.getD 0 ≤ b ∧ b ≤ set[2 * j + 1]?.getD 0)) := fun h j hj => by
        by_cases e : j = k
        · subst e; exact h
        · exact unhide Hno j (by omega)
      clear hcell hc Hno
      generalize set[2 * k]?.getD 0 = x at *
      generalize set[2 * k + 1]?.getD 0 = y at *
      have hk2 : 2 * (k + 1) ≤ set.length + 1 := by omega
      have hkm : set.length + 2 - 2 * (k + 1) < set.length + 2 - 2 * k := by omega
      have ek : ((2 * (k + 1) : Nat) : Int) = ((2 * k : Nat) : Int) + 2 := by omega
      have EK := hide ek
      have hkb : 2 * k ≤ 1048576 := by omega
      clear ek hlt hk
      generalize hm : 2 * k = m at *
      have HM := hide hm
      clear hm
      by_cases g1 : x ≤ b
      · by_cases g2 : b ≤ y
        · have HQ := hide (unhide Hyes g1 g2)
          clear Hyes Hnx
          go_wp2
          go_ret
          exact ⟨RetB.yes (unhide HQ), rfl⟩
        · have HQ := hide (unhide Hnx (fun h => g2 h.2))
          clear Hyes Hnx
          go_wp2
          go_round
          case rel => exact ⟨k + 1, hk2, by rw [unhide EK], unhide HQ⟩
          case measure => simp [intOf]; omega
      · have HQ := hide (unhide Hnx (fun h => g1 h.1))
        clear Hyes Hnx
        go_wp2
        go_round
        case rel => exact ⟨k + 1, hk2, by rw [unhide EK], unhide HQ⟩
        case measure => simp [intOf]; omega
    · have h1' : ¬ ((2 * k : Nat) : Int) + 1 < (set.length : Int) := by omega
      have hkb : 2 * k ≤ 1048577 := by omega
      have HQ : Hid (¬ inPs set b) := fun ⟨i, hi, h2⟩ => unhide Hno i (by omega) h2
      generalize hm : 2 * k = m at *
      clear hm
      go_wp2
      go_ret
      exact ⟨RetB.no (unhide HQ), rfl⟩

/-- The bytes of a set. -/
def bytesOf (set : List Int) (n : Nat) : List Int := mem256 (fun b => InP set (set.length / 2) b.toNat) n
theorem inPs_iff (set : List Int) (b : Nat) : inPs set b ↔ InP set (set.length / 2) b = true := by
  rw [inP_iff]
  unfold inPs
  constructor
  · rintro ⟨i, h1, h2⟩; exact ⟨i, by omega, h2⟩
  · rintro ⟨i, h1, h2⟩; exact ⟨i, by omega, h2⟩
theorem bytes_in {set : List Int} {n : Nat} (h : inPs set n) : bytesOf set (n + 1) = bytesOf set n ++ [(n : Int)] := by
  unfold bytesOf
  simp only [mem256]
  rw [if_pos]
  exact (inPs_iff set n).1 h
theorem bytes_out {set : List Int} {n : Nat} (h : ¬ inPs set n) : bytesOf set (n + 1) = bytesOf set n := by
  unfold bytesOf
  simp only [mem256]
  rw [if_neg]
  exact fun q => h ((inPs_iff set n).2 q)
theorem bytes_len (set : List Int) : ∀ n : Nat, (bytesOf set n).length ≤ n
  | 0 => Nat.le_refl _
  | n + 1 => by
    by_cases h : inPs set n
    · rw [bytes_in h, List.length_append, List.length_singleton]; have := bytes_len set n; omega
    · rw [bytes_out h]; have := bytes_len set n; omega
theorem ints_slAt {N : Nat} {w : World} {v : Value} {xs : List Int} (h : IntsAt 0 N w v xs) : SlAt mI 0 0 N w v xs := by
  obtain ⟨a, c, e, h1, -, h2⟩ := h
  exact ⟨a, c, e, h1, h2⟩
theorem single_next {bs : List Int} {i : Nat} (h : i < bs.length) : (bs.take (i + 1)).map (fun b => [b]) = (bs.take i).map (fun b => [b]) ++ [[bs[i]?.getD 0]] := by
  rw [List.take_add_one, List.map_append, List.getElem?_eq_getElem h]
  rfl
def leafS (set : List Int) : List (List Int) := if 8 < (bytesOf set 256).length then [[256]] else (bytesOf set 256).map (fun b => [b])

set_option maxHeartbeats 8000000 in
set_option maxRecDepth 100000 in
theorem sk_set (set : List Int) (hsl : set.length ≤ 1048576) : SkS [⟨1, set, 0, 0⟩] (leafS set) := by
  obtain ⟨i0, hi, hz0, hz1, hz2⟩ := info_parts Tryz.zinInt
  obtain ⟨i1', hi', hz0', hz1', hz2'⟩ := info_parts Tryz.zinIntS
  intro v w hv hlen
  obtain ⟨a, cp, rfl, -, -⟩ := id hv
  obtain ⟨hlen2, hcap, b, off, rfl, hbn, hel⟩ := ElsAt.last (p := []) hv
  simp only [List.length_singleton, List.length_nil, Nat.zero_mul, Nat.add_zero] at hel hv ⊢
  obtain ⟨i1, i2, i3, sv, c0, c1, c2, c3, hints⟩ := hel
  have HI := hide hints
  obtain ⟨sa, sc, rfl, -, -, -⟩ := id hints
  simp only at c0 c2 c3
  clear hv hints i1 i2 i3
  go_enter Tryz.func29, Tryz.ntmps29
  go_wp2_with fail
  have hB0 := below1 w (.cells #[.int .i64 1, .slice sa set.length sc, .int .i64 0, .int .i64 0] 59)
  have HSl : Hid (∀ W, Below (w.heap.size + 1) (w.alloc (.cells #[.int .i64 1, .slice sa set.length sc, .int .i64 0, .int .i64 0] 59)) W → SlAt mI 0 0 W.heap.size W (.slice sa set.length sc) set ∧ W.cell? ⟨w.heap.size, 1, none⟩ = some (.slice sa set.length sc)) := fun W hW => ⟨(ints_slAt (unhide HI)).below (hB0.trans (hW.mono (Nat.le_succ _))) (Nat.le_refl _), (hW.cell (p := ⟨w.heap.size, 1, none⟩) (Nat.lt_succ_self _)).trans ((pushd_alloc w _).news 1 _ rfl)⟩
  have hzW : (w.alloc (.cells #[.int .i64 1, .slice sa set.length sc, .int .i64 0, .int .i64 0] 59)).heap.size = w.heap.size + 1 := sz_alloc _ _
  generalize w.alloc (.cells #[.int .i64 1, .slice sa set.length sc, .int .i64 0, .int .i64 0] 59) = W0 at *
  have HzW := hide hzW
  have hzW' : w.heap.size + 1 ≤ W0.heap.size := by omega
  clear hzW c0 c1 c2 c3
  go_loopw [6, 7] (fun bv iv wr => ∃ n : Nat, n ≤ 256 ∧ iv = .int .i64 n ∧ wr.ownsRow W0.heap.size 3 1 bv (bytesOf set n).length ((bytesOf set n).map mI) ∧ Below W0.heap.size W0 wr) (fun _ iv _ => 256 - (intOf iv).toNat)
  case atStart => exact ⟨0, Nat.zero_le _, rfl, World.ownsRow_nil _ _ _ _, Below.refl _ _⟩
  case round =>
    obtain ⟨n, hn, rfl, hown, hbw⟩ := hrel
    have hszr := hbw.size
    have hbl := bytes_len set n
    have Hown := hide hown
    obtain ⟨oa, oc, rfl⟩ := own_is hown
    clear hown
    by_cases hlt : n < 256
    · have hlt' : (n : Int) < 256 := by omega
      obtain ⟨hsl1, hsc1⟩ := unhide HSl wr (hbw.mono hzW')
      have Hsl1 := hide hsl1
      clear hsl1
      go_wp2_with fail
      refine (l1has_any _ set n _ (unhide Hsl1) hsl).mono ?_
      rintro e w1 ⟨hret, rfl⟩
      rcases hret.cases with ⟨rfl, hin⟩ | ⟨rfl, hin⟩
      · have HN := hide (bytes_in hin)
        clear hin hret
        generalize bytesOf set n = bs at *
        go_wp2_with (at_builtin; refine wpList_append_own _ rfl _ _ 41 rfl W0.heap.size 3 i0 (.int .i64 0) 1 8 Tryz.underlying41 hi hz0 hz1 hz2 rfl (by decide) _ _ _ rfl (World.ownsRow.alloc (w := w1) (unhide Hown) _) ⟨w1.heap.size, 0, none⟩ 1 1 [.int .i64 n] rfl rfl (cell_1 (by simp)) (fun u' hu => by simp at hu; subst hu; rfl) (by unfold maxLen; omega) (by omega) (by rw [sz_alloc]; omega) ?_)
        intro v' w3 h5 hg5 _
        have hst := hide (grow_int (unhide Hown) hszr (pushd_alloc w1 _) h5 hg5)
        clear h5 hg5
        go_wp2
        go_roundw
        case rel => exact ⟨n + 1, by omega, by go_num, by rw [unhide HN]; exact (unhide hst).1, hbw.trans (unhide hst).2⟩
        case measure => simp [intOf]; omega
      · have HN := hide (bytes_out hin)
        clear hin hret
        go_wp2
        go_roundw
        case rel => exact ⟨n + 1, by omega, by go_num, by rw [unhide HN]; exact unhide Hown, hbw⟩
        case measure => simp [intOf]; omega
    · obtain rfl : n = 256 := by omega
      have hB1 : Below w.heap.size w wr := hB0.trans (hbw.mono (by omega))
      by_cases h8 : 8 < (bytesOf set 256).length
      · have h8' : (8 : Int) < ((bytesOf set 256).length : Int) := by omega
        have HL : Hid (leafS set = [[256]]) := if_pos h8
        go_wp2_with fail
        refine (l3gap_any _).mono ?_
        rintro e w1 ⟨v1, rfl, ⟨p, hp, hlr⟩, hb1⟩
        have hlow : Hid (LR w.heap.size w1 v1 [p]) := ⟨own_low hlr.own hB1.size, hlr.ok⟩
        have hB : Below w.heap.size w w1 := hB1.trans (hb1.mono hB1.size)
        obtain ⟨ga, gc, rfl⟩ := own_is hlr.own
        clear hlr hb1
        go_wp2
        go_ret
        exact ⟨_, [p], rfl, by rw [List.map_singleton, hp, unhide HL], unhide hlow, hB⟩
      · have h8' : ¬ (8 : Int) < ((bytesOf set 256).length : Int) := by omega
        have HL : Hid (leafS set = (bytesOf set 256).map (fun b => [b])) := if_neg h8
        obtain ⟨V, rfl⟩ : ∃ V : World, V = wr := ⟨_, rfl⟩
        have Hb := hide (own_slw (lo := 0) (unhide Hown) (Nat.zero_le _) (by unfold maxLen; omega)).at
        generalize bytesOf set 256 = bs at *
        go_wp2_with fail
        go_loopw [5, 8] (fun ov iv wr => ∃ (i : Nat) (os : List (Cl Int)), i ≤ bs.length ∧ iv = .int .i64 i ∧ os.map Cl.xs = (bs.take i).map (fun b => [b]) ∧ LR V.heap.size wr ov os ∧ Below V.heap.size V wr) (fun _ iv _ => bs.length - (intOf iv).toNat)
        case atStart => exact ⟨0, [], Nat.zero_le _, rfl, rfl, LR.nil, Below.refl _ _⟩
        case round =>
          obtain ⟨i, os, hil, rfl, hos, hlr, hbr⟩ := hrel
          have hsz2 := hbr.size
          have hol : os.length ≤ i := by
            have := congrArg List.length hos
            simp at this
            omega
          have Hos := hide hos
          have Hlr := hide hlr
          obtain ⟨ta, tc, rfl⟩ := own_is hlr.own
          clear hos hlr
          by_cases hlt2 : i < bs.length
          · have hlt2' : (i : Int) < (bs.length : Int) := by omega
            obtain ⟨_, _, e, -, hcb⟩ := (unhide Hb).below hbr (Nat.le_refl _)
            cases e
            obtain ⟨vb, vo, rfl, -, -, hcell⟩ := hcb (by omega)
            have hx : wr.cell? ⟨vb, vo + i, none⟩ = some (.int .i64 (bs[i]?.getD 0)) := hcell i hlt2
            have HN : Hid (∀ p : Cl Int, p.xs = [bs[i]?.getD 0] → (os ++ [p]).map Cl.xs = (bs.take (i + 1)).map (fun b => [b])) := fun p hp => by
              rw [List.map_append, List.map_singleton, hp, unhide Hos, single_next hlt2]
            clear hcell hcb Hos
            generalize bs[i]?.getD 0 = x at *
            have hB9 := below1 wr (.cells #[.int .i64 x] 3)
            have HA := hide ((unhide Hlr).keep hB9 (Nat.le_refl _))
            have Hpok : Hid (Cl.ok mI 0 3 (wr.alloc (.cells #[.int .i64 x] 3)) ⟨.slice (some ⟨wr.heap.size, 0, none⟩) 1 1, [x], wr.heap.size⟩) := ⟨_, 1, rfl, ⟨Nat.le_refl _, by unfold maxLen; omega⟩, fun _ => ⟨0, rfl, ⟨_, (pushd_alloc wr _).new⟩, fun k hk => by
              obtain rfl : k = 0 := by have : k < 1 := hk; omega
              exact (pushd_alloc wr (.cells #[.int .i64 x] 3)).news 0 _ rfl⟩⟩
            have hzA : V.heap.size ≤ (wr.alloc (.cells #[.int .i64 x] 3)).heap.size := by rw [sz_alloc]; omega
            have Hst : Hid (∀ (w' : World) (v' : Value), w'.ownsRow V.heap.size 41 1 v' (os.length + 1) (os.map Cl.v ++ [.slice (some ⟨wr.heap.size, 0, none⟩) 1 1]) → ((wr.alloc (.cells #[.int .i64 x] 3)).alloc (.cells #[.slice (some ⟨wr.heap.size, 0, none⟩) 1 1] 41)).grownBy w' (Value.slice ta os.length tc).ownBlock → LR V.heap.size w' v' (os ++ [⟨.slice (some ⟨wr.heap.size, 0, none⟩) 1 1, [x], wr.heap.size⟩]) ∧ Below V.heap.size (wr.alloc (.cells #[.int .i64 x] 3)) w') := fun w' v' g1 g2 =>
              (unhide HA).app hzA (unhide Hpok) (pushd_alloc _ _) g1 g2
            go_wp2_with (at_builtin; refine wpList_append_own _ rfl _ _ 26 rfl V.heap.size 41 i1' (.slice none 0 0) 1 24 Tryz.underlying26 hi' hz0' hz1' hz2' rfl (by decide) _ _ _ rfl (World.ownsRow.alloc (w := wr.alloc (.cells #[.int .i64 x] 3)) (unhide HA).own _) ⟨wr.heap.size + 1, 0, none⟩ 1 1 [.slice (some ⟨wr.heap.size, 0, none⟩) 1 1] rfl rfl ?_ ?_ ?_ ?_ ?_ ?_)
            · exact cell_1 (by simp)
            · intro u' hu; simp at hu; subst hu; rfl
            · unfold maxLen; omega
            · omega
            · rw [sz_alloc]; omega
            intro v3 w3 h5 hg5 _
            have h3 := hide (unhide Hst w3 v3 h5 hg5)
            obtain ⟨g3, cap3, rfl⟩ := ownsRow_succ h5
            clear h5 hg5
            have hB3 : Below V.heap.size V w3 := hbr.trans ((hB9.mono hsz2).trans (unhide h3).2)
            go_wp2
            go_roundw
            case rel => exact ⟨i + 1, _, by omega, by go_num, unhide HN _ rfl, (unhide h3).1, hB3⟩
            case measure => simp [intOf]; omega
          · obtain rfl : i = bs.length := by omega
            rw [List.take_length] at Hos
            have Hl4 : Hid (LR w.heap.size wr (.slice ta os.length tc) os) := ⟨own_low (unhide Hlr).own hB1.size, (unhide Hlr).ok⟩
            go_wp2
            go_ret
            exact ⟨_, os, rfl, by rw [unhide Hos, unhide HL], unhide Hl4, hB1.trans (hbr.mono hB1.size)⟩

end Go.Proofs.YtjefklagedidmaaGreat

namespace Go.Proofs.YtjefklagedidmaaGreat
open Go.RowKit

theorem fld_sk (a b : Value) (w : World) : Sem.run Tryz.prog (Instr.field 66 (.agg #[a, b]) 0) w = .ok a w := by kernel_rfl

set_option maxHeartbeats 1000000 in
set_option maxRecDepth 100000 in
theorem SkV.alt {u v : Value} {S1 S2 S : List (List Int)} (hu : SkV u S1) (hv : SkV v S2) (m1 : Sm S1) (m2 : Sm S2) (hS : CutR (S1 ++ S2) S) : SkV (aV u v) S := by
  refine ⟨⟨_, _, rfl⟩, fun w => ?_⟩
  obtain ⟨⟨T, x, rfl⟩, hu⟩ := hu
  obtain ⟨⟨T', x', rfl⟩, hv⟩ := hv
  unfold aV
  have HU := hide hu
  have HV := hide hv
  have HS := hide hS
  have t1 := tb_ae
  have t2 := tb_as
  have t3 := tb_ac
  have t4 := tb_aa
  have t5 := fld_sk
  obtain ⟨h1, h2, h3⟩ := sk_start w
  have H1 := hide h1
  have H2 := hide h2
  have H3 := hide h3
  clear h1 h2 h3 hu hv hS
  go_enter Tryz.func35, Tryz.ntmps35
  go_wp2_with fail
  have H4 := hide ((unhide H1).keep (below1 _ (.cells #[.iface T x, .iface T' x'] 106)) (Nat.le_refl _))
  have H5 := hide ((unhide H2).alloc (.cells #[.iface T x, .iface T' x'] 106))
  have H6 := hide ((unhide H3).alloc (by rw [sz_alloc, sz_alloc]; omega) (.cells #[.iface T x, .iface T' x'] 106))
  have h7 := Bx2.new ((w.alloc zS).alloc zS) 106 (.iface T x) (.iface T' x')
  rw [sz_alloc, sz_alloc] at h7
  have H7 := hide h7
  clear h7
  generalize (((w.alloc zS).alloc zS).alloc (.cells #[.iface T x, .iface T' x'] 106)) = w2 at *
  have hz2 : w.heap.size + 1 + 1 < w2.heap.size := World.rowIs.lt (unhide H7)
  refine (unhide HU w2).mono ?_
  rintro e w3 ⟨lv1, qs1, c1, rfl, hl1, hq1, hb3⟩
  have hz3 := hb3.size
  have hn1 : qs1.length ≤ 1048576 := by have := m1.1; rw [← hq1, List.length_map] at this; omega
  have H33 := hide hb3
  have HL1 := hide hl1
  have HQ1 := hide hq1
  have HK3 := hide ((unhide H4).keep hb3 (Nat.le_refl _))
  obtain ⟨l1a, l1c, rfl⟩ := own_is hl1.own
  have HA := hide (addAll_any (w.heap.size + 1) _ _ [] [] qs1 false w3 (unhide HK3) ⟨(unhide HL1).base (by omega), fun k hk e => by cases e⟩ hn1 (fun p hp => by cases hp))
  clear hb3 hl1 hq1
  go_wp2_with fail
  refine (unhide HA).mono ?_
  rintro e w4 ⟨rfl, lv4, ps4, c4, hk4, hsub4, hf4, -⟩
  have hb4 : ∀ k, k < w3.heap.size → k ≠ w.heap.size + 1 → w4.heap[k]? = w3.heap[k]? := fun k h1 h2 => hf4.block k h1 h2 (by intro h; cases h)
  have hz4 := hf4.size
  have h45 : ∀ k, k < w2.heap.size → k ≠ w.heap.size + 1 → w4.heap[k]? = w2.heap[k]? := fun k h1 h2 => (hb4 k (by omega) h2).trans ((unhide H33).block k h1)
  have hN4 := (unhide H7).blk (h45 _ (by omega) (by omega))
  obtain ⟨n0, n1, n2, n3⟩ := hN4.facts4
  have H45 := hide h45
  have HK4 := hide hk4
  have HF4 := hide hf4
  clear hb4 h45 hN4 hk4 hsub4 hf4 HA
  go_wp2_with fail
  refine (unhide HV w4).mono ?_
  rintro e w5 ⟨lv2, qs2, c2, rfl, hl2, hq2, hb5⟩
  have hz5 := hb5.size
  have hn2 : qs2.length ≤ 1048576 := by have := m2.1; rw [← hq2, List.length_map] at this; omega
  have H5b := hide hb5
  have HL2 := hide hl2
  have HQ2 := hide hq2
  have HK5 := hide ((unhide HK4).keep hb5 (Nat.le_refl _))
  obtain ⟨l2a, l2c, rfl⟩ := own_is hl2.own
  have HA := hide (addAll_any (w.heap.size + 1) _ _ _ ps4 qs2 c4 w5 (unhide HK5) ⟨(unhide HL2).base (by omega), fun k hk e => by have := ((unhide HL2).own.lt k hk).1; have := ((unhide HK4).row.own.lt k e).2; omega⟩ hn2 (fun p hp q hq h0 h1 e => by have := ((unhide HK4).row.ok p hp).lt h0; have := (unhide HL2).lo q hq h1; omega))
  clear hb5 hl2 hq2
  go_wp2_with fail
  refine (unhide HA).mono ?_
  rintro e w6 ⟨rfl, lv6, ps6, c6, hk6, hsub6, hf6, -⟩
  have hz6 := hf6.size
  have h62 : ∀ k, k ≤ w.heap.size → w6.heap[k]? = w2.heap[k]? := fun k h1 => ((hf6.block k (by omega) (by omega) (fun e => by have := ((unhide HK4).row.own.lt k e).1; omega)).trans ((unhide H5b).block k (by omega))).trans (unhide H45 k (by omega) (by omega))
  obtain ⟨y0, y1, y2, y3⟩ := hk6.box.facts4
  obtain ⟨z0, z1, z2, z3⟩ := ((unhide H5).blk (h62 _ (Nat.le_refl _))).facts4
  have hR := sk_fin (S := S) (R := w.heap.size) hk6 ((unhide H6).trans ⟨hf6.os.trans ((unhide H5b).os.trans ((unhide HF4).os.trans (unhide H33).os)), hf6.tape.trans ((unhide H5b).tape.trans ((unhide HF4).tape.trans (unhide H33).tape)), hf6.output.trans ((unhide H5b).output.trans ((unhide HF4).output.trans (unhide H33).output)), by omega, fun k hk => h62 k (by omega)⟩) (Nat.le_refl _) (by omega) (by rw [List.nil_append, unhide HQ1, unhide HQ2]; exact unhide HS)
  have HRR := hide hR
  obtain ⟨la, lc, rfl⟩ := own_is hk6.row.own
  clear hR hk6 hf6 hsub6 HA h62
  go_wp2
  refine bodyPost_ret (v := .agg #[.slice la ps6.length lc, .bool c6]) (by simp [results, Tryz.results35, go_sem, z0, z1]) rfl (unhide HRR)

end Go.Proofs.YtjefklagedidmaaGreat
