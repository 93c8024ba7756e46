import Derived.Test.YtjefklagedidmaaGreatP17
namespace Go.Proofs.YtjefklagedidmaaGreat
open Go.RowKit

/-- The first j parts of a counted repetition. -/
def tk (X : List El) (m j : Nat) : List (List El) := List.replicate (min j m) X ++ List.replicate (j - m) (optE X)
theorem tk_lt {X : List El} {m j : Nat} (h : j < m) : tk X m (j + 1) = tk X m j ++ [X] := by
  unfold tk
  rw [show min (j + 1) m = j + 1 by omega, show j + 1 - m = 0 by omega, show min j m = j by omega, show j - m = 0 by omega, List.replicate_succ']
  simp
theorem tk_ge {X : List El} {m j : Nat} (h : m ≤ j) : tk X m (j + 1) = tk X m j ++ [optE X] := by
  unfold tk
  rw [show min (j + 1) m = m by omega, show j + 1 - m = (j - m) + 1 by omega, show min j m = m by omega, List.replicate_succ', List.append_assoc]
theorem tk_all {X : List El} {m M : Nat} (h : m ≤ M) : tk X m M = partsX X m M := by
  unfold tk partsX
  rw [if_neg (by omega), show min M m = m by omega, show ((m : Int)).toNat = m by omega, show ((M : Int) - (m : Int)).toNat = M - m by omega]
theorem tk_mem {X : List El} {m j : Nat} {p : List El} (h : p ∈ tk X m j) : p = X ∨ p = optE X := by
  unfold tk at h
  rcases List.mem_append.1 h with h | h
  · exact Or.inl (List.mem_replicate.1 h).2
  · exact Or.inr (List.mem_replicate.1 h).2
theorem tk_len (X : List El) (m j : Nat) : (tk X m j).length = j := by unfold tk; simp; omega
theorem optE_nice {X : List El} (h : Nice X) : Nice (optE X) := (h.app (Nice.op 0 0 0 (by simp [In64]) (by simp [In64]) (by simp [In64]))).app (Nice.op 3 0 0 (by simp [In64]) (by simp [In64]) (by simp [In64]))

set_option maxHeartbeats 4000000 in
set_option maxRecDepth 100000 in
theorem xpS_count (m M : Nat) (x X : List El) (cx : Int) (sx : SegM x cx) (Hx : XpS x X) (o2 : m ≤ M) (o3 : M ≤ 250) (o4 : 0 < M) (nx : Nice X) (lx : X.length ≤ 3000) : XpS (x ++ [⟨4, [], m, M⟩]) (jn (partsX X m M)) := by
  intro v w hv hlen
  obtain ⟨a, cp, rfl, -, -⟩ := id hv
  obtain ⟨hlen2, hcap, b, off, rfl, hbn, hel⟩ := hv.last
  rw [hlen2] at hv hcap ⊢
  simp only [List.length_append, List.length_singleton] at hv hlen hlen2 hel hcap ⊢
  unfold maxLen at hcap
  obtain ⟨i1, i2, i3, sv, c0, c1, c2, c3, hints⟩ := hel
  obtain ⟨sa, sc, rfl, -, -, -⟩ := id hints
  simp only at c0 c2 c3
  clear hlen2 i1 i2 i3 hints
  have pl := sx.ne
  have hvL : ElsAt 0 w.heap.size w (.slice (some ⟨b, off, none⟩) x.length cp) x := hv.pre
  have HvL := hide hvL
  have NX := hide nx
  have hM0 : ((M : Int) == 0) = false := by simp; omega
  have hM1 : ((M : Int) == -1) = false := by rw [beq_eq_false_iff_ne]; omega
  clear hvL hv nx
  go_enter Tryz.func30, Tryz.ntmps30
  go_wp2_with fail
  refine (Hx _ _ (by exact (unhide HvL).below (below1 w _) (Nat.le_refl _)) (by omega)).mono ?_
  rintro e w1 ⟨v1, rfl, hg1, hb1⟩
  obtain ⟨o1, d1, rfl⟩ := hg1.form
  have hB1 : Below w.heap.size w w1 := (below1 w _).trans (hb1.mono (by rw [sz_alloc]; omega))
  have hz1 := hb1.size
  rw [sz_alloc] at hz1
  have RA := hide ((Row4.new w 59 (.int .i64 4) (.slice sa 0 sc) (.int .i64 (m : Int)) (.int .i64 (M : Int))).below hb1 (by rw [sz_alloc]; omega))
  have hX0 := hg1.foot
  rw [sz_alloc] at hX0
  have HX := hide hX0
  obtain ⟨q0, q1, q2, q3, -⟩ := Row4.facts (unhide RA)
  clear hb1 hg1 hX0
  go_wp2
  go_loopw [9, 12] (fun pv i wr => ∃ (j : Nat) (ps : List Pt), i = .int .i64 (j : Int) ∧ j ≤ M ∧ ps.map Pt.P = tk X m j ∧ PGrow w1.heap.size wr pv ps ∧ Below w1.heap.size w1 wr) (fun _ i _ => M - (intOf i).toNat)
  case atStart => exact ⟨0, [], rfl, Nat.zero_le _, by simp [tk], PGrow.nil _ _, Below.refl _ _⟩
  case round =>
    obtain ⟨j, ps, rfl, hj, hps, hpg, hbr⟩ := hrel
    clear q0 q1 q2 q3
    obtain ⟨q0, q1, q2, q3, -⟩ := Row4.facts ((unhide RA).below hbr (by omega))
    have hzr := hbr.size
    have Hpg := hide hpg
    have Hps := hide hps
    have hpj : ps.length = j := by rw [← tk_len X m j, ← hps, List.length_map]
    have hXr := hide ((unhide HX).same (w' := wr) (fun k hk => hbr.block k hk.2))
    have hTr : Hid (∀ k, Rng (w.heap.size + 1) w1.heap.size k → k < wr.heap.size) := fun k hk => Nat.lt_of_lt_of_le hk.2 hzr
    have hown : Hid (∀ k, Rng (w.heap.size + 1) w1.heap.size k → ∀ (u : Value) (n : Nat) (vs : List Value), wr.ownsRow w1.heap.size 30 1 u n vs → u.ownBlock ≠ some k) := fun k hk u n vs h e => by
      have := (h.lt k e).1
      unfold Rng at hk
      omega
    have hXe := hide ((unhide hXr).at (fun k hk => unhide hTr k hk) (unhide NX).num)
    obtain ⟨pa, pc, rfl⟩ := own_is hpg.own
    clear hpg hps
    subst hpj
    by_cases hlt : ps.length < M
    · have hltI : (ps.length : Int) < (M : Int) := by omega
      by_cases hm : ps.length < m
      · have hmI : (ps.length : Int) < (m : Int) := by omega
        go_wp2_with (at_builtin; refine app_part ⟨X, .slice o1 X.length d1, Rng (w.heap.size + 1) w1.heap.size⟩ rfl _ _ rfl rfl rfl (unhide Hpg) hzr (Below.refl _ _) (unhide hXr) (fun k hk => ⟨unhide hTr k hk, unhide hown k hk _ _ _ (unhide Hpg).own⟩) ⟨rfl, rfl, rfl, rfl⟩ (by omega) ?_)
        intro v2 w2 hg2 hb2
        have Hg2 := hide hg2
        clear hg2
        go_wp2
        go_roundw
        case rel => exact ⟨ps.length + 1, _, by go_num, by omega, by rw [List.map_append, unhide Hps, tk_lt hm]; rfl, unhide Hg2, hbr.trans hb2⟩
        case measure => simp [intOf]; omega
      · have hmI : ¬ (ps.length : Int) < (m : Int) := by omega
        go_wp2_with fail
        refine (l1empty_w _).mono ?_
        rintro e w2 ⟨v2, rfl, hg2, hb2⟩
        obtain ⟨p2, d2, rfl⟩ := hg2.form
        have hYe := hide (hg2.els (Nice.op 0 0 0 (by simp [In64]) (by simp [In64]) (by simp [In64])))
        have hXe2 := hide ((unhide hXe).below hb2 (Nat.le_refl _))
        clear hg2
        go_wp2_with fail
        refine (l1alt_w _ _ X [⟨0, [], 0, 0⟩] _ (unhide hXe2) (unhide hYe) (by omega) (by simp) (unhide NX).len (Nice.op 0 0 0 (by simp [In64]) (by simp [In64]) (by simp [In64])).len).mono ?_
        rintro e w4 ⟨v4, rfl, hg4, hb4⟩
        obtain ⟨p4, d4, rfl⟩ : ∃ a c, v4 = .slice a (X.length + 1 + 1) c := by have := hg4.form; rwa [List.length_append, List.length_append] at this
        have Hf4 := hide (hg4.base hb2.size).foot
        have hb24 : Below wr.heap.size wr w4 := hb2.trans (hb4.mono hb2.size)
        clear hg4 hb4 hb2 hXe2 hYe
        go_wp2_with (at_builtin; refine app_part ⟨optE X, .slice p4 (X.length + 1 + 1) d4, Rng wr.heap.size w4.heap.size⟩ rfl _ _ rfl rfl rfl (unhide Hpg) hzr hb24 (unhide Hf4) (fun k hk => ⟨hk.2, fun e => by have := ((unhide Hpg).own.lt k e).2; unfold Rng at hk; omega⟩) ⟨rfl, rfl, rfl, rfl⟩ (by omega) ?_)
        intro v5 w5 hg5 hb5
        have Hg5 := hide hg5
        clear hg5
        go_wp2
        go_roundw
        case rel => exact ⟨ps.length + 1, _, by go_num, by omega, by rw [List.map_append, unhide Hps, tk_ge (by omega)]; rfl, unhide Hg5, hbr.trans hb5⟩
        case measure => simp [intOf]; omega
    · have hltI : ¬ (ps.length : Int) < (M : Int) := by omega
      have hjn : Hid (jn (ps.map Pt.P) = jn (partsX X m M)) := by
        show jn (ps.map Pt.P) = jn (partsX X m M)
        rw [unhide Hps, show ps.length = M by omega, tk_all o2]
      have hpl : ps.length ≤ 251 := by omega
      have hpn : Hid (∀ p ∈ ps, Nice p.P ∧ p.P.length ≤ 3002) := fun p hp => by
        have h1 : p.P ∈ tk X m ps.length := by rw [← unhide Hps]; exact List.mem_map_of_mem hp
        rcases tk_mem h1 with e | e
        · rw [e]; exact ⟨unhide NX, by omega⟩
        · rw [e]; exact ⟨optE_nice (unhide NX), by unfold optE; rw [List.length_append, List.length_append]; simp; omega⟩
      obtain ⟨w3, hw3⟩ : ∃ w3, w3 = wr := ⟨_, rfl⟩
      have Hg3 : Hid (PGrow w1.heap.size w3 (.slice pa ps.length pc) ps) := by rw [hw3]; exact unhide Hpg
      have hB3 : Below w1.heap.size w1 w3 := by rw [hw3]; exact hbr
      have hB : Below w.heap.size w w3 := hB1.trans (hB3.mono (by omega))
      have hz3 := hB3.size
      rw [← hw3]
      rw [← hw3] at q0 q1 q2 q3
      clear hw3 hbr Hpg hXr hTr hown hXe
      go_wp2
      go_loopw [13, 14] (fun ov i wl => ∃ k : Nat, k ≤ ps.length ∧ i = .int .i64 k ∧ GrowE w3.heap.size wl ov (jn ((ps.take k).map Pt.P)) ∧ Below w3.heap.size w3 wl) (fun _ i _ => ps.length - (intOf i).toNat)
      case atStart => exact ⟨0, Nat.zero_le _, rfl, GrowE.nil _ _, Below.refl _ _⟩
      case round =>
        obtain ⟨k, hk, rfl, hgo, hbl⟩ := hrel
        have hzl := hbl.size
        by_cases hlt2 : k < ps.length
        · have hmem := List.getElem_mem hlt2
          have hE := (unhide Hg3).els _ hmem
          have hTk := (unhide Hg3).blk _ hmem
          have hNk := unhide hpn _ hmem
          have hEl := hide ((hE.same (w' := wr) (fun k hk => hbl.block k (hTk k hk).1)).at (N := wr.heap.size) (fun k hk => Nat.lt_of_lt_of_le (hTk k hk).1 hzl) hNk.1.num)
          obtain ⟨g, cap, ev, hcell⟩ := own_at_g (own_keep (unhide Hg3).own hbl (Nat.le_refl _)) (by omega)
          simp only [Value.slice.injEq, true_and] at ev
          obtain ⟨rfl, rfl⟩ := ev
          have hx := hcell k hlt2
          rw [List.getElem?_map, List.getElem?_eq_getElem hlt2, Option.map_some] at hx
          have Hnext := hide (jn_next hlt2)
          obtain ⟨sa2, sc2, hsv, -⟩ := hE
          have Hsv := hide hsv
          rw [hsv] at hx hEl
          have hNk1 := hide hNk.1
          have hNk2 := hNk.2
          clear hcell hTk hmem hNk hsv
          generalize (ps[k]).P = P at *
          have hlt3 : (k : Int) < (ps.length : Int) := by omega
          obtain ⟨qa, qc, rfl⟩ := hgo.form
          obtain ⟨os, hos, hgp⟩ := hgo
          have hol : os.length = (jn ((ps.take k).map Pt.P)).length := by rw [← hos, List.length_map]
          have hjl := jn_len ((ps.take k).map Pt.P) (fun p hp => by obtain ⟨q, hq, rfl⟩ := List.mem_map.1 hp; exact (unhide hpn q (List.mem_of_mem_take hq)).2)
          rw [List.length_map, List.length_take] at hjl
          have hol2 : os.length ≤ 800000 := by omega
          have Hos := hide hos
          have Hgp := hide hgp
          clear hos hgp hjl
          have hJ0 : Hid (k = 0 → jn ((ps.take k).map Pt.P) = []) := fun e => by subst e; rfl
          generalize jn ((ps.take k).map Pt.P) = J at *
          go_wp2_with fail
          refine (l1copy_w _ P _ (unhide hEl) (by omega) (unhide hNk1).len).mono ?_
          rintro e w4 ⟨v4, rfl, hg4, hb4⟩
          obtain ⟨qb, qd, rfl⟩ := hg4.form
          obtain ⟨us, hus, hg4⟩ := hg4
          have hul : us.length = P.length := by rw [← hus, List.length_map]
          have Hus := hide hus
          have Hg4 := hide hg4
          clear hus hg4 hx hEl
          go_wp2_with (at_builtin; refine app_ops rfl _ _ rfl rfl rfl (unhide Hgp) hzl hb4 (unhide Hg4) (fun p hp => Pc.one ((unhide Hg4).set p hp)) (by omega) (by omega) ?_)
          intro v5 w5 hg5 hb5
          obtain ⟨qe, qf, rfl⟩ := own_is hg5.own
          have hB5 : Below w3.heap.size w3 w5 := hbl.trans hb5
          have hz5 := hB5.size
          have Hg5 := hide hg5
          clear hg5
          by_cases hk0 : k = 0
          · subst hk0
            have hfin : Hid (GrowE w3.heap.size w5 (.slice qe (os ++ us).length qf) (jn ((ps.take (0 + 1)).map Pt.P))) := ⟨_, by rw [unhide Hnext, if_pos rfl, List.map_append, unhide Hos, unhide Hus, unhide hJ0 rfl]; rfl, unhide Hg5⟩
            go_wp2
            exact ⟨⟨1, by omega, rfl, unhide hfin, hB5⟩, by simp [intOf]; omega⟩
          · have hk1 : (0 : Int) < (k : Int) := by omega
            go_wp2_with (at_builtin; refine app_op ⟨2, [], 0, 0⟩ (.slice none 0 0) (fun _ => False) rfl _ _ rfl rfl rfl (unhide Hg5) hz5 (Below.refl _ _) (SlF.none _) (fun k hk => hk.elim) rfl ⟨rfl, rfl, rfl, rfl⟩ (by rw [List.length_append]; omega) ?_)
            intro v6 w6 hg6 hb6
            have hfin : Hid (GrowE w3.heap.size w6 v6 (jn ((ps.take (k + 1)).map Pt.P))) := ⟨_, by rw [unhide Hnext, if_neg hk0]; simp [unhide Hos, unhide Hus, catE], hg6⟩
            clear hg6
            go_wp2
            exact ⟨⟨k + 1, by omega, by go_num, unhide hfin, hB5.trans hb6⟩, by simp [intOf]; omega⟩
        · obtain rfl : k = ps.length := by omega
          rw [List.take_length, unhide hjn] at hgo
          have Hgo := hide (hgo.base hB.size)
          clear hgo
          go_wp2
          go_ret
          exact ⟨_, rfl, unhide Hgo, hB.trans (hbl.mono hB.size)⟩

end Go.Proofs.YtjefklagedidmaaGreat
