import Derived.Test.YtjoaapoppcibdaaX5
namespace Go.Proofs.Ytjoaapoppcibdaa
open Go.RowKit

theorem own_at_g {base n e : Nat} {w : World} {v : Value} {xs : List Value} (h : w.ownsRow base e 1 v n xs) (hp : 0 < n) : ∃ g cap, v = .slice (some ⟨g, 0, none⟩) n cap ∧ ∀ j : Nat, j < n → w.cell? ⟨g, j, none⟩ = xs[j]? := by
  rcases h.2 with ⟨rfl, hz⟩ | ⟨g, cap, cur, rfl, hbg, hg, hnc, hcm, hcs, htake⟩
  · omega
  · exact ⟨g, cap, rfl, fun j hj => h.cellAt j (by omega)⟩
theorem jn_len (ps : List (List El)) (h : ∀ p ∈ ps, p.length ≤ 3002) : (jn ps).length ≤ ps.length * 3003 := by
  cases ps with
  | nil => simp [jn]
  | cons p r =>
    have key : ∀ (r : List (List El)) (acc : List El), (∀ p ∈ r, p.length ≤ 3002) → (r.foldl (fun acc q => acc ++ q ++ [catE]) acc).length ≤ acc.length + r.length * 3003 := by
      intro r
      induction r with
      | nil => intro acc _; simp
      | cons q r ih =>
        intro acc hq
        have h1 := ih (acc ++ q ++ [catE]) (fun p hp => hq p (by simp [hp]))
        have h2 := hq q (by simp)
        simp only [List.foldl_cons, List.length_cons, List.length_append, List.length_nil] at h1 ⊢
        omega
    have h1 := key r p (fun q hq => h q (by simp [hq]))
    have h2 := h p (by simp)
    simp only [jn, List.length_cons]
    omega
theorem jn_nice (ps : List (List El)) (h : ∀ p ∈ ps, Nice p) : Nice (jn ps) := by
  cases ps with
  | nil => exact Nice.nil
  | cons p r =>
    have key : ∀ (r : List (List El)) (acc : List El), Nice acc → (∀ p ∈ r, Nice p) → Nice (r.foldl (fun acc q => acc ++ q ++ [catE]) acc) := by
      intro r
      induction r with
      | nil => intro acc h _; exact h
      | cons q r ih =>
        intro acc ha hq
        exact ih _ ((ha.app (hq q (by simp))).app (Nice.op 2 0 0 (by simp [In64]) (by simp [In64]) (by simp [In64]))) (fun p hp => hq p (by simp [hp]))
    exact key r p (h p (by simp)) (fun q hq => h q (by simp [hq]))
theorem jn_next {ps : List Pt} {k : Nat} (h : k < ps.length) : jn ((ps.take (k + 1)).map Pt.P) = if k = 0 then (ps[k]).P else jn ((ps.take k).map Pt.P) ++ (ps[k]).P ++ [catE] := by
  rw [List.take_succ_eq_append_getElem h, List.map_append]
  by_cases e : k = 0
  · subst e; simp [jn]
  · rw [if_neg e]
    exact jn_snoc (by intro q; have := congrArg List.length q; rw [List.length_map, List.length_take, List.length_nil] at this; omega) _

set_option maxHeartbeats 4000000 in
set_option maxRecDepth 100000 in
theorem xpS_star (mn : Int) (x X : List El) (cx : Int) (sx : SegM x cx) (Hx : XpS x X) (o2 : 0 ≤ mn) (o3 : mn ≤ 250) (nx : Nice X) (lx : X.length ≤ 3000) : XpS (x ++ [⟨4, [], mn, -1⟩]) (jn (partsX X mn (-1))) := by
  intro v w hv hlen
  obtain ⟨a, cp, rfl, -, -⟩ := id hv
  obtain ⟨hlen2, hcap, b, off, rfl, hbn, hel⟩ := hv.last
  rw [hlen2] at hv hcap ⊢
  simp only [List.length_append, List.length_singleton] at hv hlen hlen2 hel hcap ⊢
  unfold maxLen at hcap
  obtain ⟨i1, i2, i3, sv, c0, c1, c2, c3, hints⟩ := hel
  obtain ⟨sa, sc, rfl, -, -, -⟩ := id hints
  simp only at c0 c2 c3
  clear hlen2 i1 i2 i3 hints
  have pl := sx.ne
  have hvL : ElsAt 0 w.heap.size w (.slice (some ⟨b, off, none⟩) x.length cp) x := hv.pre
  have HvL := hide hvL
  have NX := hide nx
  clear hvL hv nx
  go_enter Try.func17, Try.ntmps17
  go_wp2_with fail
  refine (Hx _ _ (by exact (unhide HvL).below (below1 w _) (Nat.le_refl _)) (by omega)).mono ?_
  rintro e w1 ⟨v1, rfl, hg1, hb1⟩
  obtain ⟨o1, d1, rfl⟩ := hg1.form
  have hB1 : Below w.heap.size w w1 := (below1 w _).trans (hb1.mono (by rw [sz_alloc]; omega))
  have hz1 := hb1.size
  rw [sz_alloc] at hz1
  have RA := hide ((Row4.new w 60 (.int .i64 4) (.slice sa 0 sc) (.int .i64 mn) (.int .i64 (-1))).below hb1 (by rw [sz_alloc]; omega))
  have hX0 := hg1.foot
  rw [sz_alloc] at hX0
  have HX := hide hX0
  obtain ⟨q0, q1, q2, q3, -⟩ := Row4.facts (unhide RA)
  clear hb1 hg1 hX0
  go_wp2
  go_loopw [9, 10] (fun pv i wr => ∃ j : Nat, i = .int .i64 ((j : Int) + 1) ∧ (j = 0 ∨ (j : Int) + 1 ≤ mn) ∧ PGrow w1.heap.size wr pv (List.replicate j ⟨X, .slice o1 X.length d1, Rng (w.heap.size + 1) w1.heap.size⟩) ∧ Below w1.heap.size w1 wr) (fun _ i _ => (mn - intOf i).toNat)
  case atStart => exact ⟨0, rfl, Or.inl rfl, PGrow.nil _ _, Below.refl _ _⟩
  case round =>
    obtain ⟨j, rfl, hj, hpg, hbr⟩ := hrel
    clear q0 q1 q2 q3
    obtain ⟨q0, q1, q2, q3, -⟩ := Row4.facts ((unhide RA).below hbr (by omega))
    have hzr := hbr.size
    have Hpg := hide hpg
    have hXr := hide ((unhide HX).same (w' := wr) (fun k hk => hbr.block k hk.2))
    have hTr : Hid (∀ k, Rng (w.heap.size + 1) w1.heap.size k → k < wr.heap.size) := fun k hk => Nat.lt_of_lt_of_le hk.2 hzr
    have hown : Hid (∀ k, Rng (w.heap.size + 1) w1.heap.size k → ∀ (u : Value) (n : Nat) (vs : List Value), wr.ownsRow w1.heap.size 28 1 u n vs → u.ownBlock ≠ some k) := fun k hk u n vs h e => by
      have := (h.lt k e).1
      unfold Rng at hk
      omega
    obtain ⟨pa, pc, rfl⟩ := own_is hpg.own
    rw [List.length_replicate] at Hpg ⊢
    clear hpg
    by_cases hlt : (j : Int) + 1 < mn
    · go_wp2_with (at_builtin; refine app_part ⟨X, .slice o1 X.length d1, Rng (w.heap.size + 1) w1.heap.size⟩ rfl _ _ rfl rfl rfl (unhide Hpg) hzr (Below.refl _ _) (unhide hXr) (fun k hk => ⟨unhide hTr k hk, unhide hown k hk _ _ _ (unhide Hpg).own⟩) ⟨rfl, rfl, rfl, rfl⟩ (by rw [List.length_replicate]; omega) ?_)
      intro v2 w2 hg2 hb2
      have Hg2 : Hid (PGrow w1.heap.size w2 v2 (List.replicate (j + 1) ⟨X, .slice o1 X.length d1, Rng (w.heap.size + 1) w1.heap.size⟩)) := by rw [List.replicate_succ']; exact hg2
      clear hg2
      go_wp2
      go_roundw
      case rel => exact ⟨j + 1, by go_num, Or.inr (by omega), unhide Hg2, hbr.trans hb2⟩
      case measure => simp [intOf]; omega
    · have hjj : Hid (j = (mn - 1).toNat) := by show j = (mn - 1).toNat; omega
      have hXe := hide ((unhide hXr).at (fun k hk => unhide hTr k hk) (unhide NX).num)
      by_cases h1 : 1 < mn
      · go_wp2_with fail
        refine (l1rep_w 1 (-1) _ X _ (unhide hXe) (by omega) (unhide NX).len).mono ?_
        rintro e w2 ⟨v2, rfl, hg2, hb2⟩
        obtain ⟨p2, d2, rfl⟩ : ∃ a c, v2 = .slice a (X.length + 1) c := by have := hg2.form; rwa [List.length_append] at this
        have Hf2 := hide hg2.foot
        clear hg2
        go_wp2_with (at_builtin; refine app_part ⟨X ++ [⟨4, [], 1, -1⟩], .slice p2 (X.length + 1) d2, Rng wr.heap.size w2.heap.size⟩ rfl _ _ rfl rfl rfl (unhide Hpg) hzr hb2 (unhide Hf2) (fun k hk => ⟨hk.2, fun e => by have := ((unhide Hpg).own.lt k e).2; unfold Rng at hk; omega⟩) ⟨rfl, rfl, rfl, rfl⟩ (by rw [List.length_replicate]; omega) ?_)
        intro v3 w3 hg3 hb3
        have hB3 : Below w1.heap.size w1 w3 := hbr.trans hb3
        obtain ⟨ps, hps⟩ : ∃ ps, ps = List.replicate j (⟨X, .slice o1 X.length d1, Rng (w.heap.size + 1) w1.heap.size⟩ : Pt) ++ [⟨X ++ [⟨4, [], 1, -1⟩], .slice p2 (X.length + 1) d2, Rng wr.heap.size w2.heap.size⟩] := ⟨_, rfl⟩
        rw [← hps] at hg3
        have hjn : Hid (jn (ps.map Pt.P) = jn (partsX X mn (-1))) := by
          rw [hps, List.map_append, List.map_replicate, unhide hjj]
          unfold partsX
          rw [if_pos rfl, if_pos h1]
          rfl
        have hpl : ps.length ≤ 251 := by rw [hps, List.length_append, List.length_replicate]; simp; omega
        have hpn : Hid (∀ p ∈ ps, Nice p.P ∧ p.P.length ≤ 3002) := fun p hp => by
          rw [hps] at hp
          rcases List.mem_append.1 hp with hp | hp
          · rw [(List.mem_replicate.1 hp).2]
            exact ⟨unhide NX, by show X.length ≤ 3002; omega⟩
          · rw [List.mem_singleton.1 hp]
            exact ⟨(unhide NX).app (Nice.op _ _ _ (by simp [In64]) (by unfold In64; omega) (by simp [In64])), by show (X ++ [_]).length ≤ 3002; rw [List.length_append]; simp; omega⟩
        have Hg3 := hide hg3
        have hB : Below w.heap.size w w3 := hB1.trans (hB3.mono (by omega))
        have hz3 := hB3.size
        obtain ⟨pa3, pc3, rfl⟩ := own_is hg3.own
        clear hg3 hps hb3 hb2 Hf2 q0 q1 q2 q3 Hpg hXr hTr hown hXe
        go_wp2
        go_loopw [13, 14] (fun ov i wl => ∃ k : Nat, k ≤ ps.length ∧ i = .int .i64 k ∧ GrowE w3.heap.size wl ov (jn ((ps.take k).map Pt.P)) ∧ Below w3.heap.size w3 wl) (fun _ i _ => ps.length - (intOf i).toNat)
        case atStart => exact ⟨0, Nat.zero_le _, rfl, GrowE.nil _ _, Below.refl _ _⟩
        case round =>
          obtain ⟨k, hk, rfl, hgo, hbl⟩ := hrel
          have hzl := hbl.size
          by_cases hlt2 : k < ps.length
          · have hmem := List.getElem_mem hlt2
            have hE := (unhide Hg3).els _ hmem
            have hTk := (unhide Hg3).blk _ hmem
            have hNk := unhide hpn _ hmem
            have hEl := hide ((hE.same (w' := wr) (fun k hk => hbl.block k (hTk k hk).1)).at (N := wr.heap.size) (fun k hk => Nat.lt_of_lt_of_le (hTk k hk).1 hzl) hNk.1.num)
            obtain ⟨g, cap, ev, hcell⟩ := own_at_g (own_keep (unhide Hg3).own hbl (Nat.le_refl _)) (by omega)
            simp only [Value.slice.injEq, true_and] at ev
            obtain ⟨rfl, rfl⟩ := ev
            have hx := hcell k hlt2
            rw [List.getElem?_map, List.getElem?_eq_getElem hlt2, Option.map_some] at hx
            have Hnext := hide (jn_next hlt2)
            obtain ⟨sa2, sc2, hsv, -⟩ := hE
            have Hsv := hide hsv
            rw [hsv] at hx hEl
            have hNk1 := hide hNk.1
            have hNk2 := hNk.2
            clear hcell hTk hmem hNk hsv
            generalize (ps[k]).P = P at *
            have hlt3 : (k : Int) < (ps.length : Int) := by omega
            obtain ⟨qa, qc, rfl⟩ := hgo.form
            obtain ⟨os, hos, hgp⟩ := hgo
            have hol : os.length = (jn ((ps.take k).map Pt.P)).length := by rw [← hos, List.length_map]
            have hjl := jn_len ((ps.take k).map Pt.P) (fun p hp => by obtain ⟨q, hq, rfl⟩ := List.mem_map.1 hp; exact (unhide hpn q (List.mem_of_mem_take hq)).2)
            rw [List.length_map, List.length_take] at hjl
            have hol2 : os.length ≤ 800000 := by omega
            have Hos := hide hos
            have Hgp := hide hgp
            clear hos hgp hjl
            have hJ0 : Hid (k = 0 → jn ((ps.take k).map Pt.P) = []) := fun e => by subst e; rfl
            generalize jn ((ps.take k).map Pt.P) = J at *
            go_wp2_with fail
            refine (l1copy_w _ P _ (unhide hEl) (by omega) (unhide hNk1).len).mono ?_
            rintro e w4 ⟨v4, rfl, hg4, hb4⟩
            obtain ⟨qb, qd, rfl⟩ := hg4.form
            obtain ⟨us, hus, hg4⟩ := hg4
            have hul : us.length = P.length := by rw [← hus, List.length_map]
            have Hus := hide hus
            have Hg4 := hide hg4
            clear hus hg4 hx hEl
            go_wp2_with (at_builtin; refine app_ops rfl _ _ rfl rfl rfl (unhide Hgp) hzl hb4 (unhide Hg4) (fun p hp => Pc.one ((unhide Hg4).set p hp)) (by omega) (by omega) ?_)
            intro v5 w5 hg5 hb5
            obtain ⟨qe, qf, rfl⟩ := own_is hg5.own
            have hB5 : Below w3.heap.size w3 w5 := hbl.trans hb5
            have hz5 := hB5.size
            have Hg5 := hide hg5
            clear hg5
            by_cases hk0 : k = 0
            · subst hk0
              have hfin : Hid (GrowE w3.heap.size w5 (.slice qe (os ++ us).length qf) (jn ((ps.take (0 + 1)).map Pt.P))) := ⟨_, by rw [unhide Hnext, if_pos rfl, List.map_append, unhide Hos, unhide Hus, unhide hJ0 rfl]; rfl, unhide Hg5⟩
              go_wp2
              exact ⟨⟨1, by omega, rfl, unhide hfin, hB5⟩, by simp [intOf]; omega⟩
            · have hk1 : (0 : Int) < (k : Int) := by omega
              go_wp2_with (at_builtin; refine app_op ⟨2, [], 0, 0⟩ (.slice none 0 0) (fun _ => False) rfl _ _ rfl rfl rfl (unhide Hg5) hz5 (Below.refl _ _) (SlF.none _) (fun k hk => hk.elim) rfl ⟨rfl, rfl, rfl, rfl⟩ (by rw [List.length_append]; omega) ?_)
              intro v6 w6 hg6 hb6
              have hfin : Hid (GrowE w3.heap.size w6 v6 (jn ((ps.take (k + 1)).map Pt.P))) := ⟨_, by rw [unhide Hnext, if_neg hk0]; simp [unhide Hos, unhide Hus, catE], hg6⟩
              clear hg6
              go_wp2
              exact ⟨⟨k + 1, by omega, by go_num, unhide hfin, hB5.trans hb6⟩, by simp [intOf]; omega⟩
          · obtain rfl : k = ps.length := by omega
            rw [List.take_length, unhide hjn] at hgo
            have Hgo := hide (hgo.base hB.size)
            clear hgo
            go_wp2
            go_ret
            exact ⟨_, rfl, unhide Hgo, hB.trans (hbl.mono hB.size)⟩
      · go_wp2_with fail
        refine (l1rep_w mn (-1) _ X _ (unhide hXe) (by omega) (unhide NX).len).mono ?_
        rintro e w2 ⟨v2, rfl, hg2, hb2⟩
        obtain ⟨p2, d2, rfl⟩ : ∃ a c, v2 = .slice a (X.length + 1) c := by have := hg2.form; rwa [List.length_append] at this
        have Hf2 := hide hg2.foot
        clear hg2
        go_wp2_with (at_builtin; refine app_part ⟨X ++ [⟨4, [], mn, -1⟩], .slice p2 (X.length + 1) d2, Rng wr.heap.size w2.heap.size⟩ rfl _ _ rfl rfl rfl (unhide Hpg) hzr hb2 (unhide Hf2) (fun k hk => ⟨hk.2, fun e => by have := ((unhide Hpg).own.lt k e).2; unfold Rng at hk; omega⟩) ⟨rfl, rfl, rfl, rfl⟩ (by rw [List.length_replicate]; omega) ?_)
        intro v3 w3 hg3 hb3
        have hB3 : Below w1.heap.size w1 w3 := hbr.trans hb3
        obtain ⟨ps, hps⟩ : ∃ ps, ps = List.replicate j (⟨X, .slice o1 X.length d1, Rng (w.heap.size + 1) w1.heap.size⟩ : Pt) ++ [⟨X ++ [⟨4, [], mn, -1⟩], .slice p2 (X.length + 1) d2, Rng wr.heap.size w2.heap.size⟩] := ⟨_, rfl⟩
        rw [← hps] at hg3
        have hjn : Hid (jn (ps.map Pt.P) = jn (partsX X mn (-1))) := by
          rw [hps, List.map_append, List.map_replicate, unhide hjj]
          unfold partsX
          rw [if_pos rfl, if_neg (by omega)]
          rfl
        have hpl : ps.length ≤ 251 := by rw [hps, List.length_append, List.length_replicate]; simp; omega
        have hpn : Hid (∀ p ∈ ps, Nice p.P ∧ p.P.length ≤ 3002) := fun p hp => by
          rw [hps] at hp
          rcases List.mem_append.1 hp with hp | hp
          · rw [(List.mem_replicate.1 hp).2]
            exact ⟨unhide NX, by show X.length ≤ 3002; omega⟩
          · rw [List.mem_singleton.1 hp]
            exact ⟨(unhide NX).app (Nice.op _ _ _ (by simp [In64]) (by unfold In64; omega) (by simp [In64])), by show (X ++ [_]).length ≤ 3002; rw [List.length_append]; simp; omega⟩
        have Hg3 := hide hg3
        have hB : Below w.heap.size w w3 := hB1.trans (hB3.mono (by omega))
        have hz3 := hB3.size
        obtain ⟨pa3, pc3, rfl⟩ := own_is hg3.own
        clear hg3 hps hb3 hb2 Hf2 q0 q1 q2 q3 Hpg hXr hTr hown hXe
        go_wp2
        go_loopw [13, 14] (fun ov i wl => ∃ k : Nat, k ≤ ps.length ∧ i = .int .i64 k ∧ GrowE w3.heap.size wl ov (jn ((ps.take k).map Pt.P)) ∧ Below w3.heap.size w3 wl) (fun _ i _ => ps.length - (intOf i).toNat)
        case atStart => exact ⟨0, Nat.zero_le _, rfl, GrowE.nil _ _, Below.refl _ _⟩
        case round =>
          obtain ⟨k, hk, rfl, hgo, hbl⟩ := hrel
          have hzl := hbl.size
          by_cases hlt2 : k < ps.length
          · have hmem := List.getElem_mem hlt2
            have hE := (unhide Hg3).els _ hmem
            have hTk := (unhide Hg3).blk _ hmem
            have hNk := unhide hpn _ hmem
            have hEl := hide ((hE.same (w' := wr) (fun k hk => hbl.block k (hTk k hk).1)).at (N := wr.heap.size) (fun k hk => Nat.lt_of_lt_of_le (hTk k hk).1 hzl) hNk.1.num)
            obtain ⟨g, cap, ev, hcell⟩ := own_at_g (own_keep (unhide Hg3).own hbl (Nat.le_refl _)) (by omega)
            simp only [Value.slice.injEq, true_and] at ev
            obtain ⟨rfl, rfl⟩ := ev
            have hx := hcell k hlt2
            rw [List.getElem?_map, List.getElem?_eq_getElem hlt2, Option.map_some] at hx
            have Hnext := hide (jn_next hlt2)
            obtain ⟨sa2, sc2, hsv, -⟩ := hE
            have Hsv := hide hsv
            rw [hsv] at hx hEl
            have hNk1 := hide hNk.1
            have hNk2 := hNk.2
            clear hcell hTk hmem hNk hsv
            generalize (ps[k]).P = P at *
            have hlt3 : (k : Int) < (ps.length : Int) := by omega
            obtain ⟨qa, qc, rfl⟩ := hgo.form
            obtain ⟨os, hos, hgp⟩ := hgo
            have hol : os.length = (jn ((ps.take k).map Pt.P)).length := by rw [← hos, List.length_map]
            have hjl := jn_len ((ps.take k).map Pt.P) (fun p hp => by obtain ⟨q, hq, rfl⟩ := List.mem_map.1 hp; exact (unhide hpn q (List.mem_of_mem_take hq)).2)
            rw [List.length_map, List.length_take] at hjl
            have hol2 : os.length ≤ 800000 := by omega
            have Hos := hide hos
            have Hgp := hide hgp
            clear hos hgp hjl
            have hJ0 : Hid (k = 0 → jn ((ps.take k).map Pt.P) = []) := fun e => by subst e; rfl
            generalize jn ((ps.take k).map Pt.P) = J at *
            go_wp2_with fail
            refine (l1copy_w _ P _ (unhide hEl) (by omega) (unhide hNk1).len).mono ?_
            rintro e w4 ⟨v4, rfl, hg4, hb4⟩
            obtain ⟨qb, qd, rfl⟩ := hg4.form
            obtain ⟨us, hus, hg4⟩ := hg4
            have hul : us.length = P.length := by rw [← hus, List.length_map]
            have Hus := hide hus
            have Hg4 := hide hg4
            clear hus hg4 hx hEl
            go_wp2_with (at_builtin; refine app_ops rfl _ _ rfl rfl rfl (unhide Hgp) hzl hb4 (unhide Hg4) (fun p hp => Pc.one ((unhide Hg4).set p hp)) (by omega) (by omega) ?_)
            intro v5 w5 hg5 hb5
            obtain ⟨qe, qf, rfl⟩ := own_is hg5.own
            have hB5 : Below w3.heap.size w3 w5 := hbl.trans hb5
            have hz5 := hB5.size
            have Hg5 := hide hg5
            clear hg5
            by_cases hk0 : k = 0
            · subst hk0
              have hfin : Hid (GrowE w3.heap.size w5 (.slice qe (os ++ us).length qf) (jn ((ps.take (0 + 1)).map Pt.P))) := ⟨_, by rw [unhide Hnext, if_pos rfl, List.map_append, unhide Hos, unhide Hus, unhide hJ0 rfl]; rfl, unhide Hg5⟩
              go_wp2
              exact ⟨⟨1, by omega, rfl, unhide hfin, hB5⟩, by simp [intOf]; omega⟩
            · have hk1 : (0 : Int) < (k : Int) := by omega
              go_wp2_with (at_builtin; refine app_op ⟨2, [], 0, 0⟩ (.slice none 0 0) (fun _ => False) rfl _ _ rfl rfl rfl (unhide Hg5) hz5 (Below.refl _ _) (SlF.none _) (fun k hk => hk.elim) rfl ⟨rfl, rfl, rfl, rfl⟩ (by rw [List.length_append]; omega) ?_)
              intro v6 w6 hg6 hb6
              have hfin : Hid (GrowE w3.heap.size w6 v6 (jn ((ps.take (k + 1)).map Pt.P))) := ⟨_, by rw [unhide Hnext, if_neg hk0]; simp [unhide Hos, unhide Hus, catE], hg6⟩
              clear hg6
              go_wp2
              exact ⟨⟨k + 1, by omega, by go_num, unhide hfin, hB5.trans hb6⟩, by simp [intOf]; omega⟩
          · obtain rfl : k = ps.length := by omega
            rw [List.take_length, unhide hjn] at hgo
            have Hgo := hide (hgo.base hB.size)
            clear hgo
            go_wp2
            go_ret
            exact ⟨_, rfl, unhide Hgo, hB.trans (hbl.mono hB.size)⟩

end Go.Proofs.Ytjoaapoppcibdaa
