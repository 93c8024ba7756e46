import Derived.Test.YtijejbdpagbmpaaDoorP9
import Derived.Deep.AppendLies
import Derived.Deep.RegionLaw
import Derived.Test.YtijejbdpagbmpaaDoorP10
import Derived.Test.YtijejbdpagbmpaaDoorP4
namespace Go.Proofs.YtijejbdpagbmpaaDoor
open Go.RowKit

/-- The first j parts of a counted repetition. -/
def tk (X : List El) (m j : Nat) : List (List El) := List.replicate (min j m) X ++ List.replicate (j - m) (optE X)
theorem tk_lt {X : List El} {m j : Nat} (h : j < m) : tk X m (j + 1) = tk X m j ++ [X] := by
  unfold tk
  rw [show min (j + 1) m = j + 1 by omega, show j + 1 - m = 0 by omega, show min j m = j by omega, show j - m = 0 by omega, List.replicate_succ']
  simp
theorem tk_ge {X : List El} {m j : Nat} (h : m ≤ j) : tk X m (j + 1) = tk X m j ++ [optE X] := by
  unfold tk
  rw [show min (j + 1) m = m by omega, show j + 1 - m = (j - m) + 1 by omega, show min j m = m by omega, List.replicate_succ', List.append_assoc]
theorem tk_all {X : List El} {m M : Nat} (h : m ≤ M) : tk X m M = partsX X m M := by
  unfold tk partsX
  rw [if_neg (by omega), show min M m = m by omega, show ((m : Int)).toNat = m by omega, show ((M : Int) - (m : Int)).toNat = M - m by omega]
theorem tk_mem {X : List El} {m j : Nat} {p : List El} (h : p ∈ tk X m j) : p = X ∨ p = optE X := by
  unfold tk at h
  rcases List.mem_append.1 h with h | h
  · exact Or.inl (List.mem_replicate.1 h).2
  · exact Or.inr (List.mem_replicate.1 h).2
theorem tk_len (X : List El) (m j : Nat) : (tk X m j).length = j := by unfold tk; simp; omega
theorem optE_nice {X : List El} (h : Nice X) : Nice (optE X) := (h.app (Nice.op 0 0 0 (by simp [In64]) (by simp [In64]) (by simp [In64]))).app (Nice.op 3 0 0 (by simp [In64]) (by simp [In64]) (by simp [In64]))

set_option maxHeartbeats 4000000 in
set_option maxRecDepth 100000 in
theorem xpS_count (m M : Nat) (x X : List El) (cx : Int) (sx : SegM x cx) (Hx : XpS x X) (o2 : m ≤ M) (o3 : M ≤ 250) (o4 : 0 < M) (nx : Nice X) (lx : X.length ≤ 3000) : XpS (x ++ [⟨4, [], m, M⟩]) (jn (partsX X m M)) := by
  intro v w hv hlen
  obtain ⟨a, cp, rfl, -, -⟩ := id hv
  obtain ⟨hlen2, hcap, b, off, rfl, hbn, hel⟩ := hv.last
  rw [hlen2] at hv hcap ⊢
  simp only [List.length_append, List.length_singleton] at hv hlen hlen2 hel hcap ⊢
  unfold maxLen at hcap
  obtain ⟨i1, i2, i3, sv, c0, c1, c2, c3, hints⟩ := hel
  obtain ⟨sa, sc, rfl, -, -, -⟩ := id hints
  simp only at c0 c2 c3
  clear hlen2 i1 i2 i3 hints
  have pl := sx.ne
  have hvL : ElsAt 0 w.heap.size w (.slice (some ⟨b, off, none⟩) x.length cp) x := hv.pre
  have HvL := hide hvL
  have NX := hide nx
  have hM0 : ((M : Int) == 0) = false := by simp; omega
  have hM1 : ((M : Int) == -1) = false := by rw [beq_eq_false_iff_ne]; omega
  clear hvL hv nx
  go_enter Tryd.func34, Tryd.ntmps34
  go_wp2_with fail
  refine (Hx _ _ (by exact (unhide HvL).below (below1 w _) (Nat.le_refl _)) (by omega)).mono ?_
  rintro e w1 ⟨v1, rfl, hg1, hb1⟩
  obtain ⟨o1, d1, rfl⟩ := hg1.form
  have hB1 : Below w.heap.size w w1 := (below1 w _).trans (hb1.mono (by rw [sz_alloc]; omega))
  have hz1 := hb1.size
  rw [sz_alloc] at hz1
  have RA := hide ((Row4.new w 44 (.int .i64 4) (.slice sa 0 sc) (.int .i64 (m : Int)) (.int .i64 (M : Int))).below hb1 (by rw [sz_alloc]; omega))
  have hX0 := hg1.foot
  rw [sz_alloc] at hX0
  have HX := hide hX0
  obtain ⟨q0, q1, q2, q3, -⟩ := Row4.facts (unhide RA)
  clear hb1 hg1 hX0
  go_wp2
  go_loopw [9, 12] (fun pv i wr => ∃ (j : Nat) (ps : List Pt), i = .int .i64 (j : Int) ∧ j ≤ M ∧ ps.map Pt.P = tk X m j ∧ PGrow w1.heap.size wr pv ps ∧ Below w1.heap.size w1 wr) (fun _ i _ => M - (intOf i).toNat)
  case atStart => exact ⟨0, [], rfl, Nat.zero_le _, by simp [tk], PGrow.nil _ _, Below.refl _ _⟩
  case round =>
    obtain ⟨j, ps, rfl, hj, hps, hpg, hbr⟩ := hrel
    clear q0 q1 q2 q3
    obtain ⟨q0, q1, q2, q3, -⟩ := Row4.facts ((unhide RA).below hbr (by omega))
    have hzr := hbr.size
    have Hpg := hide hpg
    have Hps := hide hps
    have hpj : ps.length = j := by rw [← tk_len X m j, ← hps, List.length_map]
    have hXr := hide ((unhide HX).same (w' := wr) (fun k hk => hbr.block k hk.2))
    have hTr : Hid (∀ k, Rng (w.heap.size + 1) w1.heap.size k → k < wr.heap.size) := fun k hk => Nat.lt_of_lt_of_le hk.2 hzr
    have hown : Hid (∀ k, Rng (w.heap.size + 1) w1.heap.size k → ∀ (u : Value) (n : Nat) (vs : List Value), wr.ownsRow w1.heap.size 31 1 u n vs → u.ownBlock ≠ some k) := fun k hk u n vs h e => by
      have := (h.lt k e).1
      unfold Rng at hk
      omega
    have hXe := hide ((unhide hXr).at (fun k hk => unhide hTr k hk) (unhide NX).num)
    obtain ⟨pa, pc, rfl⟩ := own_is hpg.own
    clear hpg hps
    subst hpj
    by_cases hlt : ps.length < M
    · have hltI : (ps.length : Int) < (M : Int) := by omega
      by_cases hm : ps.length < m
      · have hmI : (ps.length : Int) < (m : Int) := by omega
        go_wp2_with (at_builtin; refine app_part ⟨X, .slice o1 X.length d1, Rng (w.heap.size + 1) w1.heap.size⟩ rfl _ _ rfl rfl rfl (unhide Hpg) hzr (Below.refl _ _) (unhide hXr) (fun k hk => ⟨unhide hTr k hk, unhide hown k hk _ _ _ (unhide Hpg).own⟩) ⟨rfl, rfl, rfl, rfl⟩ (by omega) ?_)
        intro v2 w2 hg2 hb2
        have Hg2 := hide hg2
        clear hg2
        go_wp2
        go_roundw
        case rel => exact ⟨ps.length + 1, _, by go_num, by omega, by rw [List.map_append, unhide Hps, tk_lt hm]; rfl, unhide Hg2, hbr.trans hb2⟩
        case measure => simp [intOf]; omega
      · have hmI : ¬ (ps.length : Int) < (m : Int) := by omega
        go_wp2_with fail
        refine (l1empty_w _).mono ?_
        rintro e w2 ⟨v2, rfl, hg2, hb2⟩
        obtain ⟨p2, d2, rfl⟩ := hg2.form
        have hYe := hide (hg2.els (Nice.op 0 0 0 (by simp [In64]) (by simp [In64]) (by simp [In64])))
        have hXe2 := hide ((unhide hXe).below hb2 (Nat.le_refl _))
        clear hg2
        go_wp2_with fail
        refine (l1alt_w _ _ X [⟨0, [], 0, 0⟩] _ (unhide hXe2) (unhide hYe) (by omega) (by simp) (unhide NX).len (Nice.op 0 0 0 (by simp [In64]) (by simp [In64]) (by simp [In64])).len).mono ?_
        rintro e w4 ⟨v4, rfl, hg4, hb4⟩
        obtain ⟨p4, d4, rfl⟩ : ∃ a c, v4 = .slice a (X.length + 1 + 1) c := by have := hg4.form; rwa [List.length_append, List.length_append] at this
        have Hf4 := hide (hg4.base hb2.size).foot
        have hb24 : Below wr.heap.size wr w4 := hb2.trans (hb4.mono hb2.size)
        clear hg4 hb4 hb2 hXe2 hYe
        go_wp2_with (at_builtin; refine app_part ⟨optE X, .slice p4 (X.length + 1 + 1) d4, Rng wr.heap.size w4.heap.size⟩ rfl _ _ rfl rfl rfl (unhide Hpg) hzr hb24 (unhide Hf4) (fun k hk => ⟨hk.2, fun e => by have := ((unhide Hpg).own.lt k e).2; unfold Rng at hk; omega⟩) ⟨rfl, rfl, rfl, rfl⟩ (by omega) ?_)
        intro v5 w5 hg5 hb5
        have Hg5 := hide hg5
        clear hg5
        go_wp2
        go_roundw
        case rel => exact ⟨ps.length + 1, _, by go_num, by omega, by rw [List.map_append, unhide Hps, tk_ge (by omega)]; rfl, unhide Hg5, hbr.trans hb5⟩
        case measure => simp [intOf]; omega
    · have hltI : ¬ (ps.length : Int) < (M : Int) := by omega
      have hjn : Hid (jn (ps.map Pt.P) = jn (partsX X m M)) := by
        show jn (ps.map Pt.P) = jn (partsX X m M)
        rw [unhide Hps, show ps.length = M by omega, tk_all o2]
      have hpl : ps.length ≤ 251 := by omega
      have hpn : Hid (∀ p ∈ ps, Nice p.P ∧ p.P.length ≤ 3002) := fun p hp => by
        have h1 : p.P ∈ tk X m ps.length := by rw [← unhide Hps]; exact List.mem_map_of_mem hp
        rcases tk_mem h1 with e | e
        · rw [e]; exact ⟨unhide NX, by omega⟩
        · rw [e]; exact ⟨optE_nice (unhide NX), by unfold optE; rw [List.length_append, List.length_append]; simp; omega⟩
      obtain ⟨w3, hw3⟩ : ∃ w3, w3 = wr := ⟨_, rfl⟩
      have Hg3 : Hid (PGrow w1.heap.size w3 (.slice pa ps.length pc) ps) := by rw [hw3]; exact unhide Hpg
      have hB3 : Below w1.heap.size w1 w3 := by rw [hw3]; exact hbr
      have hB : Below w.heap.size w w3 := hB1.trans (hB3.mono (by omega))
      have hz3 := hB3.size
      rw [← hw3]
      rw [← hw3] at q0 q1 q2 q3
      clear hw3 hbr Hpg hXr hTr hown hXe
      go_wp2
      go_loopw [13, 14] (fun ov i wl => ∃ k : Nat, k ≤ ps.length ∧ i = .int .i64 k ∧ GrowE w3.heap.size wl ov (jn ((ps.take k).map Pt.P)) ∧ Below w3.heap.size w3 wl) (fun _ i _ => ps.length - (intOf i).toNat)
      case atStart => exact ⟨0, Nat.zero_le _, rfl, GrowE.nil _ _, Below.refl _ _⟩
      case round =>
        obtain ⟨k, hk, rfl, hgo, hbl⟩ := hrel
        have hzl := hbl.size
        by_cases hlt2 : k < ps.length
        · have hmem := List.getElem_mem hlt2
          have hE := (unhide Hg3).els _ hmem
          have hTk := (unhide Hg3).blk _ hmem
          have hNk := unhide hpn _ hmem
          have hEl := hide ((hE.same (w' := wr) (fun k hk => hbl.block k (hTk k hk).1)).at (N := wr.heap.size) (fun k hk => Nat.lt_of_lt_of_le (hTk k hk).1 hzl) hNk.1.num)
          obtain ⟨g, cap, ev, hcell⟩ := own_at_g (own_keep (unhide Hg3).own hbl (Nat.le_refl _)) (by omega)
          simp only [Value.slice.injEq, true_and] at ev
          obtain ⟨rfl, rfl⟩ := ev
          have hx := hcell k hlt2
          rw [List.getElem?_map, List.getElem?_eq_getElem hlt2, Option.map_some] at hx
          have Hnext := hide (jn_next hlt2)
          obtain ⟨sa2, sc2, hsv, -⟩ := hE
          have Hsv := hide hsv
          rw [hsv] at hx hEl
          have hNk1 := hide hNk.1
          have hNk2 := hNk.2
          clear hcell hTk hmem hNk hsv
          generalize (ps[k]).P = P at *
          have hlt3 : (k : Int) < (ps.length : Int) := by omega
          obtain ⟨qa, qc, rfl⟩ := hgo.form
          obtain ⟨os, hos, hgp⟩ := hgo
          have hol : os.length = (jn ((ps.take k).map Pt.P)).length := by rw [← hos, List.length_map]
          have hjl := jn_len ((ps.take k).map Pt.P) (fun p hp => by obtain ⟨q, hq, rfl⟩ := List.mem_map.1 hp; exact (unhide hpn q (List.mem_of_mem_take hq)).2)
          rw [List.length_map, List.length_take] at hjl
          have hol2 : os.length ≤ 800000 := by omega
          have Hos := hide hos
          have Hgp := hide hgp
          clear hos hgp hjl
          have hJ0 : Hid (k = 0 → jn ((ps.take k).map Pt.P) = []) := fun e => by subst e; rfl
          generalize jn ((ps.take k).map Pt.P) = J at *
          go_wp2_with fail
          refine (l1copy_w _ P _ (unhide hEl) (by omega) (unhide hNk1).len).mono ?_
          rintro e w4 ⟨v4, rfl, hg4, hb4⟩
          obtain ⟨qb, qd, rfl⟩ := hg4.form
          obtain ⟨us, hus, hg4⟩ := hg4
          have hul : us.length = P.length := by rw [← hus, List.length_map]
          have Hus := hide hus
          have Hg4 := hide hg4
          clear hus hg4 hx hEl
          go_wp2_with (at_builtin; refine app_ops rfl _ _ rfl rfl rfl (unhide Hgp) hzl hb4 (unhide Hg4) (fun p hp => Pc.one ((unhide Hg4).set p hp)) (by omega) (by omega) ?_)
          intro v5 w5 hg5 hb5
          obtain ⟨qe, qf, rfl⟩ := own_is hg5.own
          have hB5 : Below w3.heap.size w3 w5 := hbl.trans hb5
          have hz5 := hB5.size
          have Hg5 := hide hg5
          clear hg5
          by_cases hk0 : k = 0
          · subst hk0
            have hfin : Hid (GrowE w3.heap.size w5 (.slice qe (os ++ us).length qf) (jn ((ps.take (0 + 1)).map Pt.P))) := ⟨_, by rw [unhide Hnext, if_pos rfl, List.map_append, unhide Hos, unhide Hus, unhide hJ0 rfl]; rfl, unhide Hg5⟩
            go_wp2
            exact ⟨⟨1, by omega, rfl, unhide hfin, hB5⟩, by simp [intOf]; omega⟩
          · have hk1 : (0 : Int) < (k : Int) := by omega
            go_wp2_with (at_builtin; refine app_op ⟨2, [], 0, 0⟩ (.slice none 0 0) (fun _ => False) rfl _ _ rfl rfl rfl (unhide Hg5) hz5 (Below.refl _ _) (SlF.none _) (fun k hk => hk.elim) rfl ⟨rfl, rfl, rfl, rfl⟩ (by rw [List.length_append]; omega) ?_)
            intro v6 w6 hg6 hb6
            have hfin : Hid (GrowE w3.heap.size w6 v6 (jn ((ps.take (k + 1)).map Pt.P))) := ⟨_, by rw [unhide Hnext, if_neg hk0]; simp [unhide Hos, unhide Hus, catE], hg6⟩
            clear hg6
            go_wp2
            exact ⟨⟨k + 1, by omega, by go_num, unhide hfin, hB5.trans hb6⟩, by simp [intOf]; omega⟩
        · obtain rfl : k = ps.length := by omega
          rw [List.take_length, unhide hjn] at hgo
          have Hgo := hide (hgo.base hB.size)
          clear hgo
          go_wp2
          go_ret
          exact ⟨_, rfl, unhide Hgo, hB.trans (hbl.mono hB.size)⟩

end Go.Proofs.YtijejbdpagbmpaaDoor

namespace Go.Proofs.YtijejbdpagbmpaaDoor
open Go.RowKit

theorem joinParts_l (base n : Nat) (v : Value) (vals : List Value) (w : World) (hown : w.ownsRow base 52 1 v n vals) (hn : 0 < n) (hif : ∀ u ∈ vals, ∃ T x, u = .iface T x) (hl : n ≤ 1000000) :
    Calls Tryd.prog 71 #[v] w fun e w' => e = .returned (jV vals) ∧ w' = w := by
  have h1 := hown.1
  rw [Nat.mul_one] at h1
  cases vals with
  | nil => simp at h1; omega
  | cons p r =>
    have e : n = r.length + 1 := by rw [← h1]; rfl
    subst e
    exact joinParts_any base v p r w hown hif (by omega)

def partsV (U : Value) (mn mx : Int) : List Value :=
  if mx = -1 then List.replicate (mn - 1).toNat U ++ [rV U (if 1 < mn then 1 else mn) (-1)]
  else List.replicate mn.toNat U ++ List.replicate (mx - mn).toNat (aV U eV)
def repV (U : Value) (mn mx : Int) : Value := if mx = 0 then eV else jV (partsV U mn mx)

/-- The program expands this node to that. -/
def ExpV (u U : Value) : Prop := (∃ T x, U = .iface T x) ∧ ∀ w, Calls Tryd.prog 43 #[u] w fun e w' => e = .returned U ∧ Below w.heap.size w w'

theorem own_of_below {base n m e size : Nat} {w w' : World} {v : Value} {xs : List Value} (h : w.ownsRow base e size v n xs) (hb : Below m w w') (hm : w.heap.size ≤ m) : w'.ownsRow base e size v n xs := own_keep h hb hm

theorem copies_k (T : TypeId) (y : Value) (n : Int) (k : Nat) (hk : n.toNat = k) (w : World) (hn : n ≤ 1000) :
    Calls Tryd.prog 72 #[.iface T y, .int .i64 n] w fun e w' => ∃ v, e = .returned v ∧ w'.ownsRow w.heap.size 52 1 v k (List.replicate k (.iface T y)) ∧ Below w.heap.size w w' := by
  subst hk
  exact copies_any T y n w hn

theorem own_base {b b' e size n : Nat} {w : World} {v : Value} {xs : List Value} (h : w.ownsRow b e size v n xs) (hb : b = b') : w.ownsRow b' e size v n xs := hb ▸ h

set_option maxHeartbeats 2000000 in
theorem expandRep_zero (T : TypeId) (y : Value) (mn : Int) (w : World) :
    Calls Tryd.prog 61 #[.agg #[.iface T y, .int .i64 mn, .int .i64 0]] w fun e w' => e = .returned eV ∧ Below w.heap.size w w' := by
  go_enter Tryd.func61, Tryd.ntmps61
  go_wp2
  go_ret
  exact ⟨rfl, below1 w _⟩

set_option maxHeartbeats 2000000 in
set_option maxRecDepth 100000 in
theorem expandRep_star (T : TypeId) (y : Value) (T' : TypeId) (y' : Value) (mn : Int) (w : World) (h : ExpV (.iface T y) (.iface T' y')) (o2 : 0 ≤ mn) (o3 : mn ≤ 250) :
    Calls Tryd.prog 61 #[.agg #[.iface T y, .int .i64 mn, .int .i64 (-1)]] w fun e w' => e = .returned (jV (partsV (.iface T' y') mn (-1))) ∧ Below w.heap.size w w' := by
  obtain ⟨i0, hi, hz0, hz1, hz2⟩ := info_parts Tryd.info52
  have HE := hide h.2
  clear h
  have hw2 : IntKind.i64.wrap (mn - 1) = mn - 1 := by rw [IntKind.wrap_i64]; omega
  have hw1 : wrap64 (mn - 1) = mn - 1 := by unfold wrap64; omega
  obtain ⟨K, hK0⟩ : ∃ K : Nat, (mn - 1).toNat = K := ⟨_, rfl⟩
  have hK1 : K ≤ 250 := by omega
  have HK := hide hK0
  clear hK0
  by_cases h1 : 1 < mn
  · have hmi : min mn 1 = 1 := by omega
    go_enter Tryd.func61, Tryd.ntmps61
    go_wp2_with fail
    refine (unhide HE _).mono ?_
    rintro e w1 ⟨rfl, hb1⟩
    have hB1 : Below w.heap.size w w1 := (below1 w _).trans (hb1.mono (by rw [sz_alloc]; omega))
    obtain ⟨hcc, -⟩ := bcell hb1
    have hz1' := hb1.size
    rw [sz_alloc] at hz1'
    have q0 : w1.cell? ⟨w.heap.size, 0, none⟩ = some (.iface T y) := by rw [hcc _ _ (by rw [sz_alloc]; omega)]; simp
    have q1 : w1.cell? ⟨w.heap.size, 1, none⟩ = some (.int .i64 mn) := by rw [hcc _ _ (by rw [sz_alloc]; omega)]; simp
    have q2 : w1.cell? ⟨w.heap.size, 2, none⟩ = some (.int .i64 (-1)) := by rw [hcc _ _ (by rw [sz_alloc]; omega)]; simp
    have hlt1 : w.heap.size < w1.heap.size := by omega
    clear hb1 hcc
    have hst : Hid (∀ (w2 w3 : World) (v3 : Value), Below (w1.heap.size + 1) (w1.alloc (.cells #[.iface T' y', .int .i64 1, .int .i64 (-1)] 89)) w2 → Below (w1.heap.size + 1) w2 w3 → Below w.heap.size w w3) := fun w2 w3 v3 a1 a2 =>
      hB1.trans (((below1 w1 _).mono (by omega)).trans ((a1.mono (by omega)).trans (a2.mono (by omega))))
    have hJ : Hid (List.replicate K (.iface T' y') ++ [.iface 89 (.agg #[.iface T' y', .int .i64 1, .int .i64 (-1)])] = partsV (.iface T' y') mn (-1)) := by
      unfold partsV
      rw [if_pos rfl, unhide HK]
      first | rw [if_pos h1] | rw [if_neg (by omega)]
      rfl
    go_wp2_with fail
    go_region_law (((first | (refine step_call 72 #[.iface T' y', .int .i64 (mn - 1)] rfl (by kernel_rfl) (copies_k T' y' (mn - 1) K (unhide HK) _ (by omega)) ?_; rintro e w2 ⟨v2, rfl, hown2, hb2⟩; refine ⟨_, rfl, ?_⟩; have hb2' : Below (w1.heap.size + 1) (w1.alloc (.cells #[.iface T' y', .int .i64 1, .int .i64 (-1)] 89)) w2 := ⟨hb2.os, hb2.tape, hb2.output, hb2.size, fun k hk => hb2.block k (by simpa using hk)⟩; have hz2' : w1.heap.size + 1 ≤ w2.heap.size := (by have := hb2'.size; rwa [sz_alloc] at this); have c0 : w2.cell? ⟨w1.heap.size, 0, none⟩ = some (.iface T' y') := (by rw [hb2'.cell (p := ⟨w1.heap.size, 0, none⟩) (by show w1.heap.size < w1.heap.size + 1; omega)]; simp); have c1 : w2.cell? ⟨w1.heap.size, 1, none⟩ = some (.int .i64 1) := (by rw [hb2'.cell (p := ⟨w1.heap.size, 1, none⟩) (by show w1.heap.size < w1.heap.size + 1; omega)]; simp); have c2 : w2.cell? ⟨w1.heap.size, 2, none⟩ = some (.int .i64 (-1)) := (by rw [hb2'.cell (p := ⟨w1.heap.size, 2, none⟩) (by show w1.heap.size < w1.heap.size + 1; omega)]; simp); have Hown2 : Hid (w2.ownsRow (w1.heap.size + 1) 52 1 v2 K (List.replicate K (.iface T' y'))) := own_base hown2 (sz_alloc w1 (.cells #[.iface T' y', .int .i64 1, .int .i64 (-1)] 89)); clear hown2 hb2) | (refine step_call 72 #[.iface T' y', .int .i64 (mn - 1)] rfl (by kernel_rfl) (copies_k T' y' (mn - 1) K (unhide HK) _ (by omega)) ?_; rintro e w2 ⟨v2, rfl, hown2, hb2⟩; refine ⟨_, rfl, ?_⟩; have hb2' : Below (w1.heap.size + 1) (w1.alloc (.cells #[.iface T' y', .int .i64 1, .int .i64 (-1)] 89)) w2 := (below1 _ (.cells #[.iface 89 (.agg #[.iface T' y', .int .i64 1, .int .i64 (-1)])] 52)).mono (by rw [sz_alloc]; omega) |>.trans ⟨hb2.os, hb2.tape, hb2.output, hb2.size, fun k hk => hb2.block k (by simp; omega)⟩; have hz2' : w1.heap.size + 1 ≤ w2.heap.size := (by have := hb2'.size; rwa [sz_alloc] at this); have hnw : w2.cell? ⟨w1.heap.size + 1, 0, none⟩ = some (.iface 89 (.agg #[.iface T' y', .int .i64 1, .int .i64 (-1)])) := (by rw [hb2.cell (p := ⟨w1.heap.size + 1, 0, none⟩) (by show w1.heap.size + 1 < _; simp)]; simp); have Hown2 : Hid (w2.ownsRow (w1.heap.size + 1) 52 1 v2 K (List.replicate K (.iface T' y'))) := own_low hown2 (by simp); have Hnw := hide hnw; clear hown2 hb2 hnw) | (refine step_append_lies _ rfl (.tmp 26) (.tmp 29) 101 rfl (w1.heap.size + 1) 52 i0 .nilIface 1 16 Tryd.underlying101 hi hz0 hz1 hz2 rfl (by decide) v2 K (List.replicate K (.iface T' y')) (by simp [Act.eval]) (by refine Pushd.own (w := w2) (o := (.cells #[.iface 89 (.agg #[.iface T' y', .int .i64 1, .int .i64 (-1)])] 52)) ?_ (unhide Hown2); exact ⟨rfl, rfl, rfl, rfl⟩) ⟨w2.heap.size, 0, none⟩ 1 1 [.iface 89 (.agg #[.iface T' y', .int .i64 1, .int .i64 (-1)])] (by simp [Act.eval]) rfl (by refine Pushd.news (w := w2) (cs := #[.iface 89 (.agg #[.iface T' y', .int .i64 1, .int .i64 (-1)])]) (t := 52) ?_; exact ⟨rfl, rfl, rfl, rfl⟩) (fun u hu => by obtain rfl := List.mem_singleton.1 hu; rfl) (by decide) (by unfold maxLen; omega) (by omega) (by show w1.heap.size + 1 ≤ (w2.alloc _).heap.size; rw [sz_alloc]; omega) (w2.heap.size + 1) (sz_alloc w2 _) (fun g cap' w3 r1 r2 r3 r4 => ?_); have hB3 : Below (w1.heap.size + 1) w2 w3 := (((below1 w2 _).mono hz2').grown r2 (by show w1.heap.size + 1 ≤ (w2.alloc _).heap.size; rw [sz_alloc]; omega) (fun k hk => ((unhide Hown2).lt k hk).1)); have R1 := hide r1; clear r1 r2 r3 r4) | (refine step_append_lies _ rfl (.tmp 26) (.tmp 29) 101 rfl (w1.heap.size + 1) 52 i0 .nilIface 1 16 Tryd.underlying101 hi hz0 hz1 hz2 rfl (by decide) v2 K (List.replicate K (.iface T' y')) (by simp [Act.eval]) (unhide Hown2) ⟨w1.heap.size + 1, 0, none⟩ 1 1 [.iface 89 (.agg #[.iface T' y', .int .i64 1, .int .i64 (-1)])] (by simp [Act.eval]) rfl (cell_one (unhide Hnw)) (fun u hu => by obtain rfl := List.mem_singleton.1 hu; rfl) (by decide) (by unfold maxLen; omega) (by omega) hz2' w2.heap.size rfl (fun g cap' w3 r1 r2 r3 r4 => ?_); have hB3 : Below (w1.heap.size + 1) w2 w3 := ((Below.refl (w1.heap.size + 1) w2).grown r2 hz2' (fun k hk => ((unhide Hown2).lt k hk).1)); have R1 := hide r1; clear r1 r2 r3 r4) | (refine step_call 71 #[.slice (some ⟨g, 0, none⟩) (K + 1) cap'] rfl (by kernel_rfl) (joinParts_l _ _ _ _ w3 (unhide R1) (by omega) (fun u hu => by rcases List.mem_append.1 hu with hu | hu; exact ⟨_, _, (List.mem_replicate.1 hu).2⟩; exact ⟨_, _, List.mem_singleton.1 hu⟩) (by omega)) ?_; rintro e w4 ⟨rfl, rfl⟩; refine ⟨_, rfl, ?_⟩))))
    all_goals
      go_wp2
      go_ret
      exact ⟨congrArg (fun l => Ending.returned (jV l)) (unhide hJ), unhide hst _ _ v2 hb2' hB3⟩
  · have hmi : min mn 1 = mn := by omega
    go_enter Tryd.func61, Tryd.ntmps61
    go_wp2_with fail
    refine (unhide HE _).mono ?_
    rintro e w1 ⟨rfl, hb1⟩
    have hB1 : Below w.heap.size w w1 := (below1 w _).trans (hb1.mono (by rw [sz_alloc]; omega))
    obtain ⟨hcc, -⟩ := bcell hb1
    have hz1' := hb1.size
    rw [sz_alloc] at hz1'
    have q0 : w1.cell? ⟨w.heap.size, 0, none⟩ = some (.iface T y) := by rw [hcc _ _ (by rw [sz_alloc]; omega)]; simp
    have q1 : w1.cell? ⟨w.heap.size, 1, none⟩ = some (.int .i64 mn) := by rw [hcc _ _ (by rw [sz_alloc]; omega)]; simp
    have q2 : w1.cell? ⟨w.heap.size, 2, none⟩ = some (.int .i64 (-1)) := by rw [hcc _ _ (by rw [sz_alloc]; omega)]; simp
    have hlt1 : w.heap.size < w1.heap.size := by omega
    clear hb1 hcc
    have hst : Hid (∀ (w2 w3 : World) (v3 : Value), Below (w1.heap.size + 1) (w1.alloc (.cells #[.iface T' y', .int .i64 mn, .int .i64 (-1)] 89)) w2 → Below (w1.heap.size + 1) w2 w3 → Below w.heap.size w w3) := fun w2 w3 v3 a1 a2 =>
      hB1.trans (((below1 w1 _).mono (by omega)).trans ((a1.mono (by omega)).trans (a2.mono (by omega))))
    have hJ : Hid (List.replicate K (.iface T' y') ++ [.iface 89 (.agg #[.iface T' y', .int .i64 mn, .int .i64 (-1)])] = partsV (.iface T' y') mn (-1)) := by
      unfold partsV
      rw [if_pos rfl, unhide HK]
      first | rw [if_pos h1] | rw [if_neg (by omega)]
      rfl
    go_wp2_with fail
    go_region_law (((first | (refine step_call 72 #[.iface T' y', .int .i64 (mn - 1)] rfl (by kernel_rfl) (copies_k T' y' (mn - 1) K (unhide HK) _ (by omega)) ?_; rintro e w2 ⟨v2, rfl, hown2, hb2⟩; refine ⟨_, rfl, ?_⟩; have hb2' : Below (w1.heap.size + 1) (w1.alloc (.cells #[.iface T' y', .int .i64 mn, .int .i64 (-1)] 89)) w2 := ⟨hb2.os, hb2.tape, hb2.output, hb2.size, fun k hk => hb2.block k (by simpa using hk)⟩; have hz2' : w1.heap.size + 1 ≤ w2.heap.size := (by have := hb2'.size; rwa [sz_alloc] at this); have c0 : w2.cell? ⟨w1.heap.size, 0, none⟩ = some (.iface T' y') := (by rw [hb2'.cell (p := ⟨w1.heap.size, 0, none⟩) (by show w1.heap.size < w1.heap.size + 1; omega)]; simp); have c1 : w2.cell? ⟨w1.heap.size, 1, none⟩ = some (.int .i64 mn) := (by rw [hb2'.cell (p := ⟨w1.heap.size, 1, none⟩) (by show w1.heap.size < w1.heap.size + 1; omega)]; simp); have c2 : w2.cell? ⟨w1.heap.size, 2, none⟩ = some (.int .i64 (-1)) := (by rw [hb2'.cell (p := ⟨w1.heap.size, 2, none⟩) (by show w1.heap.size < w1.heap.size + 1; omega)]; simp); have Hown2 : Hid (w2.ownsRow (w1.heap.size + 1) 52 1 v2 K (List.replicate K (.iface T' y'))) := own_base hown2 (sz_alloc w1 (.cells #[.iface T' y', .int .i64 mn, .int .i64 (-1)] 89)); clear hown2 hb2) | (refine step_call 72 #[.iface T' y', .int .i64 (mn - 1)] rfl (by kernel_rfl) (copies_k T' y' (mn - 1) K (unhide HK) _ (by omega)) ?_; rintro e w2 ⟨v2, rfl, hown2, hb2⟩; refine ⟨_, rfl, ?_⟩; have hb2' : Below (w1.heap.size + 1) (w1.alloc (.cells #[.iface T' y', .int .i64 mn, .int .i64 (-1)] 89)) w2 := (below1 _ (.cells #[.iface 89 (.agg #[.iface T' y', .int .i64 mn, .int .i64 (-1)])] 52)).mono (by rw [sz_alloc]; omega) |>.trans ⟨hb2.os, hb2.tape, hb2.output, hb2.size, fun k hk => hb2.block k (by simp; omega)⟩; have hz2' : w1.heap.size + 1 ≤ w2.heap.size := (by have := hb2'.size; rwa [sz_alloc] at this); have hnw : w2.cell? ⟨w1.heap.size + 1, 0, none⟩ = some (.iface 89 (.agg #[.iface T' y', .int .i64 mn, .int .i64 (-1)])) := (by rw [hb2.cell (p := ⟨w1.heap.size + 1, 0, none⟩) (by show w1.heap.size + 1 < _; simp)]; simp); have Hown2 : Hid (w2.ownsRow (w1.heap.size + 1) 52 1 v2 K (List.replicate K (.iface T' y'))) := own_low hown2 (by simp); have Hnw := hide hnw; clear hown2 hb2 hnw) | (refine step_append_lies _ rfl (.tmp 26) (.tmp 29) 101 rfl (w1.heap.size + 1) 52 i0 .nilIface 1 16 Tryd.underlying101 hi hz0 hz1 hz2 rfl (by decide) v2 K (List.replicate K (.iface T' y')) (by simp [Act.eval]) (by refine Pushd.own (w := w2) (o := (.cells #[.iface 89 (.agg #[.iface T' y', .int .i64 mn, .int .i64 (-1)])] 52)) ?_ (unhide Hown2); exact ⟨rfl, rfl, rfl, rfl⟩) ⟨w2.heap.size, 0, none⟩ 1 1 [.iface 89 (.agg #[.iface T' y', .int .i64 mn, .int .i64 (-1)])] (by simp [Act.eval]) rfl (by refine Pushd.news (w := w2) (cs := #[.iface 89 (.agg #[.iface T' y', .int .i64 mn, .int .i64 (-1)])]) (t := 52) ?_; exact ⟨rfl, rfl, rfl, rfl⟩) (fun u hu => by obtain rfl := List.mem_singleton.1 hu; rfl) (by decide) (by unfold maxLen; omega) (by omega) (by show w1.heap.size + 1 ≤ (w2.alloc _).heap.size; rw [sz_alloc]; omega) (w2.heap.size + 1) (sz_alloc w2 _) (fun g cap' w3 r1 r2 r3 r4 => ?_); have hB3 : Below (w1.heap.size + 1) w2 w3 := (((below1 w2 _).mono hz2').grown r2 (by show w1.heap.size + 1 ≤ (w2.alloc _).heap.size; rw [sz_alloc]; omega) (fun k hk => ((unhide Hown2).lt k hk).1)); have R1 := hide r1; clear r1 r2 r3 r4) | (refine step_append_lies _ rfl (.tmp 26) (.tmp 29) 101 rfl (w1.heap.size + 1) 52 i0 .nilIface 1 16 Tryd.underlying101 hi hz0 hz1 hz2 rfl (by decide) v2 K (List.replicate K (.iface T' y')) (by simp [Act.eval]) (unhide Hown2) ⟨w1.heap.size + 1, 0, none⟩ 1 1 [.iface 89 (.agg #[.iface T' y', .int .i64 mn, .int .i64 (-1)])] (by simp [Act.eval]) rfl (cell_one (unhide Hnw)) (fun u hu => by obtain rfl := List.mem_singleton.1 hu; rfl) (by decide) (by unfold maxLen; omega) (by omega) hz2' w2.heap.size rfl (fun g cap' w3 r1 r2 r3 r4 => ?_); have hB3 : Below (w1.heap.size + 1) w2 w3 := ((Below.refl (w1.heap.size + 1) w2).grown r2 hz2' (fun k hk => ((unhide Hown2).lt k hk).1)); have R1 := hide r1; clear r1 r2 r3 r4) | (refine step_call 71 #[.slice (some ⟨g, 0, none⟩) (K + 1) cap'] rfl (by kernel_rfl) (joinParts_l _ _ _ _ w3 (unhide R1) (by omega) (fun u hu => by rcases List.mem_append.1 hu with hu | hu; exact ⟨_, _, (List.mem_replicate.1 hu).2⟩; exact ⟨_, _, List.mem_singleton.1 hu⟩) (by omega)) ?_; rintro e w4 ⟨rfl, rfl⟩; refine ⟨_, rfl, ?_⟩))))
    all_goals
      go_wp2
      go_ret
      exact ⟨congrArg (fun l => Ending.returned (jV l)) (unhide hJ), unhide hst _ _ v2 hb2' hB3⟩

end Go.Proofs.YtijejbdpagbmpaaDoor

namespace Go.Proofs.YtijejbdpagbmpaaDoor
open Go.RowKit

/-- The length of parts that are joined. -/
def jl : List (List El) → Nat
  | [] => 0
  | p :: r => p.length + 1 + jl r
theorem jl_app (a b : List (List El)) : jl (a ++ b) = jl a + jl b := by
  induction a with
  | nil => simp [jl]
  | cons p r ih => simp only [List.cons_append, jl, ih]; omega
theorem jl_rep (p : List El) (n : Nat) : jl (List.replicate n p) = n * (p.length + 1) := by
  induction n with
  | zero => simp [jl]
  | succ n ih => simp only [List.replicate_succ, jl, ih, Nat.succ_mul]; omega
theorem jn_jl (ps : List (List El)) (h : ps ≠ []) : (jn ps).length + 1 = jl ps := by
  match ps with
  | p :: r =>
    have key : ∀ (r : List (List El)) (acc : List El), (r.foldl (fun acc q => acc ++ q ++ [catE]) acc).length = acc.length + jl r := by
      intro r
      induction r with
      | nil => intro acc; simp [jl]
      | cons q r ih => intro acc; simp only [List.foldl_cons, ih, jl, List.length_append, List.length_singleton]; omega
    simp only [jn, key, jl]
    omega

theorem partsX_ne (X : List El) (mn mx : Int) (h : mx = -1 ∨ (0 < mx ∧ mn ≤ mx ∧ 0 ≤ mn)) : partsX X mn mx ≠ [] := by
  unfold partsX
  rcases h with h | ⟨h1, h2, h3⟩
  · rw [if_pos h]; simp
  · rw [if_neg (by omega)]
    intro e
    have := congrArg List.length e
    simp at this
    omega
theorem partsV_ne (U : Value) (mn mx : Int) (h : mx = -1 ∨ (0 < mx ∧ mn ≤ mx ∧ 0 ≤ mn)) : partsV U mn mx ≠ [] := by
  unfold partsV
  rcases h with h | ⟨h1, h2, h3⟩
  · rw [if_pos h]; simp
  · rw [if_neg (by omega)]
    intro e
    have := congrArg List.length e
    simp at this
    omega

/-- What is written out is bounded by the size. -/
theorem parts_len (X : List El) (c mn mx : Int) (hX : (X.length : Int) ≤ 2 * c - 1) (o2 : 0 ≤ mn) (h : mx = -1 ∨ (0 < mx ∧ mn ≤ mx)) : ((jn (partsX X mn mx)).length : Int) ≤ 2 * repSize c mn mx - 1 := by
  have hne := partsX_ne X mn mx (h.imp id (fun q => ⟨q.1, q.2, o2⟩))
  have h1 := jn_jl _ hne
  rcases h with h | ⟨h3, h4⟩
  · subst h
    have e : jl (partsX X mn (-1)) = (mn - 1).toNat * (X.length + 1) + (X.length + 2) := by
      unfold partsX
      rw [if_pos rfl, jl_app, jl_rep]
      simp [jl]
    have hm : (((mn - 1).toNat * (X.length + 1) : Nat) : Int) ≤ ((mn - 1).toNat : Int) * (2 * c) := by
      rw [Int.natCast_mul]
      exact Int.mul_le_mul_of_nonneg_left (by omega) (by omega)
    by_cases hmn : mn < 1
    · rw [show (mn - 1).toNat = 0 by omega] at e hm
      rw [repSize_a hmn]
      omega
    · rw [repSize_b hmn]
      have e2 : ((mn - 1).toNat : Int) * (2 * c) = 2 * (mn * c) - 2 * c := by
        rw [show ((mn - 1).toNat : Int) = mn - 1 by omega, Int.sub_mul, Int.one_mul, ← Int.mul_assoc, Int.mul_comm mn 2, Int.mul_assoc]
      omega
  · have e : jl (partsX X mn mx) = mn.toNat * (X.length + 1) + (mx - mn).toNat * (X.length + 3) := by
      unfold partsX
      rw [if_neg (by omega), jl_app, jl_rep, jl_rep]
      simp [optE]
    have hm : ((mn.toNat * (X.length + 1) : Nat) : Int) ≤ mn * (2 * c) := by
      rw [Int.natCast_mul, show (mn.toNat : Int) = mn by omega]
      exact Int.mul_le_mul_of_nonneg_left (by omega) (by omega)
    have hm2 : (((mx - mn).toNat * (X.length + 3) : Nat) : Int) ≤ (mx - mn) * (2 * (c + 1)) := by
      rw [Int.natCast_mul, show ((mx - mn).toNat : Int) = mx - mn by omega]
      exact Int.mul_le_mul_of_nonneg_left (by omega) (by omega)
    rw [repSize_d (by omega) (by omega)]
    have e2 : mn * (2 * c) = 2 * (mn * c) := by rw [← Int.mul_assoc, Int.mul_comm mn 2, Int.mul_assoc]
    have e3 : (mx - mn) * (2 * (c + 1)) = 2 * ((mx - mn) * (c + 1)) := by rw [← Int.mul_assoc, Int.mul_comm (mx - mn) 2, Int.mul_assoc]
    omega

theorem rep_ge (c mn mx : Int) (hc : 0 ≤ c) (o2 : 0 ≤ mn) (h : mx = -1 ∨ (mn ≤ mx ∧ mx ≤ 250)) : c ≤ repSize c mn mx := by
  rcases h with h | ⟨h1, -⟩
  · subst h
    by_cases hmn : mn < 1
    · rw [repSize_a hmn]; omega
    · rw [repSize_b hmn]
      have : 1 * c ≤ mn * c := Int.mul_le_mul_of_nonneg_right (by omega) hc
      omega
  · by_cases h0 : mx = 0
    · subst h0; rw [repSize_c]; exact Int.le_refl _
    · rw [repSize_d (by omega) h0]
      have p1 : 0 ≤ mn * c := Int.mul_nonneg o2 hc
      have p2 : 0 ≤ (mx - mn) * (c + 1) := Int.mul_nonneg (by omega) (by omega)
      by_cases h2 : 0 < mn
      · have : 1 * c ≤ mn * c := Int.mul_le_mul_of_nonneg_right (by omega) hc
        omega
      · have : 1 * (c + 1) ≤ (mx - mn) * (c + 1) := Int.mul_le_mul_of_nonneg_right (by omega) (by omega)
        omega

end Go.Proofs.YtijejbdpagbmpaaDoor

namespace Go.Proofs.YtijejbdpagbmpaaDoor
open Go.RowKit

/-- The lists that are written out, on the stack, top first, behind one element more. -/
def xPush (st : List (List El)) (x : El) : List (List El) :=
  if x.kind = 0 ∨ x.kind = 1 then [x] :: st else
  match st with
  | [] => []
  | [o] => if x.kind = 4 then [repX o x.mn x.mx] else [o]
  | r :: l :: b => if x.kind = 4 then repX r x.mn x.mx :: l :: b else (l ++ r ++ [x]) :: b
def xRun (st : List (List El)) : List El → List (List El)
  | [] => st
  | x :: r => xRun (xPush st x) r
theorem xRun_append (st : List (List El)) (a b : List El) : xRun st (a ++ b) = xRun (xRun st a) b := by
  induction a generalizing st with
  | nil => rfl
  | cons x r ih => simp [xRun, ih]
def SegX (seg L : List El) : Prop := ∀ st, xRun st seg = L :: st
theorem SegX.leaf {x : El} (h : x.kind = 0 ∨ x.kind = 1) : SegX [x] [x] := fun st => by simp only [xRun, xPush]; rw [if_pos h]
theorem SegX.bin {a b A B : List El} {x : El} (ha : SegX a A) (hb : SegX b B) (h : x.kind = 2 ∨ x.kind = 3) : SegX (a ++ b ++ [x]) (A ++ B ++ [x]) := fun st => by
  rw [xRun_append, xRun_append, ha, hb]
  simp only [xRun, xPush]
  rw [if_neg (by omega), if_neg (by omega)]
theorem SegX.rep {a A : List El} {x : El} (ha : SegX a A) (h : x.kind = 4) : SegX (a ++ [x]) (repX A x.mn x.mx) := fun st => by
  rw [xRun_append, ha]
  cases st with
  | nil => simp only [xRun, xPush]; rw [if_neg (by omega), if_pos h]
  | cons q st => simp only [xRun, xPush]; rw [if_neg (by omega), if_pos h]
theorem SegX.one {a A B : List El} (h : SegX a A) (k : SegX a B) : A = B := by
  have := (h []).symm.trans (k [])
  simpa using this

theorem cap_small {n : Int} (h : cap n ≤ 500) : cap n = n ∧ n ≤ 500 := by
  unfold cap at h ⊢
  by_cases e : 500 < n
  · rw [if_pos e] at h; omega
  · rw [if_neg e]; exact ⟨rfl, by omega⟩

theorem canon_len {xs : List Int} (h : Canon xs) : xs.length ≤ 300 := by
  by_cases q : xs.length ≤ 258
  · omega
  · have h1 := canon_ge h 129 (by omega)
    have h2 := (h.2.1 (2 * 129) (by omega)).2
    omega

theorem nice_set {xs : List Int} (h : Canon xs) : Nice [⟨1, xs, 0, 0⟩] := by
  refine ⟨fun i => ?_, fun i => ?_⟩
  · cases i with
    | zero =>
      refine ⟨by simp [In64], by simp [In64], by simp [In64], fun j => ?_⟩
      by_cases hj : j < xs.length
      · have := h.2.1 j hj
        show In64 (xs[j]?.getD 0)
        unfold In64
        omega
      · show In64 (xs[j]?.getD 0)
        rw [List.getElem?_eq_none (by omega)]
        simp [In64]
    | succ i => simp [dE, In64]
  · cases i with
    | zero => have := canon_len h; show xs.length ≤ 1048576; omega
    | succ i => simp [dE]

theorem parts_nice {X : List El} (h : Nice X) (mn mx : Int) (o2 : 0 ≤ mn) (o3 : mn ≤ 250) : Nice (jn (partsX X mn mx)) := by
  refine jn_nice _ (fun p hp => ?_)
  unfold partsX at hp
  by_cases e : mx = -1
  · rw [if_pos e] at hp
    rcases List.mem_append.1 hp with hp | hp
    · rw [(List.mem_replicate.1 hp).2]; exact h
    · rw [List.mem_singleton.1 hp]
      exact h.app (Nice.op _ _ _ (by simp [In64]) (by unfold In64; split <;> omega) (by simp [In64]))
  · rw [if_neg e] at hp
    rcases List.mem_append.1 hp with hp | hp
    · rw [(List.mem_replicate.1 hp).2]; exact h
    · rw [(List.mem_replicate.1 hp).2]; exact optE_nice h

theorem jV_iface {vs : List Value} (h : vs ≠ []) (hi : ∀ u ∈ vs, ∃ T x, u = .iface T x) : ∃ T x, jV vs = .iface T x := by
  match vs with
  | p :: r => exact foldV r p (hi p (by simp))
  | [] => exact absurd rfl h
theorem parts_iface {U : Value} (h : ∃ T x, U = .iface T x) (mn mx : Int) : ∀ u ∈ partsV U mn mx, ∃ T x, u = .iface T x := by
  intro u hu
  unfold partsV at hu
  by_cases e : mx = -1
  · rw [if_pos e] at hu
    rcases List.mem_append.1 hu with hu | hu
    · rw [(List.mem_replicate.1 hu).2]; exact h
    · rw [List.mem_singleton.1 hu]; exact ⟨_, _, rfl⟩
  · rw [if_neg e] at hu
    rcases List.mem_append.1 hu with hu | hu
    · rw [(List.mem_replicate.1 hu).2]; exact h
    · rw [(List.mem_replicate.1 hu).2]; exact ⟨_, _, rfl⟩

end Go.Proofs.YtijejbdpagbmpaaDoor

namespace Go.Proofs.YtijejbdpagbmpaaDoor
open Go.RowKit

set_option maxHeartbeats 2000000 in
theorem l1treeOK_any (v : Value) (xs : List El) (w : World) (hv : ElsAt 0 w.heap.size w v xs) :
    Calls Tryd.prog 33 #[v] w fun e w' => RetB e (ValidT xs) ∧ Below w.heap.size w w' := by
  have hv0 := hv
  obtain ⟨a, cp, rfl, hl, hc⟩ := hv
  unfold maxLen at hl
  by_cases n1 : xs.length < 1
  · have n1' : (xs.length : Int) < 1 := by omega
    go_enter Tryd.func33, Tryd.ntmps33
    go_wp2
    go_ret
    exact ⟨RetB.no (fun h => by have := h.1; omega), Below.refl _ _⟩
  · have n1' : ¬ (xs.length : Int) < 1 := by omega
    by_cases n2 : 3000 < xs.length
    · have n2' : 3000 < (xs.length : Int) := by omega
      go_enter Tryd.func33, Tryd.ntmps33
      go_wp2
      go_ret
      exact ⟨RetB.no (fun h => by have := h.1; omega), Below.refl _ _⟩
    · have n2' : ¬ 3000 < (xs.length : Int) := by omega
      have Hv0 := hide hv0
      clear hv0
      go_enter Tryd.func33, Tryd.ntmps33
      go_wp2
      go_loopw [3] (fun i wr => ∃ k : Nat, k ≤ xs.length ∧ i = .int .i64 k ∧ (∀ j : Nat, j < k → ElOk (xs[j]?.getD dE)) ∧ Below w.heap.size w wr) (fun i _ => xs.length - (intOf i).toNat)
      case atStart => exact ⟨0, Nat.zero_le _, rfl, fun j hj => absurd hj (Nat.not_lt_zero _), Below.refl _ _⟩
      case round =>
        obtain ⟨k, hk, rfl, hok, hb⟩ := hrel
        have Hok := hide hok
        clear hok
        by_cases hlt : k < xs.length
        · obtain ⟨b, off, rfl, -, hbn, hel⟩ := hc (by omega)
          obtain ⟨i1, i2, i3, v, c0, c1, c2, c3, hints⟩ := (hel k hlt).same (Same.of_below hb (Nat.le_refl _)) (Nat.zero_le _) hbn
          have hlt' : (k : Int) < (xs.length : Int) := by omega
          generalize hX : xs[k]?.getD dE = x at *
          have HX := hide hX
          clear hX hel
          obtain ⟨a', cap', rfl, -, -, -⟩ := id hints
          go_wp2_with fail
          refine (l1opOK_any _ x _ (hints.mono (Nat.le_refl _) hb.size)).mono ?_
          rintro e w1 ⟨hret, hb1⟩
          have hB1 := hb.trans (hb1.mono hb.size)
          rcases hret.cases with ⟨rfl, hgood⟩ | ⟨rfl, hbad⟩
          · have Hgood := hide hgood
            clear hgood hb1
            go_wp2
            go_roundw
            case rel => exact ⟨k + 1, by omega, by go_num, fun j hj => by
              by_cases e : j = k
              · subst e; rw [unhide HX]; exact unhide Hgood
              · exact unhide Hok j (by omega), hB1⟩
            case measure => simp [intOf]; omega
          · have Hbad := hide hbad
            clear hbad hb1
            go_wp2
            go_ret
            exact ⟨RetB.no (fun h => by have := h.2.1 k hlt; rw [unhide HX] at this; exact unhide Hbad this), hB1⟩
        · obtain rfl : k = xs.length := by omega
          have hv1 := (unhide Hv0).below hb (Nat.le_refl _)
          go_wp2_with fail
          refine (l1shape_any _ xs _ hv1 (by omega)).mono ?_
          rintro e w1 ⟨hret, rfl⟩
          rcases hret.cases with ⟨rfl, hgood⟩ | ⟨rfl, hbad⟩
          · obtain ⟨c, hseg, hsz⟩ := exists_seg (unhide Hok) hgood
            have Hgood := hide hgood
            have Hrun := hide (hseg.run [])
            have hts := hseg.bd
            clear hgood hseg
            go_wp2_with fail
            refine (hsz _ _ hv1 (by omega)).mono ?_
            rintro e w2 ⟨rfl, hb2⟩
            have hB2 := hb.trans (hb2.mono hb.size)
            clear hb2 hv1 hsz
            go_wp2
            go_ret
            refine ⟨RetB.of ?_, hB2⟩
            rw [decide_eq_true_iff]
            exact ⟨fun h => ⟨⟨by omega, by omega⟩, unhide Hok, unhide Hgood, c, unhide Hrun, h⟩, fun ⟨_, _, _, u, hu, hus⟩ => by rw [unhide Hrun] at hu; simp only [List.cons.injEq, and_true] at hu; omega⟩
          · have Hbad := hide hbad
            clear hbad hv1
            go_wp2
            go_ret
            exact ⟨RetB.no (fun h => unhide Hbad h.2.2.1), hb⟩

set_option maxHeartbeats 400000 in
theorem specValid_any (l r : Bool) (v : Value) (xs : List El) (w : World) (hv : ElsAt 0 w.heap.size w v xs) :
    Calls Tryd.prog 14 #[.agg #[.bool l, .bool r, v]] w fun e w' => RetB e (ValidT xs) ∧ Below w.heap.size w w' := by
  obtain ⟨a, cp, rfl, -, -⟩ := id hv
  have Hv := hide hv
  clear hv
  go_enter Tryd.func14, Tryd.ntmps14
  go_wp2_with fail
  refine (l1treeOK_any _ xs _ (by exact (unhide Hv).below (below1 w _) (Nat.le_refl _))).mono ?_
  rintro e w1 ⟨hret, hb1⟩
  have hB1 : Below w.heap.size w w1 := (below1 w _).trans (hb1.mono (by rw [sz_alloc]; omega))
  rcases hret.cases with ⟨rfl, hgood⟩ | ⟨rfl, hbad⟩
  · have Hgood := hide hgood
    clear hgood hb1
    go_wp2
    go_ret
    exact ⟨RetB.yes (unhide Hgood), hB1⟩
  · have Hbad := hide hbad
    clear hbad hb1
    go_wp2
    go_ret
    exact ⟨RetB.no (unhide Hbad), hB1⟩

end Go.Proofs.YtijejbdpagbmpaaDoor
