import Derived.Test.YtjefklagedidmaaGreatN10
import Derived.Test.YtjefklagedidmaaGreatQ3
import Derived.Test.YtjefklagedidmaaGreatN2
namespace Go.Proofs.YtjefklagedidmaaGreat
open Go.RowKit

set_option maxHeartbeats 4000000 in
set_option maxRecDepth 100000 in
theorem compact_LL (base : Nat) (v : Value) (ps : List (Cl Int)) (w : World) (h : LL mI 0 3 41 base w v ps) (hl : ps.length ≤ 1048576) :
    Calls Tryz.prog 44 #[v, .func (.func 45) #[] #[]] w fun e w' => ∃ v', e = .returned v' ∧ LL mI 0 3 41 base w' v' (cpt ps ps.length) ∧ Below base w w' := by
  rcases h.own.2 with ⟨rfl, hz⟩ | ⟨g, cap, cur, rfl, hbg, -⟩
  · have h0 : ps = [] := List.eq_nil_of_length_eq_zero hz
    subst h0
    go_enter Tryz.func44, Tryz.ntmps44
    go_wp2
    go_ret
    exact ⟨_, rfl, LL.nil, Below.refl _ _⟩
  · have hnr : ∀ p ∈ ps, 0 < p.xs.length → p.b ≠ g := fun p hp h0 e => (h.not_row (by decide) (h.ok p hp) rfl h0) (by rw [e]; rfl)
    refine (compactF_any base g cap ps w h.own h.ok hnr hl).mono ?_
    rintro e w' ⟨rfl, hown, hc⟩
    have hsub : (cpt ps ps.length).Sublist ps := by
      have := cpt_sub ps ps.length (Nat.le_refl _)
      rwa [List.take_length] at this
    exact ⟨_, rfl, ⟨hown, fun p hp => ok_chg (h.ok p (hsub.subset hp)) (hnr p (hsub.subset hp)) hc, fun p hp => h.lo p (hsub.subset hp), List.Pairwise.sublist hsub h.apart⟩, hc.below (fun k hk => by rw [hk]; exact hbg)⟩

theorem tot_sub {α : Type} {xs ys : List (List α)} (h : xs.Sublist ys) : tot xs ≤ tot ys := by
  induction h with
  | slnil => exact Nat.le_refl _
  | cons a _ ih => simp only [Go.Proofs.YtjefklagedidmaaGreat.tot]; omega
  | cons_cons a _ ih => simp only [Go.Proofs.YtjefklagedidmaaGreat.tot]; omega
theorem tot_perm {α : Type} {xs ys : List (List α)} (h : xs.Perm ys) : tot xs = tot ys := by
  induction h with
  | nil => rfl
  | cons a _ ih => simp only [Go.Proofs.YtjefklagedidmaaGreat.tot]; omega
  | swap a b l => simp only [Go.Proofs.YtjefklagedidmaaGreat.tot]; omega
  | trans _ _ ih1 ih2 => omega

/-- What is left of sorted lists, once equal neighbours are one, is what the normal query is made of. -/
theorem cpt_norm {xss : List (List Int)} {ps qs : List (Cl Int)} (he : Each xss ps) (hp : qs.Perm ps) (hs : qs.Pairwise (fun p q => lexc p.xs q.xs ≤ 0)) :
    LAsc ((cpt qs qs.length).map Cl.xs) ∧ (∀ p ∈ cpt qs qs.length, Asc p.xs) ∧ NormV xss (((cpt qs qs.length).filter (fun p => mn ((cpt qs qs.length).map Cl.xs) p.xs)).map Cl.xs) ∧ tot (((cpt qs qs.length).filter (fun p => mn ((cpt qs qs.length).map Cl.xs) p.xs)).map Cl.xs) ≤ tot xss := by
  have hl := cpt_lasc hs qs.length (Nat.le_refl _)
  have hsub : (cpt qs qs.length).Sublist qs := by
    have := cpt_sub qs qs.length (Nat.le_refl _)
    rwa [List.take_length] at this
  have hmem : ∀ z, z ∈ (cpt qs qs.length).map Cl.xs ↔ ∃ xs, xs ∈ xss ∧ Ord xs z := fun z => by
    rw [← he.mem z]
    constructor
    · intro h
      exact ((hp.map Cl.xs).mem_iff).1 ((hsub.map Cl.xs).subset h)
    · intro h
      have h1 := ((hp.map Cl.xs).mem_iff).2 h
      obtain ⟨i, hi, e⟩ := List.mem_iff_getElem.1 h1
      rw [List.length_map] at hi
      have := cpt_mem (ps := qs) qs.length (Nat.le_refl _) i hi
      have e1 : (qs[i]?.getD dC).xs = z := by rw [← e]; simp [hi]
      rwa [e1] at this
  refine ⟨hl, fun p hp => ?_, ⟨⟨_, hl, hmem, ?_⟩⟩, ?_⟩
  · obtain ⟨xs, -, ho⟩ := (hmem p.xs).1 (List.mem_map_of_mem hp)
    exact ho.asc
  · rw [List.filter_map]
    rfl
  · have h1 := tot_sub ((List.filter_sublist (p := fun p : Cl Int => mn ((cpt qs qs.length).map Cl.xs) p.xs) (l := cpt qs qs.length)).map Cl.xs)
    have h2 := tot_sub (hsub.map Cl.xs)
    have h3 := tot_perm (hp.map Cl.xs)
    have h4 := he.tot
    omega

set_option maxHeartbeats 8000000 in
set_option maxRecDepth 100000 in
theorem implNorm_any (u : Value) (xss : List (List Int)) (w : World) (hu : SsAt mI 0 w.heap.size w u xss) (hL : xss.length ≤ 1048576) :
    Calls Tryz.prog 20 #[.agg #[u]] w fun e w' => ∃ v' ps, e = .returned (.agg #[v']) ∧ NormR xss (ps.map Cl.xs) ∧ tot (ps.map Cl.xs) ≤ tot xss ∧ LL mI 0 3 41 w.heap.size w' v' ps ∧ Below w.heap.size w w' := by
  obtain ⟨i0, hi, hz0, hz1, hz2⟩ := info_parts Tryz.zinIntS
  have Hu := hide hu
  obtain ⟨a, cap, rfl, hml, hc⟩ := hu
  unfold maxLen at hml
  go_enter Tryz.func20, Tryz.ntmps20
  go_wp2_with fail
  have hB0 := below2 w (.cells #[.slice a xss.length cap] 28) (.cells #[.slice none 0 0] 28)
  have RQ := (Boxed.new w 28 (.slice a xss.length cap)).alloc (.cells #[.slice none 0 0] 28)
  have RR := Boxed.new (w.alloc (.cells #[.slice a xss.length cap] 28)) 28 (.slice none 0 0)
  rw [World.size_alloc] at RR
  have hz0' : ((w.alloc (.cells #[.slice a xss.length cap] 28)).alloc (.cells #[.slice none 0 0] 28)).heap.size ≥ w.heap.size + 2 := by rw [sz_alloc, sz_alloc]; omega
  generalize (w.alloc (.cells #[.slice a xss.length cap] 28)).alloc (.cells #[.slice none 0 0] 28) = W0 at *
  have cq := RQ.cell
  have cr := RR.cell
  have fr := RR.frozen
  have HRR := hide RR
  have Hu0 := hide ((unhide Hu).below hB0 (Nat.le_refl _))
  clear RQ RR hc Hu
  refine (within_any _ xss _ (unhide Hu0)).mono ?_
  rintro e w1 ⟨hret, rfl⟩
  rcases hret.cases with ⟨rfl, hlim⟩ | ⟨rfl, hlim⟩
  rotate_left
  · have Hlim := hide hlim
    clear hlim hret
    go_wp2
    exact bodyPost_ret (v := .agg #[.slice none 0 0]) (by simp [results, Tryz.results20, go_sem, cr]) rfl ⟨_, [], rfl, Or.inr ⟨unhide Hlim, rfl⟩, Nat.zero_le _, LL.nil, bput hB0 (by omega) _⟩
  · have Hlim := hide hlim
    have hx1000 := hlim.len
    clear hlim hret
    go_wp2_with fail
    go_loopw [3, 14] (fun sv iv wr => ∃ (n : Nat) (ps : List (Cl Int)), n ≤ xss.length ∧ iv = .int .i64 n ∧ Each (xss.take n) ps ∧ LL mI 0 3 41 w1.heap.size wr sv ps ∧ Below w1.heap.size w1 wr) (fun _ iv _ => xss.length - (intOf iv).toNat)
    case atStart => exact ⟨0, [], Nat.zero_le _, rfl, Each.nil, LL.nil, Below.refl _ _⟩
    case round =>
      obtain ⟨n, ps, hn, rfl, hea, hll, hb⟩ := hrel
      have hszr := hb.size
      have hlen := hea.len
      rw [List.length_take] at hlen
      have hpl : ps.length ≤ 1048576 := by omega
      have Hea := hide hea
      have Hll := hide hll
      obtain ⟨oa, oc, rfl⟩ := own_is hll.own
      clear hea hll
      by_cases hlt : n < xss.length
      · have hlt' : (n : Int) < (xss.length : Int) := by omega
        obtain ⟨_, _, e, -, hc⟩ := (unhide Hu0).below hb (Nat.le_refl _)
        cases e
        obtain ⟨b, off, rfl, hbn, hcell⟩ := hc (by omega)
        obtain ⟨sv, hx, hsx, -⟩ := hcell n hlt
        have HX := hide hsx
        obtain ⟨sa, sc, rfl, -⟩ := id hsx
        have hxl := ((unhide Hlim).each n hlt).1
        have Hnext : Hid (∀ p : Cl Int, Ord (xss[n]?.getD []) p.xs → p.xs.length ≤ (xss[n]?.getD []).length → Each (xss.take (n + 1)) (ps ++ [p])) := fun p h1 h2 => (unhide Hea).next hlt h1 h2
        clear hcell hc hsx hlen
        generalize xss[n]?.getD [] = x at *
        go_wp2_with fail
        refine (clone_any _ x _ (unhide HX) (by omega)).mono ?_
        rintro e wc ⟨vc, rfl, hownc, hbc⟩
        have hzc := hbc.size
        have Hownc := hide hownc
        obtain ⟨ca, cc, rfl⟩ := own_is hownc
        clear hownc
        go_wp2_with fail
        refine (ascending_any wr.heap.size _ x _ (unhide Hownc) hzc (by omega)).mono ?_
        rintro e w2 ⟨v1, ys, rfl, ho, hle, hown1, hb2, -⟩
        have hz2' := hb2.size
        have hb1 := hbc.trans hb2
        obtain ⟨pb, hpok, hplo⟩ := own_cl hown1
        obtain ⟨ya, yc, rfl⟩ := own_is hown1
        have Hll1 := hide ((unhide Hll).keep hb1 (Nat.le_refl _))
        have Hp := hide hpok
        have Hst : Hid (∀ (w' : World) (v' : Value), w'.ownsRow w1.heap.size 41 1 v' (ps.length + 1) (ps.map Cl.v ++ [.slice ya ys.length yc]) → (w2.alloc (.cells #[.slice ya ys.length yc] 41)).grownBy w' (Value.slice oa ps.length oc).ownBlock → LL mI 0 3 41 w1.heap.size w' v' (ps ++ [⟨.slice ya ys.length yc, ys, pb⟩]) ∧ Below w1.heap.size w2 w') := fun w' v' q1 q2 =>
          (unhide Hll1).app (by decide) (by omega) (unhide Hp) (fun h => by have h9 : wr.heap.size ≤ pb := hplo h; show w1.heap.size ≤ pb; omega) (fun q hq h1 h2 e => by
            have h3 := ((unhide Hll).ok q hq).lt h1
            have h4 := hplo h2
            have : q.b = pb := e
            omega) (pushd_alloc w2 _) q1 q2
        have HN := hide (unhide Hnext ⟨.slice ya ys.length yc, ys, pb⟩ ho hle)
        clear hown1 hpok hplo ho Hnext
        go_wp2_with (at_builtin; refine wpList_append_own _ rfl _ _ 26 rfl w1.heap.size 41 i0 (.slice none 0 0) 1 24 Tryz.underlying26 hi hz0 hz1 hz2 rfl (by decide) _ _ _ rfl (World.ownsRow.alloc (w := w2) (unhide Hll1).own _) ⟨w2.heap.size, 0, none⟩ 1 1 [.slice ya ys.length yc] rfl rfl ?_ ?_ ?_ ?_ ?_ ?_)
        · exact cell_1 (by simp)
        · intro u hu; simp at hu; subst hu; rfl
        · unfold maxLen; omega
        · omega
        · rw [sz_alloc]; omega
        intro v3 w3 h5 hg5 _
        have h3 := hide (unhide Hst w3 v3 h5 hg5)
        obtain ⟨g3, cap3, rfl⟩ := ownsRow_succ h5
        clear h5 hg5
        go_wp2
        go_roundw
        case rel => exact ⟨n + 1, _, by omega, by go_num, unhide HN, (unhide h3).1, hb.trans ((hb1.mono hszr).trans (unhide h3).2)⟩
        case measure => simp [intOf]; omega
      · obtain rfl : n = xss.length := by omega
        rw [List.take_length] at Hea
        clear hlen
        go_wp2_with fail
        refine (sort_LL w1.heap.size _ ps _ (unhide Hll) hszr hpl).mono ?_
        rintro e w2 ⟨rfl, qs, hperm, hpw, hll2, hb2⟩
        have hql := hperm.length_eq
        have Hll2 := hide hll2
        obtain ⟨hcl, hca, hcn, hct⟩ := cpt_norm (unhide Hea) hperm hpw
        have Hcl := hide hcl
        have Hca := hide hca
        have Hcn := hide hcn
        have Hct := hide hct
        have hB2 := hide (hB0.trans ((hb.trans hb2).mono (by omega)))
        have hz2' := hb2.size
        have hbb := hide (hb.trans hb2)
        clear hll2 hcl hca hcn hct hb2 hb Hll Hea hperm hpw
        rw [← hql]
        go_wp2_with fail
        refine (compact_LL w1.heap.size _ qs _ (unhide Hll2) (by omega)).mono ?_
        rintro e w3 ⟨v3, rfl, hll3, hb3⟩
        have hz3' := hb3.size
        have hcle : (cpt qs qs.length).length ≤ qs.length := by
          have := (cpt_sub qs qs.length (Nat.le_refl _)).length_le
          rwa [List.length_take, Nat.min_self] at this
        have Hll3 := hide hll3
        generalize cpt qs qs.length = cs at *
        obtain ⟨ca, cc, rfl⟩ := own_is hll3.own
        clear hll3
        go_wp2_with fail
        refine (smallest_any w1.heap.size _ cs _ (unhide Hll3).lr (unhide Hcl) (unhide Hca) (by omega)).mono ?_
        rintro e w4 ⟨v4, rfl, hlr4, hb4⟩
        have hz4' := hb4.size
        have hsub : (cs.filter (fun p => mn (cs.map Cl.xs) p.xs)).Sublist cs := List.filter_sublist
        have Hll4 : Hid (LL mI 0 3 41 w1.heap.size w4 v4 (cs.filter (fun p => mn (cs.map Cl.xs) p.xs))) := LL.of_sub ⟨own_low hlr4.own (by omega), hlr4.ok⟩ hsub (unhide Hll3).lo (unhide Hll3).apart
        generalize cs.filter (fun p => mn (cs.map Cl.xs) p.xs) = rs at *
        obtain ⟨ra, rc, rfl⟩ := own_is hlr4.own
        have hB4 : Below w1.heap.size w1 w4 := (unhide hbb).trans (hb3.trans (hb4.mono (by omega)))
        have RR4 := Boxed.below' (unhide HRR) hB4 (by omega)
        have cr4 := RR4.cell
        have fr4 := RR4.frozen
        have Hres : Hid (∀ u, LL mI 0 3 41 w.heap.size (w4.setCell ⟨w.heap.size + 1, 0, none⟩ u) (.slice ra rs.length rc) rs) := fun u =>
          have h := ok_box_row (unhide Hll4).lr (by decide) RR4 u
          ⟨own_low h.own (by omega), h.ok, fun p hp h0 => Nat.le_trans (by omega) ((unhide Hll4).lo p hp h0), (unhide Hll4).apart⟩
        have hBB := hB0.trans (hB4.mono (by omega))
        clear hlr4 hb4 hb3 Hll3 RR4
        go_wp2
        exact bodyPost_ret (v := .agg #[.slice ra rs.length rc]) (by simp [results, Tryz.results20, go_sem, cr4]) rfl ⟨_, _, rfl, Or.inl ⟨unhide Hlim, unhide Hcn⟩, unhide Hct, unhide Hres _, bput hBB (by omega) _⟩

end Go.Proofs.YtjefklagedidmaaGreat
