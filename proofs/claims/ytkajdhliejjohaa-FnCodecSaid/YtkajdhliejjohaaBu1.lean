import Derived.Test.YtkajdhliejjohaaP6
import Derived.Test.YtkajdhliejjohaaP8
import Derived.Test.YtkajdhliejjohaaP9
namespace Go.Proofs.Ytkajdhliejjohaa
open Go.RowKit

theorem own_same {base n e size : Nat} {w w' : World} {v : Value} {xs : List Value} (h : w.ownsRow base e size v n xs) (hs : ∀ g, v.ownBlock = some g → w'.heap[g]? = w.heap[g]?) : w'.ownsRow base e size v n xs := by
  refine ⟨h.1, ?_⟩
  rcases h.2 with h2 | ⟨g, cap, cur, h1, h2, h3, h4⟩
  · exact Or.inl h2
  · exact Or.inr ⟨g, cap, cur, h1, h2, (hs g (by rw [h1]; rfl)).trans h3, h4⟩
/-- A list of ints that owns its row, and isn't empty. -/
def EO1 (n : Nat) (w : World) (q : Cl Int) : Prop := 0 < q.xs.length ∧ w.ownsRow n 3 1 q.v q.xs.length (q.xs.map mI) ∧ q.v.ownBlock = some q.b
theorem EO1.putlo {n B o : Nat} {w : World} {q : Cl Int} {u : Value} (h : EO1 n w q) (hB : B < n) : EO1 n (w.setCell ⟨B, o, none⟩ u) q := ⟨h.1, own_same h.2.1 (fun g hg => Below.heap_setCell _ _ _ _ (by have := (h.2.1.lt g hg).1; show g ≠ B; omega)), h.2.2⟩
def EO (n : Nat) (w : World) (qs : List (Cl Int)) : Prop := ∀ q ∈ qs, EO1 n w q
theorem LI.push2 {base : Nat} {w V wr : World} {ov lv : Value} {ps : List (Cl Int)} {ls : List Int} (Hll : LL mI 0 3 25 base V ov ps) (He : EO base V ps) (hbV : base ≤ V.heap.size) (hbl : Below V.heap.size V wr) (hb : Below base w V) (Hown : wr.ownsRow V.heap.size 3 1 lv ls.length (ls.map mI)) (hne : 0 < ls.length)
    (w' : World) (v' : Value) (g1 : w'.ownsRow base 25 1 v' (ps.length + 1) (ps.map Cl.v ++ [lv])) (g2 : (wr.alloc (.cells #[lv] 25)).grownBy w' ov.ownBlock) : ∃ p : Cl Int, p.xs = ls ∧ LL mI 0 3 25 base w' v' (ps ++ [p]) ∧ Below base w w' ∧ EO base w' (ps ++ [p]) := by
  obtain ⟨pb, hp, hplo⟩ := own_cl Hown
  have hz := hbl.size
  obtain ⟨r1, r2⟩ := (Hll.keep hbl (Nat.le_refl _)).app (by decide) (by omega) hp (fun h => Nat.le_trans hbV (hplo h)) (fun q hq hq0 hp0 e => by
    have h1 := (Hll.ok q hq).lt hq0
    have h2 := hplo hp0
    rw [e] at h1
    exact absurd h1 (Nat.not_lt.2 h2)) (pushd_alloc wr _) g1 g2
  refine ⟨_, rfl, r1, (hb.trans (hbl.mono hbV)).trans r2, fun q hq => ?_⟩
  rcases List.mem_append.1 hq with hq | hq
  · have h1 := He q hq
    refine ⟨h1.1, ((own_keep h1.2.1 hbl (Nat.le_refl _)).alloc _).kept g2 (Or.inr ?_), h1.2.2⟩
    rw [h1.2.2]
    exact Hll.not_row (by decide) (Hll.ok q hq) rfl h1.1
  · rw [List.mem_singleton] at hq
    subst hq
    have hob : lv.ownBlock = some pb := by
      obtain ⟨a, cap, e1, -, hc⟩ := hp
      obtain ⟨off, e2, -⟩ := hc hne
      have e1' : lv = .slice a ls.length cap := e1
      rw [e1', e2]
      rfl
    refine ⟨hne, ((own_low Hown hbV).alloc _).kept g2 (Or.inr ?_), hob⟩
    rw [hob]
    intro e
    have h1 := (Hll.own.lt pb e.symm).2
    have h2 := hplo hne
    omega
theorem post_ne {base : Int} {xss : List (List Int)} {ks l : List Int} {m : Nat} (hk : Ord (allT xss) ks) (hm : m < ks.length) (hp : PostR base xss (ks[m]?.getD 0) l) : 0 < l.length := by
  have h1 : ks[m]?.getD 0 ∈ ks := by rw [List.getElem?_eq_getElem hm]; exact List.getElem_mem hm
  obtain ⟨i, hi, hz⟩ := (allT_mem xss _).1 ((hk.mem _).1 h1)
  exact List.length_pos_of_mem ((hp.2 (base + i)).2 ⟨i, hi, rfl, hz⟩)

/-- A segment whose parts own their memory: lines from lo on, keys from m1 on, posting lists from m2 on. -/
def SegO (lo : Nat) (w : World) (v : Value) (base : Int) (xss : List (List Int)) (ks : List Int) (pss : List (List Int)) : Prop :=
  ∃ lv kv pv m1 m2 ps qs, v = .agg #[.int .i64 base, lv, kv, pv] ∧ (lo ≤ m1 ∧ m1 ≤ m2 ∧ m2 ≤ w.heap.size) ∧
    (ps.map Cl.xs = xss ∧ LB lo w lv ps ∧ (∀ g, lv.ownBlock = some g → g < m1) ∧ ∀ p ∈ ps, 0 < p.xs.length → p.b < m1) ∧
    (w.ownsRow m1 3 1 kv ks.length (ks.map mI) ∧ ∀ g, kv.ownBlock = some g → g < m2) ∧
    qs.map Cl.xs = pss ∧ LL mI 0 3 25 m2 w pv qs ∧ EO m2 w qs
def SegRetO (e : Ending) (w w' : World) (base : Int) (xss : List (List Int)) : Prop := ∃ v ks pss, e = .returned v ∧ SegR base xss ks pss ∧ SegO w.heap.size w' v base xss ks pss

set_option maxHeartbeats 4000000 in
set_option maxRecDepth 100000 in
theorem l4build_own (base : Int) (v : Value) (xss : List (List Int)) (w : World) (hv : SsAt mB 0 w.heap.size w v xss) (hbb : ∀ x ∈ xss, Bytes x) (hT : tot xss ≤ 1048576) (hL : xss.length ≤ 1048576) (hb0 : 0 ≤ base) (hb1 : base ≤ 1000) :
    Calls Try.prog 20 #[.int .i64 base, v] w fun e w' => SegRetO e w w' base xss ∧ Below w.heap.size w w' := by
  obtain ⟨i0, hi, hz0, hz1, hz2⟩ := info_parts Try.zinInt
  obtain ⟨j0, hj, hy0, hy1, hy2⟩ := info_parts Try.zinIntS
  have Hv := hide hv
  have HB := hide hbb
  obtain ⟨a, cap, rfl, hl, hc⟩ := hv
  clear hbb hc
  go_enter Try.func20, Try.ntmps20
  go_wp2_with fail
  have hb00 := below1 w (.cells #[.int .i64 0, .slice none 0 0, .slice none 0 0, .slice none 0 0] 28)
  refine (l4copy_any _ xss _ ((unhide Hv).below hb00 (Nat.le_refl _)) hT hL).mono ?_
  rintro e w1 ⟨lv, rfl, ⟨ps, hp, hll⟩, hb1'⟩
  have hs1 := LB.footR hll
  rw [hp, sz_alloc] at hs1
  have SL := hide hs1
  have hB1 : Below w.heap.size w w1 := hb00.trans (hb1'.mono (by rw [sz_alloc]; omega))
  have RR := hide ((Row4.new w 28 (.int .i64 0) (.slice none 0 0) (.slice none 0 0) (.slice none 0 0)).below hb1' (by rw [sz_alloc]; omega))
  have hz1' : w.heap.size + 1 ≤ w1.heap.size := by have := hb1'.size; rwa [sz_alloc] at this
  obtain ⟨la, lc, rfl, -⟩ := id hs1
  have HLB := hide hll
  rw [sz_alloc] at HLB
  have HLP := hide hp
  clear hs1 hll hp hb00 hb1'
  go_wp2_with fail
  have hb20 := below1 w1 (.cells #[.int .i64 base, .slice la xss.length lc, .slice none 0 0, .slice none 0 0] 28)
  refine (l4keys_any xss.length _ xss _ (Nat.le_refl _) ((unhide Hv).below (hB1.trans (hb20.mono (by omega))) (Nat.le_refl _)) (unhide HB) hT hL).mono ?_
  rintro e w2 ⟨⟨kv, ks, rfl, hok, hkl, hown2⟩, hb2'⟩
  rw [sz_alloc] at hown2
  have hz2' : w1.heap.size + 1 ≤ w2.heap.size := by have := hb2'.size; rwa [sz_alloc] at this
  have RS2 := (Row4.new w1 28 (.int .i64 base) (.slice la xss.length lc) (.slice none 0 0) (.slice none 0 0)).below hb2' (by rw [sz_alloc]; omega)
  have hB12 : Below w1.heap.size w1 w2 := hb20.trans (hb2'.mono (by rw [sz_alloc]; omega))
  have HK := hide hok
  have hks : ks.length ≤ 1048576 := Nat.le_trans hkl (Nat.le_trans (allT_len xss) hT)
  have hks' := hide hks
  have SK := (own_slw (lo := w1.heap.size + 1) hown2 (Nat.le_refl _) (by unfold maxLen; omega))
  obtain ⟨ka, kc, rfl⟩ := own_is hown2
  obtain ⟨f0, f1, f2, f3, g0, g1, g2, g3⟩ := RS2.facts
  have RS3 := hide (RS2.put2 (u := .slice ka ks.length kc))
  have hB13 : Below w1.heap.size w1 (w2.setCell ⟨w1.heap.size, 2, none⟩ (.slice ka ks.length kc)) := bput hB12 (Nat.le_refl _) _
  have SK3 := hide (SK.same (w' := w2.setCell ⟨w1.heap.size, 2, none⟩ (.slice ka ks.length kc)) (fun k h1 h2 => Below.heap_setCell _ _ _ _ (by show k ≠ w1.heap.size; omega)))
  have KO3 := hide (show (w2.setCell ⟨w1.heap.size, 2, none⟩ (.slice ka ks.length kc)).ownsRow (w1.heap.size + 1) 3 1 (.slice ka ks.length kc) ks.length (ks.map mI) from own_same hown2 (fun g hg => Below.heap_setCell _ _ _ _ (by have := (hown2.lt g hg).1; show g ≠ w1.heap.size; omega)))
  have KG := hide (fun g (hg : (Value.slice ka ks.length kc).ownBlock = some g) => (hown2.lt g hg).2)
  have hz3 : (w2.setCell ⟨w1.heap.size, 2, none⟩ (.slice ka ks.length kc)).heap.size = w2.heap.size := sz_put _ _ _
  clear hown2 hok hb2' hb20 RS2 SK hB12
  go_wp2_with fail
  obtain ⟨w3, hw3⟩ : ∃ w3, w3 = w2.setCell ⟨w1.heap.size, 2, none⟩ (.slice ka ks.length kc) := ⟨_, rfl⟩
  rw [← hw3] at RS3 hB13 SK3 KO3 hz3 ⊢
  have hz3' : w2.heap.size ≤ w3.heap.size := Nat.le_of_eq hz3.symm
  clear hw3 f0 f1 f2 f3 g0 g1 g2 g3 hz3
  have hB3 : Below w.heap.size w w3 := hB1.trans (hB13.mono (by omega))
  go_loopw [6, 7] (fun tv iv wr => ∃ (k : Nat) (ps : List (Cl Int)), k ≤ xss.length ∧ iv = .int .i64 k ∧ TrisP xss k ps ∧ LL mI 0 3 25 w3.heap.size wr tv ps ∧ Below w3.heap.size w3 wr) (fun _ iv _ => xss.length - (intOf iv).toNat)
  case atStart => exact ⟨0, [], Nat.zero_le _, rfl, ⟨rfl, fun i hi => absurd hi (Nat.not_lt_zero _)⟩, LL.nil, Below.refl _ _⟩
  case round =>
    obtain ⟨k, ps, hk, rfl, htp, hll, hb⟩ := hrel
    have hszr := hb.size
    have Hll := hide hll
    have Htp := hide htp
    have hpl : ps.length ≤ 1048576 := by have := htp.1; omega
    obtain ⟨oa, oc, rfl⟩ := own_is hll.own
    clear hll htp
    by_cases hlt : k < xss.length
    · have hlt' : (k : Int) < (xss.length : Int) := by omega
      obtain ⟨_, _, e1, -, hc⟩ := (unhide Hv).below (hB3.trans (hb.mono (by omega))) (Nat.le_refl _)
      cases e1
      obtain ⟨b, off, rfl, hbn, hcell⟩ := hc (by omega)
      obtain ⟨s, hx, hs, -⟩ := hcell k hlt
      have Hs := hide hs
      have ht := tot_get xss k
      have Hb := hide (unhide HB (xss[k]?.getD []) (by rw [List.getElem?_eq_getElem hlt]; exact List.getElem_mem _))
      have Hnx := hide (fun (p : Cl Int) (hp : ∀ z, z ∈ p.xs ↔ z ∈ tr (xss[k]?.getD [])) => (unhide Htp).step hp)
      obtain ⟨sa, sc, rfl, -, -⟩ := hs
      clear hcell hc
      generalize xss[k]?.getD [] = x at *
      go_wp2_with fail
      refine (specTri_own _ x _ (unhide Hs) (unhide Hb) (by omega)).mono ?_
      rintro e w5 ⟨⟨v5, ys, rfl, ho, hle, hown⟩, hb5⟩
      have Hst := hide (LI.push (unhide Hll) hszr hb5 hb hown)
      have Hk := hide ((unhide Hll).keep hb5 (Nat.le_refl _))
      have hz5 := hb5.size
      have Ho := hide ho
      obtain ⟨ya, yc, rfl⟩ := own_is hown
      clear hown ho hb5 Hll
      go_wp2_with (at_builtin; refine wpList_append_own _ rfl _ _ 26 rfl w3.heap.size 25 j0 (.slice none 0 0) 1 24 Try.underlying26 hj hy0 hy1 hy2 rfl (by decide) _ _ _ rfl (World.ownsRow.alloc (w := w5) (unhide Hk).own _) ⟨w5.heap.size, 0, none⟩ 1 1 [.slice ya ys.length yc] rfl rfl ?_ ?_ ?_ ?_ ?_ ?_)
      · exact cell_1 (by simp)
      · intro u hu; simp at hu; subst hu; rfl
      · unfold maxLen; omega
      · omega
      · rw [sz_alloc]; omega
      intro v6 w6 h5 hg5 _
      have h3 := hide (unhide Hst w6 v6 h5 hg5)
      obtain ⟨g3, cap3, rfl⟩ := ownsRow_succ h5
      clear h5 hg5
      go_wp2
      obtain ⟨p, r1, r2, r3⟩ := unhide h3
      exact ⟨⟨k + 1, ps ++ [p], by omega, by go_num, unhide Hnx p (by rw [r1]; exact (unhide Ho).mem), r2, r3⟩, by simp [intOf]; omega⟩
    · obtain rfl : k = xss.length := by omega
      obtain ⟨w4, hw4⟩ : ∃ w4, w4 = wr := ⟨_, rfl⟩
      rw [← hw4] at hb hszr Hll ⊢
      clear hw4
      have hlt' : ¬ ((xss.length : Nat) : Int) < (xss.length : Int) := by omega
      have St0 : Hid (PInv base xss ks w1.heap.size w2.heap.size w3.heap.size w4.heap.size w1 w4 (.slice la xss.length lc) (.slice ka ks.length kc) (.slice oa ps.length oc) (ps.map Cl.xs) 0 (.slice none 0 0) [] ∧ EO w4.heap.size w4 [] ∧ w4.ownsRow (w1.heap.size + 1) 3 1 (.slice ka ks.length kc) ks.length (ks.map mI)) :=
        ⟨⟨rfl, fun i hi => absurd hi (Nat.not_lt_zero _), (unhide RS3).below hb (by omega), LL.nil, hB13.trans (hb.mono (by omega)), (unhide SK3).keep hb (by omega), (unhide Hll).foot (by decide) (by unfold maxLen; omega), Nat.le_refl _⟩, (fun q hq => absurd hq List.not_mem_nil), own_keep (unhide KO3) hb (Nat.le_refl _)⟩
      have Hv4 : Hid (SsAt mB 0 w4.heap.size w4 (.slice a xss.length cap) xss) := (unhide Hv).below (hB3.trans (hb.mono (by omega))) (Nat.le_refl _)
      clear Hll RS3 SK3
      go_wp2_with fail
      go_loopw [8] (fun jv wr => ∃ (m : Nat) (pv : Value) (qs : List (Cl Int)), m ≤ ks.length ∧ jv = .int .i64 m ∧ PInv base xss ks w1.heap.size w2.heap.size w3.heap.size w4.heap.size w1 wr (.slice la xss.length lc) (.slice ka ks.length kc) (.slice oa ps.length oc) (ps.map Cl.xs) m pv qs ∧ EO w4.heap.size wr qs ∧ wr.ownsRow (w1.heap.size + 1) 3 1 (.slice ka ks.length kc) ks.length (ks.map mI)) (fun jv _ => ks.length - (intOf jv).toNat)
      case atStart => exact ⟨0, _, [], Nat.zero_le _, rfl, unhide St0⟩
      case round =>
        obtain ⟨m, pv, qs, hm, rfl, hst⟩ := hrel
        have Hst := hide hst
        obtain ⟨qa, qc, rfl⟩ := own_is hst.1.ll.own
        obtain ⟨f0, f1, f2, f3, g0, g1, g2, g3⟩ := hst.1.box.facts
        have hqz := hst.1.size
        clear hst St0
        by_cases hmk : m < ks.length
        · have hmk' : (m : Int) < (ks.length : Int) := by omega
          obtain ⟨V, hV⟩ : ∃ V, V = wr := ⟨_, rfl⟩
          rw [← hV] at Hst f0 f1 f2 f3 g0 g1 g2 g3 hqz ⊢
          clear hV
          go_wp2_with fail
          go_loopw [9, 10] (fun lv iv wr => ∃ (n : Nat) (l : List Int), n ≤ xss.length ∧ l.length ≤ n ∧ iv = .int .i64 n ∧ PostP base xss (ks[m]?.getD 0) n l ∧ wr.ownsRow V.heap.size 3 1 lv l.length (l.map mI) ∧ Below V.heap.size V wr) (fun _ iv _ => xss.length - (intOf iv).toNat)
          case atStart => exact ⟨0, [], Nat.zero_le _, Nat.le_refl _, rfl, ⟨List.Pairwise.nil, fun x => by simp⟩, World.ownsRow_nil _ _ _ _, Below.refl _ _⟩
          case round =>
            obtain ⟨n, l, hn, hln, rfl, hpp, hown, hbl⟩ := hrel
            have Hpp := hide hpp
            have Hown := hide hown
            have hszl := hbl.size
            obtain ⟨xa, xc, rfl⟩ := own_is hown
            clear hpp hown
            by_cases hnx : n < xss.length
            · have hnx' : (n : Int) < (xss.length : Int) := by omega
              have hz3k : ps.length = xss.length := (unhide Htp).1
              obtain ⟨_, _, e1, -, hct⟩ := ((unhide Hst).1.tris.keep hbl hqz).all (by omega)
              rw [List.length_map] at e1 hct
              cases e1
              obtain ⟨tb, toff, rfl, htb, hcell⟩ := hct (by omega)
              obtain ⟨tv, hx, hs, -⟩ := hcell n (by omega)
              have Hs := hide hs
              obtain ⟨ta, tc, rfl, -, -⟩ := hs
              have hTm := hide ((unhide Htp).2 n (by omega))
              obtain ⟨_, _, e2, -, hck⟩ := ((unhide Hst).1.keys.keep hbl (by omega)).all (by omega)
              cases e2
              obtain ⟨kb, koff, rfl, -, hkb, hcellk⟩ := hck (by omega)
              have hxk := hcellk m hmk
              unfold mI at hxk
              have fb := ((unhide Hst).1.box.below hbl (by omega)).facts.2.2.1
              have hnp : (n : Int) < (ps.length : Int) := by omega
              have Hpy := hide (fun h => (unhide Hpp).yes (k := ks[m]?.getD 0) h)
              have Hpn := hide (fun h => (unhide Hpp).no (k := ks[m]?.getD 0) h)
              have hz3K := hide hz3k
              have hgr : Hid (∀ (q : Nat) (w' : World) (v' : Value), w'.ownsRow V.heap.size 3 1 v' (l.length + 1) (l.map mI ++ [.int .i64 (base + n)]) → ((wr.drewN q).alloc (.cells #[.int .i64 (base + n)] 3)).grownBy w' (Value.slice xa l.length xc).ownBlock → w'.ownsRow V.heap.size 3 1 v' (l ++ [base + n]).length ((l ++ [base + n]).map mI) ∧ Below V.heap.size V w') := fun q w' v' q1 q2 => ord_step (unhide Hown) hbl q1 q2
              clear hcell hct hcellk hck hz3k Hpp f0 f1 f2 f3 g0 g1 g2 g3
              generalize ks[m]?.getD 0 = kk at *
              generalize (ps.map Cl.xs)[n]?.getD [] = ts at *
              generalize tr (xss[n]?.getD []) = tx at *
              by_cases hin : kk ∈ ts
              · have HI := hide hin
                have Hn := hide (unhide Hpy ((unhide hTm kk).1 hin))
                clear hin Hpy Hpn
                go_wp2_with fail
                go_quiet ((go_at_call 40; refine Calls.quiet_of (l2in_yes _ _ _ _ _ (by exact unhide Hs) (Nat.le_refl _) (unhide HI))))
                go_wp2_with (at_builtin; refine wpList_append_own _ rfl _ _ 25 rfl V.heap.size 3 i0 (.int .i64 0) 1 8 Try.underlying25 hi hz0 hz1 hz2 rfl (by decide) _ _ _ rfl (World.ownsRow.alloc (w := wr.drewN nq) (unhide Hown) _) ⟨wr.heap.size, 0, none⟩ 1 1 [.int .i64 (base + n)] rfl rfl ?_ ?_ ?_ ?_ ?_ ?_)
                · refine cell_1 ?_
                  rw [World.cell?_alloc_at _ _ wr.heap.size _ (show wr.heap.size = (wr.drewN nq).heap.size from rfl)]
                  rfl
                · intro u' hu; simp at hu; subst hu; rfl
                · unfold maxLen; omega
                · omega
                · rw [sz_alloc]; show _ ≤ wr.heap.size + 1; omega
                intro v' w8 h5 hg5 _
                have hst := hide (unhide hgr nq w8 v' h5 hg5)
                clear h5 hg5
                go_wp2
                go_roundw
                case rel => exact ⟨n + 1, _, by omega, by simp; omega, by go_num, unhide Hn, (unhide hst).1, (unhide hst).2⟩
                case measure => simp [intOf]; omega
              · have HI := hide hin
                have Hn := hide (unhide Hpn (fun h => hin ((unhide hTm kk).2 h)))
                clear hin Hpy Hpn
                go_wp2_with fail
                go_quiet ((go_at_call 40; refine Calls.quiet_of (l2in_no _ _ _ _ _ (by exact unhide Hs) (Nat.le_refl _) (unhide HI))))
                go_wp2
                go_roundw
                case rel => exact ⟨n + 1, l, by omega, by omega, by go_num, unhide Hn, unhide Hown, below_drewN hbl _⟩
                case measure => simp [intOf]; omega
            · obtain rfl : n = xss.length := by omega
              have Hpost : Hid (PostR base xss (ks[m]?.getD 0) l) := unhide Hpp
              have hbx := ((unhide Hst).1.box.below hbl (by omega)).facts
              have fb3 := hbx.2.2.2.1
              have gb3 := hbx.2.2.2.2.2.2.2
              have Hne := hide (post_ne (unhide HK) hmk (unhide Hpost))
              have Hpu := hide (LI.push2 (unhide Hst).1.ll (unhide Hst).2.1 (by omega) hbl (Below.refl _ V) (unhide Hown) (unhide Hne))
              have Hkp := hide ((unhide Hst).1.ll.keep hbl (Nat.le_refl _))
              have Hfx : Hid (∀ w' : World, Below w4.heap.size V w' → w'.cell? ⟨w1.heap.size, 3, none⟩ = some (.slice qa qs.length qc) ∧ w'.frozen? ⟨w1.heap.size, 3, none⟩ = false) := fun w' hb' => by
                have := ((unhide Hst).1.box.below hb' (by omega)).facts
                exact ⟨this.2.2.2.1, this.2.2.2.2.2.2.2⟩
              have hql : qs.length ≤ 1048576 := by have := (unhide Hst).1.len; omega
              clear hbx Hpp f0 f1 f2 f3 g0 g1 g2 g3
              go_wp2_with (at_builtin; refine wpList_append_own _ rfl _ _ 26 rfl w4.heap.size 25 j0 (.slice none 0 0) 1 24 Try.underlying26 hj hy0 hy1 hy2 rfl (by decide) _ _ _ rfl (World.ownsRow.alloc (w := wr) (unhide Hkp).own _) ⟨wr.heap.size, 0, none⟩ 1 1 [.slice xa l.length xc] rfl rfl (cell_1 (by simp)) (by intro u hu; simp at hu; subst hu; rfl) (by unfold maxLen; omega) (by omega) (by rw [sz_alloc]; omega) ?_; intro v7 w7 h5 hg5 _; have h7 := hide (unhide Hpu w7 v7 h5 hg5); obtain ⟨gg, cap7, rfl⟩ := ownsRow_succ h5; obtain ⟨f7, g7⟩ := unhide Hfx w7 (by obtain ⟨_, _, _, r, _⟩ := unhide h7; exact r); clear h5 hg5)
              obtain ⟨p, r1, r2, r3, r4⟩ := unhide h7
              have hnew := (unhide Hst).1.step (by omega) hz3' (by omega) (p := p) (by rw [r1]; exact unhide Hpost) r2 r3
              refine ⟨⟨m + 1, _, _, by omega, by go_num, hnew, (fun q hq => (r4 q hq).putlo (by omega)), own_same (unhide Hst).2.2 (fun g hg => ?_)⟩, by simp [intOf]; omega⟩
              have hg1 := ((unhide Hst).2.2.lt g hg).1
              have hg2 := unhide KG g hg
              rw [Below.heap_setCell _ _ _ _ (by show g ≠ w1.heap.size; omega)]
              exact r3.block g (by omega)
        · have hmk' : ¬ (m : Int) < (ks.length : Int) := by omega
          have Hseg : Hid (SegR base xss ks (qs.map Cl.xs)) := ⟨unhide HK, by rw [List.length_map, (unhide Hst).1.len]; omega, fun j hj => (unhide Hst).1.post j (by omega)⟩
          obtain ⟨r0, r1, r2, r3, s0, s1, s2, s3⟩ := ((unhide RR).below (unhide Hst).1.bel (by omega)).facts
          have hRR := hide ((unhide RR).below (unhide Hst).1.bel (by omega))
          clear f0 f1 f2 f3 g0 g1 g2 g3
          obtain ⟨f0, f1, f2, f3, g0, g1, g2, g3⟩ := (unhide Hst).1.box.facts
          go_wp2_with fail
          obtain ⟨e0, e1, e2, e3, -⟩ := ((((unhide hRR).put0 (u := .int .i64 base)).put1 (u := .slice la xss.length lc)).put2 (u := .slice ka ks.length kc)).put3 (u := .slice qa qs.length qc) |>.facts
          have hblk : ∀ k, k ≠ w.heap.size → ((((wr.setCell ⟨w.heap.size, 0, none⟩ (.int .i64 base)).setCell ⟨w.heap.size, 1, none⟩ (.slice la xss.length lc)).setCell ⟨w.heap.size, 2, none⟩ (.slice ka ks.length kc)).setCell ⟨w.heap.size, 3, none⟩ (.slice qa qs.length qc)).heap[k]? = wr.heap[k]? := fun k hk => by
            rw [Below.heap_setCell _ _ _ _ (by exact hk), Below.heap_setCell _ _ _ _ (by exact hk), Below.heap_setCell _ _ _ _ (by exact hk), Below.heap_setCell _ _ _ _ (by exact hk)]
          have hBf : Below w.heap.size w ((((wr.setCell ⟨w.heap.size, 0, none⟩ (.int .i64 base)).setCell ⟨w.heap.size, 1, none⟩ (.slice la xss.length lc)).setCell ⟨w.heap.size, 2, none⟩ (.slice ka ks.length kc)).setCell ⟨w.heap.size, 3, none⟩ (.slice qa qs.length qc)) := bput (bput (bput (bput (hB1.trans ((unhide Hst).1.bel.mono (by omega))) (Nat.le_refl _) _) (Nat.le_refl _) _) (Nat.le_refl _) _) (Nat.le_refl _) _
          have hll := ((((unhide Hst).1.ll.putlo (B := w.heap.size) (o := 0) (u := .int .i64 base) (by omega)).putlo (B := w.heap.size) (o := 1) (u := .slice la xss.length lc) (by omega)).putlo (B := w.heap.size) (o := 2) (u := .slice ka ks.length kc) (by omega)).putlo (B := w.heap.size) (o := 3) (u := .slice qa qs.length qc) (by omega)
          have hsz : w1.heap.size ≤ wr.heap.size := (unhide Hst).1.bel.size
          have hszf : ((((wr.setCell ⟨w.heap.size, 0, none⟩ (.int .i64 base)).setCell ⟨w.heap.size, 1, none⟩ (.slice la xss.length lc)).setCell ⟨w.heap.size, 2, none⟩ (.slice ka ks.length kc)).setCell ⟨w.heap.size, 3, none⟩ (.slice qa qs.length qc)).heap.size = wr.heap.size := by simp only [sz_put]
          refine bodyPost_ret (v := .agg #[.int .i64 base, .slice la xss.length lc, .slice ka ks.length kc, .slice qa qs.length qc]) (by simp [results, Try.results20, go_sem, e0, e1, e2, e3]) rfl ⟨⟨_, ks, qs.map Cl.xs, rfl, unhide Hseg, ⟨_, _, _, w1.heap.size + 1, w4.heap.size, _, qs, rfl, ⟨by omega, by omega, by rw [hszf]; exact hqz⟩, ⟨unhide HLP, ?_, ?_⟩, ⟨?_, ?_⟩, rfl, hll, ?_⟩⟩, hBf⟩
          · exact LL.putlo (LL.putlo (LL.putlo (LL.putlo ((unhide HLB).keep (unhide Hst).1.bel (Nat.le_refl _)) (by omega)) (by omega)) (by omega)) (by omega) |>.low (by omega)
          · exact ⟨fun g hg => Nat.lt_succ_of_lt ((unhide HLB).own.lt g hg).2, fun p hp h0 => Nat.lt_succ_of_lt (((unhide HLB).ok p hp).lt h0)⟩
          · exact own_same (unhide Hst).2.2 (fun g hg => hblk g (by have := ((unhide Hst).2.2.lt g hg).1; omega))
          · exact fun g hg => Nat.lt_of_lt_of_le (unhide KG g hg) (by omega)
          · exact fun q hq => ((((unhide Hst).2.1 q hq).putlo (by omega)).putlo (by omega)).putlo (by omega) |>.putlo (by omega)

end Go.Proofs.Ytkajdhliejjohaa
