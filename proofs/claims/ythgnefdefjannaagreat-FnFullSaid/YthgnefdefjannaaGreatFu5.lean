import Derived.Test.YthgnefdefjannaaGreatFu6
import Derived.Test.YthgnefdefjannaaGreatSt12
import Derived.Deep.CutBlock
import Derived.Deep.DeepCutAuto
namespace Go.Proofs.YthgnefdefjannaaGreat
open Go.RowKit

theorem rows_apart {lo lo' : Nat} {w : World} {lv sv : Value} {ps : List (Cl Int)} {ss : List Sv} (h : LB lo w lv ps) (hs : SgRow lo' w sv ss) : ∀ q, lv.ownBlock = some q → sv.ownBlock ≠ some q := by
  intro q h1 h2
  rcases h.own.2 with ⟨rfl, -⟩ | ⟨g, cap, cur, rfl, -, hg, -⟩
  · simp [Value.ownBlock] at h1
  · rcases hs.own.2 with ⟨rfl, -⟩ | ⟨g', cap', cur', rfl, -, hg', -⟩
    · simp [Value.ownBlock] at h2
    · simp only [Value.ownBlock, Option.some.injEq] at h1 h2
      subst h1
      subst h2
      rw [hg] at hg'
      simp at hg'
theorem dG_end {n nl : Nat} {zs ts : List Int} {X : List (List Int)} (e1 : (dM zs).1 = X) (e2 : (dM zs).2 = ts) (h : ts.headD 0 % 4 = 0) : dG (n + 1) nl zs = ([], X, ts.tail) := by
  rw [dG, e1, e2, if_pos h]
theorem dG_more {n nl : Nat} {zs ts : List Int} {X : List (List Int)} (e1 : (dM zs).1 = X) (e2 : (dM zs).2 = ts) (h : ¬ ts.headD 0 % 4 = 0) : dG (n + 1) nl zs = ((nl, X) :: (dG n (nl + X.length) ts.tail).1, (dG n (nl + X.length) ts.tail).2) := by
  rw [dG, e1, e2, if_neg h]

/-- What the first loop of l5drawState leaves. -/
def DrawOut (N D lo : Nat) (w wr : World) (lv sv op : Value) (B O : List (List Int)) (zs : List Int) : Prop :=
  ∃ (ps : List (Cl Int)) (ss : List Sv) (o : Nat), op = .int .i64 o ∧ o ≤ ps.length ∧ ps.length ≤ 25 ∧ (ps.map Cl.xs).drop (ps.length - o) = O ∧ tot O ≤ 100 ∧ LB lo wr lv ps ∧ SgRow lo wr sv ss ∧ ss.length ≤ 5 ∧ (∀ s ∈ ss, EncIn s.g.b s.g.xs s.g.ks s.g.pss) ∧ ss.map (fun s => encG s.g) = B ∧ CdAt N D wr zs ∧ Mv lo D w wr

set_option maxHeartbeats 16000000 in
set_option maxRecDepth 100000 in
theorem l5drawState_any (E : Nat → List (List Int) → List Int) (hE : EncE E) (N D : Nat) (xs : List Int) (w : World) (h : CdAt N D w xs) (hx : Cod xs) (hD : D < w.heap.size) :
    Calls Tryz.prog 27 #[.pointer (some ⟨D, 0, none⟩)] w fun e w' => (∃ sv ov ps qs, e = .returned (.agg #[sv, ov]) ∧ StL w.heap.size w' sv ov ps qs ∧ ps.map Cl.xs = dSegs E (dS xs).1 ∧ qs.map Cl.xs = (dS xs).2.1) ∧ CdAt N D w' (dS xs).2.2 ∧ Mv w.heap.size D w w' := by
  obtain ⟨i0, hi, hz0, hz1, hz2⟩ := info_parts Tryz.zinByteS
  have HEE0 := hide hE
  have HX := hide hx
  have hh := hx.head
  obtain ⟨y, hy⟩ : ∃ y, xs.headD 0 = y := ⟨_, rfl⟩
  have hdS : dS xs = dG (1 + y % 5).toNat 0 xs.tail := by unfold dS; rw [hy]
  rw [hy] at hh
  have HY := hide hy
  obtain ⟨n, hn⟩ : ∃ n : Nat, (1 + y % 5).toNat = n := ⟨_, rfl⟩
  have hn5 : n ≤ 5 := by omega
  have HN : Hid (1 + y % 5 = (n : Int)) := by show 1 + y % 5 = (n : Int); omega
  obtain ⟨R, hR⟩ : ∃ R, dG n 0 xs.tail = R := ⟨_, rfl⟩
  rw [hdS, hn, hR]
  have HR := hide hR
  have hRo : tot R.2.1 ≤ 100 := by rw [← hR]; exact (dG_ok n 0 xs.tail hx.tail).2.2.1.2.1
  have HRO := hide hRo
  clear hy hdS hn hR hE hx hRo
  have hb0 := below1 w (.cells #[.slice none 0 0, .slice none 0 0] 25)
  have RR := Row2.new w 25 (.slice none 0 0) (.slice none 0 0)
  have hzV : (w.alloc (.cells #[.slice none 0 0, .slice none 0 0] 25)).heap.size = w.heap.size + 1 := sz_alloc _ _
  have H := hide (h.keep hb0 hD)
  clear h
  go_enter Tryz.func27, Tryz.ntmps27
  go_wp2_with fail
  generalize w.alloc (.cells #[.slice none 0 0, .slice none 0 0] 25) = V at *
  have hVz : w.heap.size + 1 ≤ V.heap.size := by omega
  have HRR := hide RR
  clear hzV RR
  refine (next_any N D xs V (unhide H) (unhide HX)).mono ?_
  rintro e w1 ⟨he, hc1, ho1⟩
  rw [unhide HY] at he
  subst he
  have HC1 := hide hc1
  have HM1 := hide (ho1.mv (w.heap.size + 1))
  clear hc1 ho1
  go_upto_block 0 with fail
  go_cut [3, 4, 6] (fun lv sv op wx => DrawOut N D (w.heap.size + 1) V wx lv sv op (dSegs E R.1) R.2.1 R.2.2)
  case first =>
    go_wp2_with fail
    go_loopw [3, 4, 6, 7] (fun lv sv op i wr => ∃ (m : Nat) (zs : List Int) (ps : List (Cl Int)) (ss : List Sv), m ≤ n ∧ i = .int .i64 (m : Nat) ∧ op = .int .i64 0 ∧ Cod zs ∧ ps.length ≤ 5 * m ∧ ss.length ≤ m ∧ (ss.map (fun s => encG s.g) ++ dSegs E (dG (n - m) ps.length zs).1 = dSegs E R.1 ∧ (dG (n - m) ps.length zs).2 = R.2) ∧ (∀ s ∈ ss, EncIn s.g.b s.g.xs s.g.ks s.g.pss) ∧ LB (w.heap.size + 1) wr lv ps ∧ SgRow (w.heap.size + 1) wr sv ss ∧ (∀ q, lv.ownBlock = some q → ∀ s ∈ ss, q < s.l ∨ s.h ≤ q) ∧ CdAt N D wr zs ∧ Mv (w.heap.size + 1) D V wr) (fun _ _ _ i _ => n - (intOf i).toNat)
    case atStart =>
      exact ⟨0, xs.tail, [], [], Nat.zero_le _, rfl, rfl, (unhide HX).tail, Nat.le_refl _, Nat.le_refl _, ⟨by rw [Nat.sub_zero, List.length_nil, unhide HR]; rfl, by rw [Nat.sub_zero, List.length_nil, unhide HR]⟩, fun s hs => absurd hs List.not_mem_nil, LL.nil, SgRow.nil _ _, fun q _ s hs => absurd hs List.not_mem_nil, unhide HC1, unhide HM1⟩
    case round =>
      obtain ⟨m, zs, ps, ss, hm, rfl, rfl, hzs, hpl, hsl, heq, hen, hll, hsg, hsep, hcd, hmv⟩ := hrel
      have HLL := hide hll
      have HSG := hide hsg
      have HSEP := hide hsep
      have HCD := hide hcd
      have HMV := hide hmv
      have HZ := hide hzs
      have HEN := hide hen
      have hszr := hmv.size
      obtain ⟨oa, oc, rfl⟩ := own_is hll.own
      obtain ⟨ga, gc, rfl⟩ := hsg.form
      have hpl2 : ps.length ≤ 25 := by omega
      have hsl2 : ss.length ≤ 5 := by omega
      by_cases hlt : m < n
      · have hlt' : (m : Int) < 1 + y % 5 := by have := unhide HN; omega
        obtain ⟨q, hq⟩ : ∃ q, n - m = q + 1 := ⟨n - m - 1, by omega⟩
        have HQ : Hid (n - (m + 1) = q) := by show n - (m + 1) = q; omega
        have hpl3 : ps.length + 5 ≤ 5 * (m + 1) := by omega
        have hsl3 : ss.length + 1 ≤ m + 1 := by omega
        rw [hq] at heq
        have HEQ := hide heq
        obtain ⟨⟨hM1, hM1'⟩, hM2, hM3, hM4⟩ := dM_ok zs hzs
        have hnl := dLs_nl (1 + zs.headD 0 % 5).toNat zs.tail
        obtain ⟨X, hX⟩ : ∃ X, (dM zs).1 = X := ⟨_, rfl⟩
        obtain ⟨ts, hts⟩ : ∃ ts, (dM zs).2 = ts := ⟨_, rfl⟩
        have hXe : dLs (1 + zs.headD 0 % 5).toNat zs.tail = (X, ts) := by rw [← hX, ← hts]; rfl
        rw [hXe] at hnl
        rw [hX] at hM1 hM1' hM2 hM3
        rw [hts] at hM4
        have hc := hM4.head
        obtain ⟨c, hce⟩ : ∃ c, ts.headD 0 = c := ⟨_, rfl⟩
        rw [hce] at hc
        have HXE := hide hXe
        have HEX := hide hX
        have HET := hide hts
        have HCE := hide hce
        have HTS := hide hM4
        have HNL : Hid (∀ l ∈ X, NoNl l) := hnl
        have HXB : Hid (∀ x ∈ X, Bytes x) := fun x hx => bytes_of_mem (hM3 x hx)
        clear hll hsg hsep hcd hmv hzs hen heq hq hX hts hXe hce hM3 hM4 hnl
        go_wp2_with fail
        refine (l4drawLines_any N D zs 5 wr (unhide HCD) (unhide HZ) (by omega) (by omega) (by omega)).mono ?_
        rintro e w2 ⟨⟨mv, rfl, qs, hqs, hlq⟩, hc2, hm2⟩
        rw [unhide HXE] at hqs hc2
        have hz2 : wr.heap.size ≤ w2.heap.size := hm2.size
        have hql : X.length = qs.length := by rw [← List.length_map (f := Cl.xs), hqs]
        have hql2 : qs.length ≤ 5 := by omega
        have HQL := hide hql
        have HQS := hide hqs
        have HLQ := hide hlq
        have HM2 := hide hm2
        have HPB : Hid (∀ p ∈ ps, ∀ q ∈ qs, 0 < p.xs.length → 0 < q.xs.length → p.b ≠ q.b) := fun p hp q hq h0 h1 e => by
          have h2 := ((unhide HLL).ok p hp).lt h0
          have h3 := hlq.lo q hq h1
          omega
        obtain ⟨la, lc, rfl⟩ := own_is hlq.own
        clear hqs hlq hm2 hql
        go_wp2_with fail
        refine (next_any N D ts w2 hc2 (unhide HTS)).mono ?_
        rintro e w3 ⟨he, hc3, ho3⟩
        rw [unhide HCE] at he
        subst he
        have hM3 : Mv w2.heap.size D w2 w3 := ho3.mv _
        have hz3 : w2.heap.size ≤ w3.heap.size := hM3.size
        have hM13 : Mv (w.heap.size + 1) D V w3 := ((unhide HMV).trans ((unhide HM2).mono (by omega))).trans (hM3.mono (by omega))
        have HC3 := hide hc3
        have HLL3 := hide (((unhide HLL).keepMv (unhide HM2) (Nat.le_refl _) (by omega)).keepMv hM3 (Nat.le_refl _) (by omega))
        have HLQ3 := hide ((unhide HLQ).keepMv hM3 (Nat.le_refl _) (by omega))
        have HSG3 := hide (((unhide HSG).mv (unhide HM2) (Nat.le_refl _) (Or.inl (by omega))).mv hM3 (Nat.le_refl _) (Or.inl (by omega)))
        clear hc2 hc3 ho3 hM3 HM2 HLQ HLL HSG HMV HCD
        by_cases hc4 : c % 4 = 0
        · have HD : Hid (ss.map (fun s => encG s.g) = dSegs E R.1 ∧ (X, ts.tail) = R.2) := by
            have h1 := unhide HEQ
            rw [dG_end (unhide HEX) (unhide HET) (by rw [unhide HCE]; exact hc4)] at h1
            exact ⟨by have := h1.1; simpa [dSegs] using this, h1.2⟩
          go_wp2_with (at_builtin; refine app_all2 (w.heap.size + 1) rfl _ _ rfl _ _ ps qs rfl (unhide HLL3) rfl ((unhide HLQ3).low (by omega)) (unhide HPB) (by omega) (by omega) ?_)
          intro v' w4 h4 hg4 ho4
          have hB4 : Below (w.heap.size + 1) w3 w4 := (Below.refl _ w3).grown hg4 (by omega) (fun j hj => ((unhide HLL3).own.lt j hj).1)
          have HL4 := hide h4
          have HSG4 := hide ((unhide HSG3).beside hg4 (rows_apart (unhide HLL3) (unhide HSG3)) (fun q hq => unhide HSEP q hq))
          have HC4 := hide ((unhide HC3).keep hB4 (by omega))
          have hM4 : Mv (w.heap.size + 1) D V w4 := hM13.trans (Below.mv hB4 D)
          obtain ⟨va, vc, rfl⟩ := own_is h4.own
          clear h4 hg4 ho4
          go_wp2
          go_meet
          case rel =>
            refine ⟨ps ++ qs, ss, qs.length, rfl, by simp, by simp; omega, ?_, unhide HRO, unhide HL4, unhide HSG4, hsl2, unhide HEN, (unhide HD).1, ?_, hM4⟩
            · have e1 : (ps ++ qs).length - qs.length = (ps.map Cl.xs).length := by simp
              rw [e1, List.map_append, List.drop_left, unhide HQS, ← (unhide HD).2]
            · rw [← (unhide HD).2]
              exact unhide HC4
        · obtain ⟨G, hG⟩ : ∃ G, dG q (ps.length + X.length) ts.tail = G := ⟨_, rfl⟩
          have HD : Hid (ss.map (fun s => encG s.g) ++ E ps.length X :: dSegs E G.1 = dSegs E R.1 ∧ G.2 = R.2) := by
            have h1 := unhide HEQ
            rw [dG_more (unhide HEX) (unhide HET) (by rw [unhide HCE]; exact hc4), hG] at h1
            exact h1
          have HG := hide hG
          have HSS : Hid (SsAt mB 0 w3.heap.size w3 (.slice la qs.length lc) X) := by
            have := (LB.footR (unhide HLQ3)).all (Nat.le_refl _)
            rw [unhide HQS] at this
            exact this
          have hfit : Fits (ps.length : Int) X := ⟨by omega, by omega, by omega, plain_of (unhide HNL), by omega⟩
          have HFIT := hide hfit
          clear hG hfit
          go_wp2_with fail
          refine (l4build_any (ps.length : Int) _ X w3 (unhide HSS) (unhide HXB) (by omega) (by omega) (by omega) (by omega)).mono ?_
          rintro e w4 ⟨⟨v4, ks, pss, rfl, hsr, hat⟩, hb4⟩
          have hz4 := hb4.size
          have HSR := hide hsr
          have hsl4 := segR_len hsr (by omega)
          have HENC := hide (built_enc (unhide HFIT) hsr (unhide HXB) (by omega) (by omega))
          have HEX2 := hide (unhide HEE0 ps.length X ks pss hsr)
          have HSA := hide hat.a
          obtain ⟨p1, q1, p2, q2, p3, q3, rfl⟩ := hat.rd.val
          have HLL4 := hide ((unhide HLL3).keep hb4 (Nat.le_refl _))
          have HLQ4 := hide ((unhide HLQ3).keep hb4 (Nat.le_refl _))
          have HC4 := hide ((unhide HC3).keep hb4 (by omega))
          have hM14 : Mv (w.heap.size + 1) D V w4 := hM13.trans (Below.mv (hb4.mono (by omega)) D)
          have HB4 := hide hb4
          clear hsr hat hb4 hsl4
          go_wp2_with (at_builtin; first
            | (refine app_all2 (w.heap.size + 1) rfl _ _ rfl _ _ ps qs rfl (unhide HLL5) rfl ((unhide HLQ5).low (by omega)) (unhide HPB) (by omega) (by omega) ?_; intro v' w6 h6 hg6 ho6)
            | (refine app_sg (wr := w3) (w1 := w4) (D := D) ⟨.slice p1 X.length q1, .slice p2 ks.length q2, .slice p3 pss.length q3, ⟨ps.length, X, ks, pss⟩, w3.heap.size, w4.heap.size⟩ rfl _ _ rfl rfl _ rfl rfl (unhide HSG3) (by omega) (Below.mv (unhide HB4) _) (Or.inl (by omega)) (unhide HSA) (Nat.le_refl _) (Nat.le_refl _) ⟨rfl, rfl, rfl⟩ ⟨rfl, rfl, rfl, rfl⟩ (by omega) ?_; intro sv' w5 r1 r2 r3; have hz5 : w4.heap.size ≤ w5.heap.size := r2.size; have HSG5 := hide r1; have HLL5 := hide (LB.besideSg (unhide HLL4) ((unhide HSG3).keep (unhide HB4) (Nat.le_refl _)) r2); have HLQ5 := hide (LB.besideSg (unhide HLQ4) ((unhide HSG3).keep (unhide HB4) (Nat.le_refl _)) r2); have hB5 : Below (w.heap.size + 1) w4 w5 := (Below.refl _ w4).grown r2 (by omega) (fun j hj => ((unhide HSG3).own.lt j hj).1); obtain ⟨ga', gc', rfl⟩ := r1.form; clear r1 r2 r3))
          have hB6 : Below (w.heap.size + 1) w5 w6 := (Below.refl _ w5).grown hg6 (by omega) (fun j hj => ((unhide HLL5).own.lt j hj).1)
          have HL6 := hide h6
          have hlb : ∀ q, (Value.slice oa ps.length oc).ownBlock = some q → q < w3.heap.size := fun q hq => ((unhide HLL3).own.lt q hq).2
          have hsep5 : ∀ q, (Value.slice oa ps.length oc).ownBlock = some q → ∀ s ∈ ss ++ [(⟨.slice p1 X.length q1, .slice p2 ks.length q2, .slice p3 pss.length q3, ⟨ps.length, X, ks, pss⟩, w3.heap.size, w4.heap.size⟩ : Sv)], q < s.l ∨ s.h ≤ q := fun q hq s hs => by
            rcases List.mem_append.1 hs with hs | hs
            · exact unhide HSEP q hq s hs
            · rw [List.mem_singleton] at hs
              subst hs
              exact Or.inl (hlb q hq)
          have HSG6 := hide ((unhide HSG5).beside hg6 (rows_apart (unhide HLL5) (unhide HSG5)) hsep5)
          have HSEP6 : Hid (∀ q, v'.ownBlock = some q → ∀ s ∈ ss ++ [(⟨.slice p1 X.length q1, .slice p2 ks.length q2, .slice p3 pss.length q3, ⟨ps.length, X, ks, pss⟩, w3.heap.size, w4.heap.size⟩ : Sv)], q < s.l ∨ s.h ≤ q) := fun q hq s hs => by
            have ho7 : OwnS w5 (.slice oa ps.length oc) v' := ho6
            rcases ho7 with ho6 | ⟨j, hj, ho6⟩
            · exact hsep5 q (by rw [← ho6]; exact hq) s hs
            · rw [ho6] at hq
              simp only [Option.some.injEq] at hq
              have := ((unhide HSG5).blk s hs).2.1
              omega
          have HC6 := hide (((unhide HC4).keep hB5 (by omega)).keep hB6 (by omega))
          have hM6 : Mv (w.heap.size + 1) D V w6 := (hM14.trans (Below.mv hB5 D)).trans (Below.mv hB6 D)
          obtain ⟨va, vc, rfl⟩ := own_is h6.own
          clear h6 hg6 ho6 hsep5 hlb
          rw [List.length_append, List.length_singleton] at HSG6
          go_wp2
          go_roundw
          case rel =>
            refine ⟨m + 1, ts.tail, ps ++ qs, _, by omega, by go_num, rfl, (unhide HTS).tail, by rw [List.length_append]; omega, by simp; omega, ⟨?_, ?_⟩, ?_, unhide HL6, unhide HSG6, unhide HSEP6, unhide HC6, hM6⟩
            · rw [unhide HQ, List.length_append, ← unhide HQL, unhide HG, List.map_append, List.append_assoc]
              show _ ++ encG ⟨ps.length, X, ks, pss⟩ :: dSegs E G.1 = _
              rw [show encG ⟨(ps.length : Int), X, ks, pss⟩ = E ps.length X from unhide HEX2]
              exact (unhide HD).1
            · rw [unhide HQ, List.length_append, ← unhide HQL, unhide HG]
              exact (unhide HD).2
            · intro s hs
              rcases List.mem_append.1 hs with hs | hs
              · exact unhide HEN s hs
              · rw [List.mem_singleton] at hs
                subst hs
                exact unhide HENC
          case measure => simp [intOf]; omega
      · obtain rfl : m = n := by omega
        have hlt' : ¬ (m : Int) < 1 + y % 5 := by have := unhide HN; omega
        rw [Nat.sub_self] at heq
        have HEQ := hide heq
        clear hll hsg hsep hcd hmv hzs hen heq
        go_wp2
        go_meet
        case rel =>
          have h1 := unhide HEQ
          rw [dG] at h1
          refine ⟨ps, ss, 0, rfl, Nat.zero_le _, by omega, ?_, unhide HRO, unhide HLL, unhide HSG, hsl2, unhide HEN, by have := h1.1; simpa [dSegs] using this, ?_, unhide HMV⟩
          · rw [Nat.sub_zero, ← List.length_map (f := Cl.xs), List.drop_length, ← h1.2]
          · rw [← h1.2]; exact unhide HCD
  case rest =>
    obtain ⟨ps, ss, o, rfl, hop, hpl, hdr, hto, hll, hsg, hsl, hen, hBe, hcd, hmv⟩ := hcut
    obtain ⟨w3, hw3⟩ : ∃ w3, w3 = wc := ⟨_, rfl⟩
    rw [← hw3] at hll hsg hcd hmv ⊢
    clear hw3
    have HLL := hide hll
    have HSG := hide hsg
    have HCD := hide hcd
    have HMV := hide hmv
    have HEN := hide hen
    have HBE := hide hBe
    have HDR := hide hdr
    have hz3 : V.heap.size ≤ w3.heap.size := hmv.size
    obtain ⟨oa, oc, rfl⟩ := own_is hll.own
    obtain ⟨ga, gc, rfl⟩ := hsg.form
    have hb3 := below1 w3 (.cells #[.slice none 0 0, .slice none 0 0] 25)
    have RS := Row2.new w3 25 (.slice none 0 0) (.slice none 0 0)
    have hzV3 : (w3.alloc (.cells #[.slice none 0 0, .slice none 0 0] 25)).heap.size = w3.heap.size + 1 := sz_alloc _ _
    clear hll hsg hcd hmv hen hBe hdr
    go_wp2_with fail
    generalize w3.alloc (.cells #[.slice none 0 0, .slice none 0 0] 25) = V3 at *
    have hVz3 : w3.heap.size + 1 ≤ V3.heap.size := by omega
    clear hzV3
    go_loopw [11] (fun iv wr => ∃ (k : Nat) (sv : Value) (us : List (Cl Int)), k ≤ ss.length ∧ us.length ≤ k ∧ iv = .int .i64 k ∧ us.map Cl.xs = (ss.map (fun s => encG s.g)).take k ∧ Row2 wr w3.heap.size 25 sv (.slice none 0 0) ∧ LB (w3.heap.size + 1) wr sv us ∧ Below w3.heap.size V3 wr) (fun iv _ => ss.length - (intOf iv).toNat)
    case atStart => exact ⟨0, _, [], Nat.zero_le _, Nat.le_refl _, rfl, by simp, RS, LL.nil, Below.refl _ _⟩
    case round =>
      obtain ⟨k, sv, us, hk, hpk, rfl, hln2, hbox, hlu, hb⟩ := hrel
      have hszr := hb.size
      have Hll := hide hlu
      have Hln := hide hln2
      have Hbx := hide hbox
      obtain ⟨la, lc, rfl⟩ := own_is hlu.own
      have hB : Below w3.heap.size w3 wr := hb3.trans hb
      clear hlu hln2 hbox
      by_cases hlt : k < ss.length
      · have hlt' : (k : Int) < (ss.length : Int) := by omega
        obtain ⟨s, hsk⟩ : ∃ s, ss[k]? = some s := ⟨ss[k], by simp [hlt]⟩
        have hmem : s ∈ ss := List.mem_of_getElem? hsk
        have hSr := (unhide HSG).keep hB (Nat.le_refl _)
        obtain ⟨q, cap, e1, hq1, hq2, c0, c1, c2, c3⟩ := hSr.at k s hsk
        obtain ⟨a1, k1, a2, k2, a3, k3, v1, v2, v3⟩ := hSr.vals s hmem
        have hrd := (hSr.seg s hmem).rd (hSr.blk s hmem).2.1
        unfold Sv.v at hrd
        rw [v1] at c1 hrd
        rw [v2] at c2 hrd
        rw [v3] at c3 hrd
        have HRD := hide hrd
        have HEK := hide (unhide HEN s hmem)
        have Hsn : Hid ((ss.map (fun s => encG s.g)).take (k + 1) = (ss.map (fun s => encG s.g)).take k ++ [encL s.g.b s.g.xs s.g.ks s.g.pss]) := by
          show _ = _
          rw [List.take_add_one, List.getElem?_map, hsk]
          rfl
        simp only [Value.slice.injEq] at e1
        obtain ⟨rfl, -, rfl⟩ := e1
        have hel := encL_len (unhide HEK)
        clear hsk hmem hSr hrd v1 v2 v3
        generalize s.g = g at *
        obtain ⟨gb, gxs, gks, gps⟩ := g
        dsimp only at c0 c1 c2 c3 HRD HEK Hsn hel
        obtain ⟨y0, y1, y2, y3⟩ := (unhide Hbx).facts4
        have hS : Hid (∀ W' : World, Below wr.heap.size wr W' → W'.cell? ⟨w3.heap.size, 0, none⟩ = some (.slice la us.length lc) ∧ W'.frozen? ⟨w3.heap.size, 0, none⟩ = false) := fun W' hW => by
          have := ((unhide Hbx).below hW (by omega)).facts4
          exact ⟨this.1, this.2.2.1⟩
        have hS2 : Hid (∀ W' : World, Below (w3.heap.size + 1) wr W' → W'.cell? ⟨w3.heap.size, 0, none⟩ = some (.slice la us.length lc) ∧ W'.frozen? ⟨w3.heap.size, 0, none⟩ = false) := fun W' hW => by
          have := ((unhide Hbx).below hW (by omega)).facts4
          exact ⟨this.1, this.2.2.1⟩
        generalize hEE : encL gb gxs gks gps = x at *
        have HEE := hide hEE
        clear hEE
        go_wp2_with fail
        go_region_law (
          (first
            | (refine step_call_o 24 #[.tmp 54] _ rfl #[.agg #[.int .i64 gb, .slice a1 gxs.length k1, .slice a2 gks.length k2, .slice a3 gps.length k3]] rfl (by first | (simp [Act.eval]; done) | (simp [Act.eval, Act.put]; done)) (run_l4encode _) (l4encode_any _ gb gxs gps gks _ (by exact unhide HRD) (unhide HEK)) ?_; rintro e w5 ⟨⟨v5, rfl, hown5⟩, hb5⟩; rw [unhide HEE] at hown5; have hB5 : Below wr.heap.size wr w5 := ⟨hb5.os, hb5.tape, hb5.output, hb5.size, hb5.block⟩; have Hown5 : Hid (w5.ownsRow wr.heap.size 5 1 v5 x.length (x.map mB)) := hown5; have hz5 := hB5.size; have HLk := hide ((unhide Hll).keep hB5 (Nat.le_refl _)); have Hpu := hide (LB.push (unhide Hll) (by omega) hB5 (Below.refl _ wr) (unhide Hown5)); obtain ⟨ya, yc, rfl⟩ := own_is hown5; obtain ⟨c5, z5⟩ := unhide hS _ hB5; obtain ⟨c6, z6⟩ := unhide hS _ (hB5.alloc hz5 (.cells #[.slice ya x.length yc] 22)); clear hown5 hb5; refine ⟨_, rfl, ?_⟩)
            | (refine step_append_lies _ rfl (.tmp 50) (.tmp 56) 23 rfl (w3.heap.size + 1) 22 i0 (.slice none 0 0) 1 24 Tryz.underlying23 hi hz0 hz1 hz2 rfl (by decide) (.slice la us.length lc) us.length (us.map Cl.v) (by first | (simp [Act.eval]; done) | (simp [Act.eval, Act.put]; done)) (by refine Pushd.own (w := w5) (o := .cells #[.slice ya x.length yc] 22) ?_ (unhide HLk).own; exact ⟨rfl, rfl, rfl, rfl⟩) ⟨w5.heap.size, 0, none⟩ 1 1 [.slice ya x.length yc] (by first | (simp [Act.eval]; done) | (simp [Act.eval, Act.put]; done)) rfl (by refine Pushd.news (w := w5) (cs := #[.slice ya x.length yc]) (t := 22) ?_; exact ⟨rfl, rfl, rfl, rfl⟩) (by intro u hu; simp at hu; subst hu; rfl) (by decide) (by unfold maxLen; omega) (by omega) (by show w3.heap.size + 1 ≤ (w5.alloc _).heap.size; rw [sz_alloc]; omega) (w5.heap.size + 1) (sz_alloc w5 _) (fun gg cap' w7 q1 q2 q3 q4 => ?_); have h7 := hide (unhide Hpu w7 (.slice (some ⟨gg, 0, none⟩) (us.length + 1) cap') q1 q2); have hB7 : Below (w3.heap.size + 1) wr w7 := (by obtain ⟨_, _, _, r⟩ := unhide h7; exact r); obtain ⟨c7, z7⟩ := unhide hS2 _ hB7; clear q1 q2 q3 q4)))
        all_goals
          go_wp2
          obtain ⟨p, r1, r2, r3⟩ := unhide h7
          exact ⟨⟨k + 1, _, us ++ [p], by omega, by simp; omega, by go_num, by rw [unhide Hsn, ← unhide Hln, ← r1, List.map_append]; rfl, ((unhide Hbx).below hB7 (by omega)).put0, r2.putlo (by omega), bput (hb.trans (hB7.mono (by omega))) (Nat.le_refl _) _⟩, by simp [intOf]; omega⟩
      · obtain rfl : k = ss.length := by omega
        have hlt' : ¬ (ss.length : Int) < (ss.length : Int) := by omega
        have Hx : Hid (us.map Cl.xs = dSegs E R.1) := by
          have := unhide Hln
          rwa [List.take_of_length_le (by simp), unhide HBE] at this
        have hzr : w3.heap.size + 1 ≤ wr.heap.size := by omega
        have HLr := hide ((unhide HLL).keep hB (Nat.le_refl _))
        have hss := (LB.footR (unhide HLr)).all (Nat.le_refl _)
        obtain ⟨K, hK⟩ : ∃ K, ps.length = K + o := ⟨ps.length - o, by omega⟩
        have hK2 : K ≤ 25 := by omega
        have ho2 : o ≤ 25 := by omega
        have hol : R.2.1.length = o := by
          rw [← unhide HDR, List.length_drop, List.length_map]
          omega
        have HOL := hide hol
        have hwK : IntKind.i64.wrap (((K + o : Nat) : Int) - (o : Int)) = (K : Int) := by rw [show (((K + o : Nat) : Int) - (o : Int)) = (K : Int) by omega]; exact k64i (by omega) (by omega)
        have HFIN : Hid (∀ (W : World) (ov : Value) (qs : List (Cl Int)), LB wr.heap.size W ov qs → LB (w3.heap.size + 1) W (.slice la us.length lc) us → StL w.heap.size W (.slice la us.length lc) ov us qs) := fun W ov qs h1 k1 => by
          refine ⟨k1.low (by omega), h1.low (by omega), fun j hj hj2 => ?_, fun p hp q hq h0 h3 e => ?_⟩
          · have := ((unhide Hll).own.lt j hj).2
            have := (h1.own.lt j hj2).1
            omega
          · have := ((unhide Hll).ok p hp).lt h0
            have := h1.lo q hq h3
            omega
        have HRw : Hid (Row2 wr w.heap.size 25 (.slice none 0 0) (.slice none 0 0)) := by
          refine World.rowIs.of_block (unhide HRR) ?_
          rw [hB.block _ (by omega), (unhide HMV).block _ (by omega) (by omega)]
        have hMw : Mv w.heap.size D w wr := ((Below.mv hb0 D).trans ((unhide HMV).mono (by omega))).trans (Below.mv (hB.mono (by omega)) D)
        have HCr := hide ((unhide HCD).keep hB (by omega))
        have HTO := hide hto
        clear hto
        rcases (unhide HLr).own.2 with ⟨e9, hz9⟩ | ⟨g9, cap9, cur9, e9, -, -, hnc9, hcm9, -⟩
        · simp only [Value.slice.injEq] at e9
          obtain ⟨rfl, h0, rfl⟩ := e9
          obtain rfl : o = 0 := by omega
          have hRn : R.2.1 = [] := List.eq_nil_of_length_eq_zero (unhide HOL)
          have HRN := hide hRn
          rw [h0]
          clear hss hK hwK hol hRn
          go_wp2_with fail
          refine (l4copy_any _ [] wr ⟨none, 0, rfl, ⟨Nat.le_refl _, Nat.zero_le _⟩, fun h => absurd h (by simp)⟩ (by simp [Go.Proofs.YthgnefdefjannaaGreat.tot]) (by simp)).mono ?_
          rintro e w5 ⟨ov, rfl, ⟨qs, hqs, hlq⟩, hb5⟩
          have HQ9 : Hid (qs.map Cl.xs = R.2.1) := by rw [unhide HRN]; exact hqs
          have hz5 := hb5.size
          have HLQ := hide hlq
          have HL5 := hide ((unhide Hll).keep hb5 (Nat.le_refl _))
          have HB5 := hide ((unhide Hbx).below hb5 (by omega))
          have HR5 := hide ((unhide HRw).below hb5 (by omega))
          have HC5 := hide ((unhide HCr).keep hb5 (by omega))
          have hM5 : Mv w.heap.size D w w5 := hMw.trans (Below.mv (hb5.mono (by omega)) D)
          obtain ⟨va, vc, rfl⟩ := own_is hlq.own
          obtain ⟨t0, t1, t2, t3⟩ := (unhide HB5).facts4
          obtain ⟨s0, s1, -⟩ := ((unhide HB5).put1 (u := .slice va qs.length vc)).facts4
          obtain ⟨u0, u1, u2, u3⟩ := ((unhide HR5).other (b' := w3.heap.size) (o := 1) (u := .slice va qs.length vc) (by omega)).facts4
          clear hlq hqs hb5
          go_wp2_with fail
          obtain ⟨e0, e1, -⟩ := ((((unhide HR5).other (b' := w3.heap.size) (o := 1) (u := .slice va qs.length vc) (by omega)).put0 (u := .slice la us.length lc)).put1 (u := .slice va qs.length vc)).facts4
          have hP : Below w.heap.size w5 (((w5.setCell ⟨w3.heap.size, 1, none⟩ (.slice va qs.length vc)).setCell ⟨w.heap.size, 0, none⟩ (.slice la us.length lc)).setCell ⟨w.heap.size, 1, none⟩ (.slice va qs.length vc)) := bput2 (bput (Below.refl _ _) (by omega) _) (Nat.le_refl _) _ _
          refine bodyPost_ret (v := .agg #[.slice la us.length lc, .slice va qs.length vc]) (by simp [results, Tryz.results27, go_sem, e0, e1]) rfl ⟨⟨_, _, us, qs, rfl, unhide HFIN _ _ _ ((((unhide HLQ).putlo (by omega)).putlo (by omega)).putlo (by omega)) ((((unhide HL5).putlo (by omega)).putlo (by omega)).putlo (by omega)), unhide Hx, unhide HQ9⟩, (unhide HC5).keep hP hD, hM5.trans (Below.mv hP D)⟩
        · simp only [Value.slice.injEq] at e9
          obtain ⟨rfl, -, rfl⟩ := e9
          have HSS : Hid (SsAt mB 0 wr.heap.size wr (.slice (some ⟨g9, K, none⟩) o (oc - K)) R.2.1) := by
            obtain ⟨a9, c9, e9, h9, hc9⟩ := hss
            rw [List.length_map] at e9 h9 hc9
            cases e9
            by_cases hp : 0 < ps.length
            · obtain ⟨b9, off9, e8, hb9, hcl⟩ := hc9 hp
              simp only [Option.some.injEq, Addr.mk.injEq, and_true] at e8
              obtain ⟨rfl, rfl⟩ := e8
              have := SsAt.drop (xss := ps.map Cl.xs) (k := K) (m := o) (cap := oc - K) (by rw [List.length_map]; omega) ⟨by omega, by omega⟩ hb9 (by rw [List.length_map]; exact hcl)
              have e7 : ps.length - o = K := by omega
              rw [Nat.zero_add] at this
              rw [← unhide HDR, e7]
              exact this
            · have ho0 : o = 0 := by omega
              subst ho0
              have hRn : R.2.1 = [] := List.eq_nil_of_length_eq_zero hol
              rw [hRn]
              exact ⟨_, _, rfl, ⟨Nat.zero_le _, by omega⟩, fun h => absurd h (by simp)⟩
          have HSS0 : Hid (o = 0 → SsAt mB 0 wr.heap.size wr (.slice (some ⟨g9, 0, none⟩) o 0) R.2.1) := fun h => by
            rw [List.eq_nil_of_length_eq_zero (hol.trans h), h]
            exact ⟨_, _, rfl, ⟨Nat.le_refl _, Nat.zero_le _⟩, fun h => absurd h (by simp)⟩
          have hoc : ps.length ≤ oc := hnc9
          rw [hK] at hoc ⊢
          have HK := hide hK
          clear hss hK hol
          go_wp2_with fail
          all_goals
            refine (l4copy_any _ R.2.1 wr (by first | exact unhide HSS | exact unhide HSS0 (by omega)) (by have := unhide HTO; omega) (by have := unhide HOL; omega)).mono ?_
            rintro e w5 ⟨ov, rfl, ⟨qs, hqs, hlq⟩, hb5⟩
            have HQ9 := hide hqs
            have hz5 := hb5.size
            have HLQ := hide hlq
            have HL5 := hide ((unhide Hll).keep hb5 (Nat.le_refl _))
            have HB5 := hide ((unhide Hbx).below hb5 (by omega))
            have HR5 := hide ((unhide HRw).below hb5 (by omega))
            have HC5 := hide ((unhide HCr).keep hb5 (by omega))
            have hM5 : Mv w.heap.size D w w5 := hMw.trans (Below.mv (hb5.mono (by omega)) D)
            obtain ⟨va, vc, rfl⟩ := own_is hlq.own
            obtain ⟨t0, t1, t2, t3⟩ := (unhide HB5).facts4
            obtain ⟨s0, s1, -⟩ := ((unhide HB5).put1 (u := .slice va qs.length vc)).facts4
            obtain ⟨u0, u1, u2, u3⟩ := ((unhide HR5).other (b' := w3.heap.size) (o := 1) (u := .slice va qs.length vc) (by omega)).facts4
            clear hlq hqs hb5
            go_wp2_with fail
            obtain ⟨e0, e1, -⟩ := ((((unhide HR5).other (b' := w3.heap.size) (o := 1) (u := .slice va qs.length vc) (by omega)).put0 (u := .slice la us.length lc)).put1 (u := .slice va qs.length vc)).facts4
            have hP : Below w.heap.size w5 (((w5.setCell ⟨w3.heap.size, 1, none⟩ (.slice va qs.length vc)).setCell ⟨w.heap.size, 0, none⟩ (.slice la us.length lc)).setCell ⟨w.heap.size, 1, none⟩ (.slice va qs.length vc)) := bput2 (bput (Below.refl _ _) (by omega) _) (Nat.le_refl _) _ _
            refine bodyPost_ret (v := .agg #[.slice la us.length lc, .slice va qs.length vc]) (by simp [results, Tryz.results27, go_sem, e0, e1]) rfl ⟨⟨_, _, us, qs, rfl, unhide HFIN _ _ _ ((((unhide HLQ).putlo (by omega)).putlo (by omega)).putlo (by omega)) ((((unhide HL5).putlo (by omega)).putlo (by omega)).putlo (by omega)), unhide Hx, unhide HQ9⟩, (unhide HC5).keep hP hD, hM5.trans (Below.mv hP D)⟩

end Go.Proofs.YthgnefdefjannaaGreat
