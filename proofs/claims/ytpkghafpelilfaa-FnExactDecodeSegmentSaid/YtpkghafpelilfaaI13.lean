import Derived.Test.YtpkghafpelilfaaI12
import Derived.Deep.RegionHeld3
namespace Go.Proofs.Ytpkghafpelilfaa
open Go.RowKit

/-- A segment that owns its memory, from block lo on. -/
def SegF (lo hi : Nat) (w : World) (v : Value) (base : Int) (xss : List (List Int)) (ks : List Int) (pss : List (List Int)) : Prop :=
  ∃ (lv kv pv : Value) (S1 S2 S3 : Nat → Prop), v = .agg #[.int .i64 base, lv, kv, pv] ∧ SsF mB 0 S1 w lv xss ∧ SlF mI 0 S2 w kv ks ∧ SsF mI 0 S3 w pv pss ∧
    (∀ k, S1 k ∨ S2 k ∨ S3 k → lo ≤ k ∧ k < hi) ∧ (∀ k, S1 k → ¬ S2 k ∧ ¬ S3 k) ∧ ∀ k, S2 k → ¬ S3 k
theorem SegF.same {lo hi : Nat} {w w' : World} {v : Value} {base : Int} {xss pss : List (List Int)} {ks : List Int} (h : SegF lo hi w v base xss ks pss) (hs : ∀ k, lo ≤ k → k < hi → w'.heap[k]? = w.heap[k]?) : SegF lo hi w' v base xss ks pss := by
  obtain ⟨lv, kv, pv, S1, S2, S3, e, h1, h2, h3, h4, h5, h6⟩ := h
  exact ⟨lv, kv, pv, S1, S2, S3, e, h1.same (fun k hk => hs k (h4 k (Or.inl hk)).1 (h4 k (Or.inl hk)).2), h2.same (fun k hk => hs k (h4 k (Or.inr (Or.inl hk))).1 (h4 k (Or.inr (Or.inl hk))).2), h3.same (fun k hk => hs k (h4 k (Or.inr (Or.inr hk))).1 (h4 k (Or.inr (Or.inr hk))).2), h4, h5, h6⟩
theorem SegF.keep {lo hi m : Nat} {w w' : World} {v : Value} {base : Int} {xss pss : List (List Int)} {ks : List Int} (h : SegF lo hi w v base xss ks pss) (hb : Below m w w') (hm : hi ≤ m) : SegF lo hi w' v base xss ks pss := h.same (fun k _ h2 => hb.block k (by omega))
theorem SegF.put {lo hi b o : Nat} {w : World} {v u : Value} {base : Int} {xss pss : List (List Int)} {ks : List Int} (h : SegF lo hi w v base xss ks pss) (hb : b < lo) : SegF lo hi (w.setCell ⟨b, o, none⟩ u) v base xss ks pss := h.same (fun k k1 _ => Below.heap_setCell _ _ _ _ (by show k ≠ b; omega))
theorem SegF.low {lo lo' hi hi' : Nat} {w : World} {v : Value} {base : Int} {xss pss : List (List Int)} {ks : List Int} (h : SegF lo hi w v base xss ks pss) (hl : lo' ≤ lo) (hh : hi ≤ hi') : SegF lo' hi' w v base xss ks pss := by
  obtain ⟨lv, kv, pv, S1, S2, S3, e, h1, h2, h3, h4, h5, h6⟩ := h
  exact ⟨lv, kv, pv, S1, S2, S3, e, h1, h2, h3, fun k hk => ⟨Nat.le_trans hl (h4 k hk).1, Nat.lt_of_lt_of_le (h4 k hk).2 hh⟩, h5, h6⟩
/-- In the blocks of S. -/
theorem LL.footP {α : Type} {mk : α → Value} {d : α} {e te : TypeId} {base : Nat} {w : World} {v : Value} {ps : List (Cl α)} {S : Nat → Prop} (hte : te ≠ e) (h : LL mk d e te base w v ps) (hrow : ∀ g, v.ownBlock = some g → S g) (hel : ∀ p ∈ ps, 0 < p.xs.length → S p.b) : SsF mk d S w v (ps.map Cl.xs) := by
  have hlen := h.own.1
  rcases h.own.2 with ⟨rfl, hz⟩ | ⟨g, cap, cur, rfl, hbg, hg, hnc, hcm, hcs, htake⟩
  · have : ps = [] := List.eq_nil_of_length_eq_zero hz
    subst this
    exact SsF.nil _ _ _ _ _ _ (Nat.zero_le _)
  · have hgl : g < w.heap.size := (h.own.lt g rfl).2
    have hget : ∀ i : Nat, i < ps.length → ∃ p, ps[i]? = some p ∧ p ∈ ps := fun i hi => ⟨ps[i], by simp [hi], List.getElem_mem hi⟩
    refine ⟨some ⟨g, 0, none⟩, cap, by rw [List.length_map], ⟨by rw [List.length_map]; exact hnc, hcm⟩, fun _ => ⟨g, 0, fun i => ((ps[i]?).map Cl.v).getD undef, fun i k => ∃ p, ps[i]? = some p ∧ 0 < p.xs.length ∧ k = p.b, rfl, hrow g rfl, ⟨cur, te, hg⟩, fun i hi => ?_, fun i hi => ?_, fun i hi k hk => ?_, fun i j hi hj hne k hk hk' => ?_⟩⟩
    · rw [List.length_map] at hi
      obtain ⟨p, hp, -⟩ := hget i hi
      show w.cell? ⟨g, 0 + i, none⟩ = some (((ps[i]?).map Cl.v).getD undef)
      rw [Nat.zero_add, h.own.cellAt i (by omega), List.getElem?_map, hp]
      rfl
    · rw [List.length_map] at hi
      obtain ⟨p, hp, hm⟩ := hget i hi
      have e1 : ((ps[i]?).map Cl.v).getD undef = p.v := by rw [hp]; rfl
      have e2 : ((ps.map Cl.xs)[i]?).getD [] = p.xs := by rw [List.getElem?_map, hp]; rfl
      show SlF mk d _ w (((ps[i]?).map Cl.v).getD undef) (((ps.map Cl.xs)[i]?).getD []) ∧ CapOk (((ps[i]?).map Cl.v).getD undef)
      rw [e1, e2]
      exact ⟨(h.ok p hm).foot.mono (fun k hk => ⟨p, hp, hk.1, hk.2⟩), (h.ok p hm).cap⟩
    · obtain ⟨p, hp, hp0, rfl⟩ := hk
      have hm : p ∈ ps := List.mem_of_getElem? hp
      refine ⟨hel p hm hp0, fun e1 => ?_⟩
      exact h.not_row hte (h.ok p hm) rfl hp0 (by rw [e1]; rfl)
    · obtain ⟨p, hp, hp0, rfl⟩ := hk
      obtain ⟨q, hq, hq0, e1⟩ := hk'
      rw [List.length_map] at hi hj
      have hpair := List.pairwise_iff_getElem.1 h.apart
      have ep : ps[i]'hi = p := by rw [List.getElem?_eq_getElem hi] at hp; exact Option.some.inj hp
      have eq : ps[j]'hj = q := by rw [List.getElem?_eq_getElem hj] at hq; exact Option.some.inj hq
      rcases Nat.lt_or_gt_of_ne hne with hlt | hlt
      · exact hpair i j hi hj hlt (by rw [ep]; exact hp0) (by rw [eq]; exact hq0) (by rw [ep, eq]; exact e1)
      · exact hpair j i hj hi hlt (by rw [eq]; exact hq0) (by rw [ep]; exact hp0) (by rw [ep, eq]; exact e1.symm)

/-- Out of its parts: the lines, then keys and posting lists. -/
theorem SegF.mk' {n m : Nat} {w : World} {base : Int} {lv kv pv : Value} {lps ps : List (Cl Int)} {ks : List Int} (hl : SsF mB 0 (Rng n m) w lv (lps.map Cl.xs)) (hg : GT m w kv ks pv ps) (hm : m ≤ w.heap.size) (hk : ks.length ≤ maxLen) (hnm : n ≤ m) : SegF n w.heap.size w (.agg #[.int .i64 base, lv, kv, pv]) base (lps.map Cl.xs) ks (ps.map Cl.xs) := by
  refine ⟨lv, kv, pv, Rng n m, fun k => kv.ownBlock = some k, fun k => Rng m w.heap.size k ∧ kv.ownBlock ≠ some k, rfl, hl, ?_, ?_, fun k hk => ?_, fun k hk => ⟨fun h2 => ?_, fun h3 => ?_⟩, fun k h2 h3 => h3.2 h2⟩
  · have hlen := hg.keys.1
    rcases hg.keys.2 with ⟨e, hz⟩ | ⟨g, cap, cur, e, hbg, hgb, hnc, hcm, hcs, htake⟩
    · refine ⟨0, 0, ⟨none, 0, by rw [e, hz], by omega, fun hp => by omega⟩, fun k h1 h2 => by omega⟩
    · subst e
      refine ⟨g, g + 1, ⟨_, cap, rfl, hk, fun hp => ⟨g, 0, rfl, Nat.le_refl _, Nat.lt_succ_self _, ⟨cur, _, hgb⟩, fun i hi => ?_⟩⟩, fun k h1 h2 => by rw [show k = g by omega]; rfl⟩
      rw [Nat.zero_add, hg.keys.cellAt i (by omega), List.getElem?_map, getD_of_lt hi]
      rfl
  · refine hg.ll.footP (by decide) (fun g e => ?_) (fun p hp h0 => ?_)
    · have h1 := hg.ll.own.lt g e
      refine ⟨⟨h1.1, h1.2⟩, fun e2 => ?_⟩
      rcases own_ne hg.ll.own hg.keys (by decide) with e3 | e3
      · rw [e3] at e; cases e
      · exact e3 (by rw [e, e2])
    · exact ⟨⟨hg.ll.lo p hp h0, (hg.ll.ok p hp).lt h0⟩, fun e2 => hg.kap p hp h0 e2.symm⟩
  · rcases hk with h | h | h
    · exact ⟨h.1, Nat.lt_of_lt_of_le h.2 hm⟩
    · have := hg.keys.lt k h
      exact ⟨by omega, this.2⟩
    · exact ⟨by have := h.1.1; omega, h.1.2⟩
  · have := hg.keys.lt k h2
    have := hk.2
    omega
  · have := h3.1.1
    have := hk.2
    omega

theorem run_bclone (x : Value) (w : World) : Sem.run Try.prog (callFunc 62 #[x]) w = .ok (.enter 62 #[x]) w := by kernel_rfl

/-- What building a segment answers: by the program. -/
def BuildGot (e : Ending) (w w' : World) (base : Int) (xss : List (List Int)) : Prop :=
  (Fits base xss ∧ ∃ v ks pss, e = .returned (.tuple #[v, .int .i64 0]) ∧ SegR base xss ks pss ∧ (ks.length ≤ 1048576 ∧ tot pss ≤ 1048576) ∧ SegF w.heap.size w'.heap.size w' v base xss ks pss) ∨ (¬ Fits base xss ∧ e = .returned (.tuple #[.agg #[.int .i64 0, .slice none 0 0, .slice none 0 0, .slice none 0 0], .int .i64 4]))

set_option maxHeartbeats 4000000 in
set_option maxRecDepth 100000 in
theorem implBuild_any (base : Int) (v : Value) (xss : List (List Int)) (w : World) (hv : SsAt mB 0 w.heap.size w v xss) (hbb : ∀ x ∈ xss, Bytes x) (hT : tot xss ≤ 1048576) (hL : xss.length ≤ 1048576) (hb0 : -9223372036854775808 ≤ base) (hb1 : base ≤ 9223372036854775807) :
    Calls Try.prog 38 #[.int .i64 base, v] w fun e w' => BuildGot e w w' base xss ∧ Below w.heap.size w w' := by
  obtain ⟨j0, hj, hy0, hy1, hy2⟩ := info_parts Try.zinByteS
  have Hv := hide hv
  have HB := hide hbb
  obtain ⟨a, cap, rfl, hl, hc⟩ := hv
  clear hbb hc
  have hb00 := below1 w (.cells #[.int .i64 0, .slice none 0 0, .slice none 0 0, .slice none 0 0] 30)
  have RR0 := Row4.new w 30 (.int .i64 0) (.slice none 0 0) (.slice none 0 0) (.slice none 0 0)
  go_enter Try.func38, Try.ntmps38
  go_wp2_with fail
  refine (fitSegment_any base _ xss _ ((unhide Hv).below hb00 (Nat.le_refl _)) (unhide HB) hT hL hb0 hb1).mono ?_
  rintro e w1 ⟨hr, q1, hw1⟩
  have hB1 : Below w.heap.size w w1 := by rw [hw1]; exact below_drewN hb00 q1
  have RR1 : Row4 w1 w.heap.size 30 (.int .i64 0) (.slice none 0 0) (.slice none 0 0) (.slice none 0 0) := by rw [hw1]; exact RR0
  have hz1 : w.heap.size + 1 ≤ w1.heap.size := by rw [hw1]; show _ ≤ (w.alloc _).heap.size; rw [sz_alloc]; exact Nat.le_refl _
  clear hw1 RR0 hb00
  rcases hr.cases with ⟨rfl, hm⟩ | ⟨rfl, hm⟩
  · have Hm := hide hm
    have h0 := hm.1
    have h1 := hm.2.2.1
    have HRR := hide RR1
    have hL2 : xss.length ≤ 1000 := by omega
    clear hm hr RR1
    go_wp2_with fail
    have hb20 := below1 w1 (.cells #[.int .i64 base, .slice none 0 0, .slice none 0 0, .slice none 0 0] 30)
    have RS0 := Row4.new w1 30 (.int .i64 base) (.slice none 0 0) (.slice none 0 0) (.slice none 0 0)
    go_loopw [18] (fun iv wr => ∃ (k : Nat) (lv : Value) (ps : List (Cl Int)), k ≤ xss.length ∧ ps.length ≤ k ∧ iv = .int .i64 k ∧ ps.map Cl.xs = xss.take k ∧ Row4 wr w1.heap.size 30 (.int .i64 base) lv (.slice none 0 0) (.slice none 0 0) ∧ LB (w1.heap.size + 1) wr lv ps ∧ Below w1.heap.size w1 wr) (fun iv _ => xss.length - (intOf iv).toNat)
    case atStart => exact ⟨0, _, [], Nat.zero_le _, Nat.le_refl _, rfl, by simp, RS0, LL.nil, hb20⟩
    case round =>
      obtain ⟨k, lv, ps, hk, hpk, rfl, hln, hbox, hll, hb⟩ := hrel
      have hszr := hb.size
      have Hll := hide hll
      have Hln := hide hln
      have Hbx := hide hbox
      obtain ⟨la, lc, rfl⟩ := own_is hll.own
      obtain ⟨f0, f1, f2, f3, g0, g1, g2, g3⟩ := hbox.facts
      have hBl : w1.heap.size < wr.heap.size := World.rowIs.lt hbox
      clear hll hln hbox
      by_cases hlt : k < xss.length
      · have hlt' : (k : Int) < (xss.length : Int) := by omega
        obtain ⟨_, _, e1, -, hc⟩ := (unhide Hv).below (hB1.trans (hb.mono (by omega))) (Nat.le_refl _)
        cases e1
        obtain ⟨b, off, rfl, hbn, hcell⟩ := hc (by omega)
        obtain ⟨s, hx, hs, -⟩ := hcell k hlt
        have Hs := hide hs
        have ht := tot_get xss k
        have Hsn := hide (take_snoc xss [] k hlt)
        obtain ⟨sa, sc, rfl, -, -⟩ := hs
        clear hcell hc
        generalize xss[k]?.getD [] = x at *
        have hS : Hid (∀ W' : World, Below wr.heap.size wr W' → W'.cell? ⟨w1.heap.size, 1, none⟩ = some (.slice la ps.length lc) ∧ W'.frozen? ⟨w1.heap.size, 1, none⟩ = false) := fun W' hW => by
          have := ((unhide Hbx).below hW (by omega)).facts
          exact ⟨this.2.1, this.2.2.2.2.2.1⟩
        have hS2 : Hid (∀ W' : World, Below (w1.heap.size + 1) wr W' → W'.cell? ⟨w1.heap.size, 1, none⟩ = some (.slice la ps.length lc) ∧ W'.frozen? ⟨w1.heap.size, 1, none⟩ = false) := fun W' hW => by
          have := ((unhide Hbx).below hW (by omega)).facts
          exact ⟨this.2.1, this.2.2.2.2.2.1⟩
        go_wp2_with fail
        go_region_law (
          (first
            | (refine step_call_o 62 #[.tmp 24] _ rfl #[.slice sa x.length sc] rfl (by first | (simp [Act.eval]; done) | (simp [Act.eval, Act.put]; done)) (run_bclone _) (bclone_any _ x _ (by exact unhide Hs) (by omega)) ?_; rintro e w5 ⟨⟨v5, rfl, hown5⟩, hb5⟩; have hB5 : Below wr.heap.size wr w5 := ⟨hb5.os, hb5.tape, hb5.output, hb5.size, hb5.block⟩; have Hown5 : Hid (w5.ownsRow wr.heap.size 5 1 v5 x.length (x.map mB)) := hown5; have hz5 := hB5.size; have HLk := hide ((unhide Hll).keep hB5 (Nat.le_refl _)); have Hpu := hide (LB.push (unhide Hll) (by omega) hB5 (Below.refl _ wr) (unhide Hown5)); obtain ⟨ya, yc, rfl⟩ := own_is hown5; obtain ⟨c5, z5⟩ := unhide hS _ hB5; obtain ⟨c6, z6⟩ := unhide hS _ (hB5.alloc hz5 (.cells #[.slice ya x.length yc] 28)); clear hown5 hb5; refine ⟨_, rfl, ?_⟩)
            | (refine step_append_lies _ rfl (.tmp 23) (.tmp 26) 22 rfl (w1.heap.size + 1) 28 j0 (.slice none 0 0) 1 24 Try.underlying22 hj hy0 hy1 hy2 rfl (by decide) (.slice la ps.length lc) ps.length (ps.map Cl.v) (by first | (simp [Act.eval]; done) | (simp [Act.eval, Act.put]; done)) (by refine Pushd.own (w := w5) (o := .cells #[.slice ya x.length yc] 28) ?_ (unhide HLk).own; exact ⟨rfl, rfl, rfl, rfl⟩) ⟨w5.heap.size, 0, none⟩ 1 1 [.slice ya x.length yc] (by first | (simp [Act.eval]; done) | (simp [Act.eval, Act.put]; done)) rfl (by refine Pushd.news (w := w5) (cs := #[.slice ya x.length yc]) (t := 28) ?_; exact ⟨rfl, rfl, rfl, rfl⟩) (by intro u hu; simp at hu; subst hu; rfl) (by decide) (by unfold maxLen; omega) (by omega) (by show w1.heap.size + 1 ≤ (w5.alloc _).heap.size; rw [sz_alloc]; omega) (w5.heap.size + 1) (sz_alloc w5 _) (fun gg cap' w7 q1 q2 q3 q4 => ?_); have h7 := hide (unhide Hpu w7 (.slice (some ⟨gg, 0, none⟩) (ps.length + 1) cap') q1 q2); have hB7 : Below (w1.heap.size + 1) wr w7 := (by obtain ⟨_, _, _, r⟩ := unhide h7; exact r); obtain ⟨c7, z7⟩ := unhide hS2 _ hB7; clear q1 q2 q3 q4)))
        all_goals
          go_wp2
          obtain ⟨p, r1, r2, r3⟩ := unhide h7
          exact ⟨⟨k + 1, _, ps ++ [p], by omega, by simp; omega, by go_num, by rw [unhide Hsn, ← unhide Hln, ← r1, List.map_append]; rfl, ((unhide Hbx).below hB7 (by omega)).put1, r2.putlo (by omega), bput (hb.trans (hB7.mono (by omega))) (Nat.le_refl _) _⟩, by simp [intOf]; omega⟩
      · obtain rfl : k = xss.length := by omega
        have Hx : Hid (ps.map Cl.xs = xss) := by
          have := unhide Hln
          rwa [List.take_length] at this
        obtain ⟨w4, hw4⟩ : ∃ w4, w4 = wr := ⟨_, rfl⟩
        rw [← hw4] at hb hszr Hll Hbx f0 f1 f2 f3 g0 g1 g2 g3 hBl ⊢
        clear hw4
        go_wp2_with fail
        refine (postingLists_any base _ xss _ ((unhide Hv).below (hB1.trans (hb.mono (by omega))) (Nat.le_refl _)) (unhide HB) hT hL2 h0 (by omega)).mono ?_
        rintro e w5 ⟨⟨kv, pv, ks, qs, rfl, hseg, hcnt, hgt⟩, hb5⟩
        have Hcnt := hide hcnt
        clear hcnt
        have hz5 := hb5.size
        have Hseg := hide hseg
        have Hgt := hide hgt
        have SL := hide ((LB.footR (unhide Hll)).keep hb5 (Nat.le_refl _))
        have Hb5 := hide ((unhide Hbx).below hb5 hBl)
        obtain ⟨ka, kc, rfl⟩ := own_is hgt.keys
        obtain ⟨pa, pc, rfl⟩ := own_is hgt.ll.own
        clear f0 f1 f2 f3 g0 g1 g2 g3
        obtain ⟨f0, f1, f2, f3, g0, g1, g2, g3⟩ := (unhide Hb5).facts
        have hB5 : Below w1.heap.size w1 w5 := hb.trans (hb5.mono (by omega))
        have hRR := hide ((unhide HRR).below hB5 (by omega))
        obtain ⟨r0, r1, r2, r3, t0, t1, t2, t3⟩ := (unhide hRR).facts
        clear hseg hgt
        go_wp2_with fail
        have hks : ks.length ≤ maxLen := by
          have h8 := own_cap (unhide Hgt).keys
          have := h8.le
          omega
        have hF := SegF.mk' (base := base) (unhide SL) (unhide Hgt) hz5 hks (by omega)
        rw [unhide Hx] at hF
        have hF' := ((((((hF.put (b := w1.heap.size) (o := 2) (u := .slice ka ks.length kc) (by omega)).put (b := w1.heap.size) (o := 3) (u := .slice pa qs.length pc) (by omega)).put (b := w.heap.size) (o := 0) (u := .int .i64 base) (by omega)).put (b := w.heap.size) (o := 1) (u := .slice la ps.length lc) (by omega)).put (b := w.heap.size) (o := 2) (u := .slice ka ks.length kc) (by omega)).put (b := w.heap.size) (o := 3) (u := .slice pa qs.length pc) (by omega)).low (lo' := w.heap.size) (by omega) (Nat.le_of_eq (show w5.heap.size = ((((((w5.setCell ⟨w1.heap.size, 2, none⟩ (.slice ka ks.length kc)).setCell ⟨w1.heap.size, 3, none⟩ (.slice pa qs.length pc)).setCell ⟨w.heap.size, 0, none⟩ (.int .i64 base)).setCell ⟨w.heap.size, 1, none⟩ (.slice la ps.length lc)).setCell ⟨w.heap.size, 2, none⟩ (.slice ka ks.length kc)).setCell ⟨w.heap.size, 3, none⟩ (.slice pa qs.length pc)).heap.size by simp only [sz_put]))
        have hRF := (((((unhide hRR).other (b' := w1.heap.size) (o := 2) (u := .slice ka ks.length kc) (by omega)).other (b' := w1.heap.size) (o := 3) (u := .slice pa qs.length pc) (by omega)).put0 (u := .int .i64 base)).put1 (u := .slice la ps.length lc)).put2 (u := .slice ka ks.length kc) |>.put3 (u := .slice pa qs.length pc)
        obtain ⟨e0, e1, e2, e3, -⟩ := hRF.facts
        have hBB := bput (bput (bput (bput (bput (bput (hB1.trans (hB5.mono (by omega))) (b := w1.heap.size) (o := 2) (by omega) (.slice ka ks.length kc)) (b := w1.heap.size) (o := 3) (by omega) (.slice pa qs.length pc)) (b := w.heap.size) (o := 0) (Nat.le_refl _) (.int .i64 base)) (b := w.heap.size) (o := 1) (Nat.le_refl _) (.slice la ps.length lc)) (b := w.heap.size) (o := 2) (Nat.le_refl _) (.slice ka ks.length kc)) (b := w.heap.size) (o := 3) (Nat.le_refl _) (.slice pa qs.length pc)
        exact bodyPost_ret (v := .tuple #[.agg #[.int .i64 base, .slice la ps.length lc, .slice ka ks.length kc, .slice pa qs.length pc], .int .i64 0]) (by simp [results, Try.results38, go_sem, e0, e1, e2, e3]) rfl ⟨Or.inl ⟨unhide Hm, _, ks, qs.map Cl.xs, rfl, unhide Hseg, unhide Hcnt, hF'⟩, hBB⟩
  · have Hm := hide hm
    have HRR := hide RR1
    obtain ⟨r0, r1, r2, r3, t0, t1, t2, t3⟩ := RR1.facts
    clear hm hr RR1
    go_wp2_with fail
    obtain ⟨e0, e1, e2, e3, -⟩ := ((((unhide HRR).put0 (u := .int .i64 0)).put1 (u := .slice none 0 0)).put2 (u := .slice none 0 0)).put3 (u := .slice none 0 0) |>.facts
    refine bodyPost_ret (v := .tuple #[.agg #[.int .i64 0, .slice none 0 0, .slice none 0 0, .slice none 0 0], .int .i64 4]) (by simp [results, Try.results38, go_sem, e0, e1, e2, e3]) rfl ⟨Or.inr ⟨unhide Hm, rfl⟩, bput (bput (bput (bput hB1 (Nat.le_refl _) _) (Nat.le_refl _) _) (Nat.le_refl _) _) (Nat.le_refl _) _⟩

end Go.Proofs.Ytpkghafpelilfaa
