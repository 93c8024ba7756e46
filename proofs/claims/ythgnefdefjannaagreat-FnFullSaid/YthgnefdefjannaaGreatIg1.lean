import Derived.Test.YthgnefdefjannaaGreatSt13
import Derived.Test.YthgnefdefjannaaGreatP6
namespace Go.Proofs.YthgnefdefjannaaGreat
open Go.RowKit

/-- Many lists more. -/
theorem LL.appAll {α : Type} {mk : α → Value} {d : α} {e te : TypeId} {base : Nat} {w w' : World} {v v' : Value} {ps qs : List (Cl α)} (hte : te ≠ e) (h : LL mk d e te base w v ps) (hbase : base ≤ w.heap.size) (hq : ∀ q ∈ qs, q.ok mk d e w) (hqlo : ∀ q ∈ qs, 0 < q.xs.length → base ≤ q.b) (hqa : ApartC qs)
    (hps : ∀ p ∈ ps, ∀ q ∈ qs, 0 < p.xs.length → 0 < q.xs.length → p.b ≠ q.b) (h1 : w'.ownsRow base te 1 v' (ps.length + qs.length) (ps.map Cl.v ++ qs.map Cl.v)) (hg : w.grownBy w' v.ownBlock) : LL mk d e te base w' v' (ps ++ qs) ∧ Below base w w' := by
  have hk : ∀ q : Cl α, q.ok mk d e w → q.ok mk d e w' := fun q hq => by
    refine hq.same (fun hq0 => ?_)
    exact hg.block q.b (hq.lt hq0) (h.not_row hte hq rfl hq0)
  refine ⟨⟨by rw [List.length_append, List.map_append]; exact h1, fun q hq' => ?_, fun q hq' hq0 => ?_, ?_⟩, (Below.refl base w).grown hg hbase (fun k hk => (h.own.lt k hk).1)⟩
  · rcases List.mem_append.1 hq' with hq' | hq'
    · exact hk q (h.ok q hq')
    · exact hk q (hq q hq')
  · rcases List.mem_append.1 hq' with hq' | hq'
    · exact h.lo q hq' hq0
    · exact hqlo q hq' hq0
  · exact List.pairwise_append.2 ⟨h.apart, hqa, fun p hp q hq' => hps p hp q hq'⟩

/-- Lines of its own appended to lines of one's own. -/
theorem app_all {w : World} {ops : Array Oper} {rest : List Oper} {o : Oper} {a : Act} {Q : Exit → Act → World → Prop} (base : Nat) (hgd : o.guard = none) (s x : Operand)
    (ho : o.op = .call { callee := .builtin .append, args := #[s, x], argTypes := #[23, 23] }) (v u : Value) (ps qs : List (Cl Int)) (hs : a.eval s = v) (h : LB base w v ps) (hx : a.eval x = u) (hu : LB base w u qs) (hps : ∀ p ∈ ps, ∀ q ∈ qs, 0 < p.xs.length → 0 < q.xs.length → p.b ≠ q.b) (hbase : base ≤ w.heap.size) (hlen : ps.length + qs.length ≤ 4194304)
    (K : ∀ v' w', LB base w' v' (ps ++ qs) → w.grownBy w' v.ownBlock → wpList Tryz.prog ops Q rest (a.put o.dst v') w') : wpList Tryz.prog ops Q (o :: rest) a w := by
  obtain ⟨i0, hi, hz0, hz1, hz2⟩ := info_parts Tryz.zinByteS
  have hlu := hu.own.1
  rcases hu.own.2 with ⟨rfl, hz⟩ | ⟨g, cap, cur, rfl, hbg, hgb, hnc, hcm, hcs, htake⟩
  · have hq : qs = [] := List.eq_nil_of_length_eq_zero hz
    subst hq
    refine wpList_append_none_c hgd s x 23 ho base 22 i0 1 Tryz.underlying23 hi v ps.length _ hs h.own 0 hx (K v w (by simpa using h) ⟨rfl, rfl, rfl, Nat.le_refl _, fun _ _ _ => rfl⟩)
  · refine wpList_append_own_at w hgd s x 23 ho base 22 i0 (.slice none 0 0) 1 24 Tryz.underlying23 hi hz0 hz1 hz2 rfl (by decide) v ps.length (ps.map Cl.v) hs h.own ⟨g, 0, none⟩ qs.length cap (qs.map Cl.v) hx (by simp) ?_ ?_ (by unfold maxLen; omega) (by omega) hbase ?_
    · intro j u hu2
      have hj : j < qs.length := by have := (List.getElem?_eq_some_iff.1 hu2).1; simpa using this
      have e3 : (⟨g, 0, none⟩ : Addr).add j = ⟨g, j, none⟩ := by cases j <;> simp [Addr.add]
      rw [e3, hu.own.cellAt j (by omega)]
      exact hu2
    · intro u hu2
      obtain ⟨q, hq, rfl⟩ := List.mem_map.1 hu2
      exact (hu.ok q hq).one
    · intro v' w' h1 hg _ _
      exact K v' w' (h.appAll (by decide) hbase hu.ok hu.lo hu.apart hps h1 hg).1 hg

/-- A row of segments is kept where nothing below H has changed. -/
theorem SgRow.keepLo {base H : Nat} {w w' : World} {v : Value} {ss : List Sv} (h : SgRow base w v ss) (hb : Below H w w') (hg : ∀ q, v.ownBlock = some q → q < H) (hs : ∀ s ∈ ss, s.h ≤ H) : SgRow base w' v ss := by
  refine ⟨⟨h.own.1, ?_⟩, fun s hm => (h.seg s hm).same (fun k k1 k2 => hb.block k (by have := hs s hm; omega)), fun s hm => ?_⟩
  · rcases h.own.2 with h2 | ⟨g, cap, cur, h1, h2, h3, h4⟩
    · exact Or.inl h2
    · exact Or.inr ⟨g, cap, cur, h1, h2, (hb.block g (hg g (by rw [h1]; rfl))).trans h3, h4⟩
  · have h1 := h.blk s hm
    have h2 := hb.size
    exact ⟨h1.1, by omega, h1.2.2⟩

def IngFit (gs : List Sg) (oss ls : List (List Int)) : Prop := nL gs + oss.length + ls.length ≤ 1000 ∧ nB gs + tot oss + tot ls ≤ 20000
/-- What taking in answers, as data. -/
def IngIs (bss oss : List (List Int)) (ls b o : List (List Int)) (c : Int) : Prop :=
  (StN bss oss ∧ b = [] ∧ o = [] ∧ c = 4) ∨ (∃ gs, StS bss oss gs ∧ IngFit gs oss ls ∧ b = bss ∧ o = oss ++ ls ∧ c = 0) ∨ (∃ gs, StS bss oss gs ∧ ¬ IngFit gs oss ls ∧ b = bss ∧ o = oss ∧ c = 6)
theorem IngIs.uniq {bss oss ls b1 o1 b2 o2 : List (List Int)} {c1 c2 : Int} (h : IngIs bss oss ls b1 o1 c1) (h' : IngIs bss oss ls b2 o2 c2) : b1 = b2 ∧ o1 = o2 ∧ c1 = c2 := by
  rcases h with ⟨h0, rfl, rfl, rfl⟩ | ⟨gs, h0, h1, rfl, rfl, rfl⟩ | ⟨gs, h0, h1, rfl, rfl, rfl⟩
  · rcases h' with ⟨g0, rfl, rfl, rfl⟩ | ⟨gs', g0, -⟩ | ⟨gs', g0, -⟩
    · exact ⟨rfl, rfl, rfl⟩
    · first | exact (h0 _ g0).elim | exact (g0 _ h0).elim
    · first | exact (h0 _ g0).elim | exact (g0 _ h0).elim
  · rcases h' with ⟨g0, -⟩ | ⟨gs', g0, g1, rfl, rfl, rfl⟩ | ⟨gs', g0, g1, -⟩
    · first | exact (h0 _ g0).elim | exact (g0 _ h0).elim
    · exact ⟨rfl, rfl, rfl⟩
    · obtain rfl := h0.one g0; exact absurd h1 g1
  · rcases h' with ⟨g0, -⟩ | ⟨gs', g0, g1, -⟩ | ⟨gs', g0, g1, rfl, rfl, rfl⟩
    · first | exact (h0 _ g0).elim | exact (g0 _ h0).elim
    · obtain rfl := h0.one g0; exact absurd g1 h1
    · exact ⟨rfl, rfl, rfl⟩

set_option maxHeartbeats 8000000 in
set_option maxRecDepth 100000 in
theorem ingest_any (BX H : Nat) (ss : List Sv) (oss : List (List Int)) (lr br : Int) (tv : Value) (bs : List Int) (w : World) (hst : StoreAt BX H w ss oss lr br) (r0 : 0 ≤ lr) (r1 : lr ≤ 1000) (r2 : 0 ≤ br) (r3 : br ≤ 20000) (hol : oss.length ≤ 1000) (htv : SlAt mB 0 0 w.heap.size w tv bs) (hcap : CapOk tv) (hbb : Bytes bs) (hl : bs.length ≤ 1048576) :
    Calls Tryz.prog 22 #[.pointer (some ⟨BX, 0, none⟩), tv] w fun e w' => Below BX w w' ∧
      ((((lns bs).length : Int) ≤ lr ∧ (tot (lns bs) : Int) ≤ br ∧ e = .returned (.int .i64 0) ∧ StoreRd BX w' ss (oss ++ lns bs)) ∨ (¬ (((lns bs).length : Int) ≤ lr ∧ (tot (lns bs) : Int) ≤ br) ∧ e = .returned (.int .i64 6) ∧ StoreRd BX w' ss oss)) := by
  have HTV := hide htv
  have HC := hide hcap
  have HBB := hide hbb
  obtain ⟨sg, op, ps, hbox, hrow, hll, hps, hgb, hsh, hBH, hHw⟩ := hst
  have HBX := hide hbox
  have HSG := hide hrow
  have HLL := hide hll
  have HPS := hide hps
  have hBXw := World.rowIs.lt hbox
  have hpl : ps.length = oss.length := by rw [← hps, List.length_map]
  have hpl' : ps.length ≤ 1000 := by omega
  obtain ⟨ga, gc, rfl⟩ := hrow.form
  obtain ⟨oa, oc, rfl⟩ := own_is hll.own
  obtain ⟨ta, tc, rfl, -, -⟩ := htv
  clear hbox hrow hll hcap hbb hpl hps
  have hql' : (lns bs).length ≤ 1048576 := by have := lns_len bs; omega
  have hqt : tot (lns bs) ≤ 1048576 := by have := lns_tot bs; omega
  obtain ⟨R, hR⟩ : ∃ R, lns bs = R := ⟨_, rfl⟩
  rw [hR] at hql' hqt ⊢
  have HRE := hide hR
  clear hR
  go_enter Tryz.func22, Tryz.ntmps22
  go_wp2_with fail
  refine (implSplit_any _ bs w (unhide HTV) (unhide HC) (unhide HBB) hl).mono ?_
  rintro e w1 ⟨lv, qs, rfl, hqs, hlq, hb1⟩
  rw [unhide HRE] at hqs
  have hz1 := hb1.size
  have HB1 := hide ((unhide HBX).below hb1 hBXw)
  have HSG1 := hide ((unhide HSG).keep hb1 (Nat.le_refl _))
  have HLL1 := hide ((unhide HLL).keep hb1 (Nat.le_refl _))
  have HQS := hide hqs
  have HLQ := hide hlq
  have hql : R.length = qs.length := by rw [← hqs, List.length_map]
  have HSS : Hid (SsAt mB 0 w1.heap.size w1 lv R) := by rw [← hqs]; exact (LB.footR hlq).all (Nat.le_refl _)
  have HPB : Hid (∀ p ∈ ps, ∀ q ∈ qs, 0 < p.xs.length → 0 < q.xs.length → p.b ≠ q.b) := fun p hp q hq h0 h1 e => by have h2 := ((unhide HLL).ok p hp).lt h0; have h3 := hlq.lo q hq h1; omega
  obtain ⟨la, lc, rfl⟩ := own_is hlq.own
  clear hqs hlq
  by_cases hrm : (R.length : Int) ≤ lr ∧ (tot R : Int) ≤ br
  · have HRM := hide hrm
    go_wp2_with fail
    refine (takeRoom_yes BX _ (.slice oa ps.length oc) _ _ _ R w1 (unhide HB1) (unhide HSS) r0 r1 r2 r3 hqt hql' hrm).mono ?_
    rintro e w2 ⟨rfl, hbx2, ho2⟩
    have hM2 : Mv w1.heap.size BX w1 w2 := ho2.mv _
    have hz2 : w1.heap.size ≤ w2.heap.size := hM2.size
    have HB2 := hide hbx2
    have HSG2 := hide ((unhide HSG1).mv hM2 (Nat.le_refl _) (Or.inl (Nat.lt_succ_self _)))
    have HLL2 := hide ((unhide HLL1).keepMv hM2 (Nat.le_refl _) hBH)
    have HLQ2 := hide ((unhide HLQ).keepMv hM2 (Nat.le_refl _) (by omega))
    have hB2 : Below BX w w2 := (hb1.mono (by omega)).trans (hM2.below (by omega))
    obtain ⟨y0, y1, y2, y3, z0, z1, z2, z3⟩ := hbx2.facts
    clear hbx2 ho2 hrm
    go_wp2_with (at_builtin; refine app_all H rfl _ _ rfl _ _ ps qs rfl (unhide HLL2) rfl ((unhide HLQ2).low hHw) (unhide HPB) (by omega) (by omega) ?_)
    intro v' w3 h3 hg3
    have hB3 : Below H w2 w3 := (Below.refl H w2).grown hg3 (by omega) (fun j hj => ((unhide HLL2).own.lt j hj).1)
    have H3 := hide h3
    have HB3 := hide ((unhide HB2).below hB3 hBH)
    have HSG3 := hide ((unhide HSG2).keepLo hB3 (fun q e => hgb q e) (fun s hs => hsh s hs))
    obtain ⟨x0, x1, x2, x3, t0, t1, t2, t3⟩ := (unhide HB3).facts
    obtain ⟨va, vc, rfl⟩ := own_is h3.own
    clear h3 hg3
    go_wp2
    go_ret
    refine ⟨bput (hB2.trans (hB3.mono (by omega))) (Nat.le_refl _) _, Or.inl ⟨(unhide HRM).1, (unhide HRM).2, rfl, _, _, _, _, _, _, ps ++ qs, (unhide HB3).put1, (unhide HSG3).put (Nat.lt_succ_self _), ?_, by rw [List.map_append, unhide HPS, unhide HQS]⟩⟩
    have h9 := ((unhide H3).putlo (B := BX) (o := 1) (u := .slice va (ps ++ qs).length vc) hBH).low (lo := BX + 1) (by omega)
    simpa using h9
  · have HRM := hide hrm
    go_wp2_with fail
    refine (takeRoom_no BX _ (.slice oa ps.length oc) _ _ _ R w1 (unhide HB1) (unhide HSS) r0 r1 r2 r3 hqt hql' hrm).mono ?_
    rintro e w2 ⟨rfl, hbx2, ho2⟩
    have hM2 : Mv w1.heap.size BX w1 w2 := ho2.mv _
    have HB2 := hide hbx2
    have HSG2 := hide ((unhide HSG1).mv hM2 (Nat.le_refl _) (Or.inl (Nat.lt_succ_self _)))
    have HLL2 := hide (((unhide HLL1).keepMv hM2 (Nat.le_refl _) hBH).low (lo := BX + 1) (by omega))
    have hB2 : Below BX w w2 := (hb1.mono (by omega)).trans (hM2.below (by omega))
    clear hbx2 ho2 hrm
    go_wp2
    go_ret
    exact ⟨hB2, Or.inr ⟨by first | exact unhide HRM | exact fun h => by have := unhide HRM; omega, rfl, _, _, _, _, _, _, ps, unhide HB2, unhide HSG2, unhide HLL2, unhide HPS⟩⟩

end Go.Proofs.YthgnefdefjannaaGreat
