import Derived.Test.YtinhliecfjlocaaGreatPk21
import Derived.Test.YtinhliecfjlocaaGreatPk16
import Derived.Test.YtinhliecfjlocaaGreatPy
import Derived.Test.YtinhliecfjlocaaGreatPk15
import Derived.Test.YtinhliecfjlocaaGreatPk23
namespace Go.Proofs.YtinhliecfjlocaaGreat
open Go.RowKit
def KV (U : Value) (L : List El) : Prop := ∃ S, SkV U S ∧ Sm S ∧ LAsc S ∧ SegK L S
theorem closKV : ClosX KV := by
  refine ⟨⟨[[]], SkV.e, ⟨by simp, by simp⟩, List.pairwise_singleton _ _, SegK.e⟩, ?_, ?_, ?_, ?_⟩
  · intro xs g hc hg
    exact ⟨leafS xs, SkV.s hg, (leaf_cut xs).small, (leaf_cut xs).lasc, SegK.s xs⟩
  · rintro u v L R ⟨S1, a1, a3, a4, a6⟩ ⟨S2, b1, b3, b4, b6⟩
    have h := cutf_ok (prd S1 S2)
    exact ⟨_, SkV.cat a1 b1 a3 b3 h, h.small, h.lasc, a6.cat b6⟩
  · rintro u v L R ⟨S1, a1, a3, a4, a6⟩ ⟨S2, b1, b3, b4, b6⟩
    have h := cutf_ok (S1 ++ S2)
    exact ⟨_, SkV.alt a1 b1 a3 b3 h, h.small, h.lasc, a6.alt b6⟩
  · rintro u L mn mx ⟨S1, a1, a3, a4, a6⟩ o2 o3 o4
    have h6 := a6.rep mn mx
    by_cases h0 : mn = 0
    · subst h0
      rw [show repK S1 0 = [[256]] from if_pos rfl] at h6
      exact ⟨_, SkV.rep0 a1.1 mx, cut_gap.small, cut_gap.lasc, h6⟩
    · have h := cutf_ok (S1 ++ prd (S1.map (fun a => jn2 a [256])) S1)
      rw [show repK S1 mn = cutf (S1 ++ prd (S1.map (fun a => jn2 a [256])) S1) from if_neg h0] at h6
      exact ⟨_, SkV.rep a1 a3 mn mx h0 h, h.small, h.lasc, h6⟩
set_option maxHeartbeats 1000000 in
theorem implK_any (l r : Bool) (v : Value) (xs : List El) (w : World) (hv : ElsAt 0 w.heap.size w v xs) : Calls Tryz.prog 16 #[.agg #[.bool l, .bool r, v]] w fun e w' => KRet w xs e w' := by
  obtain ⟨a, cp, rfl, -, -⟩ := id hv
  have Hv := hide hv
  have hb0 := below1 w (.cells #[.bool l, .bool r, .slice a xs.length cp] 25)
  have t5 := fld_sk
  clear hv
  go_enter Tryz.func16, Tryz.ntmps16
  go_wp2_with fail
  generalize w.alloc (.cells #[.bool l, .bool r, .slice a xs.length cp] 25) = W0 at *
  refine (gnodeOf_any (closR closKV) _ xs _ ((unhide Hv).below hb0 (Nat.le_refl _))).mono ?_
  rintro e w1 ⟨⟨u, c, rfl, hok, hgx, hc5, -⟩ | ⟨rfl, hbad⟩, hb1⟩
  · have hB1 : Below w.heap.size w w1 := hb0.trans (hb1.mono hb0.size)
    obtain ⟨L, -, hsx, -, hU⟩ := valid_r closKV hok
    obtain ⟨U, hE, S, hS, hm, -, hsk⟩ := hU u c hgx hc5
    obtain ⟨T0, x0, rfl⟩ := hgx.1.iface
    obtain ⟨⟨T, x, rfl⟩, hS⟩ := hS
    have HE := hide hE.2
    have HS := hide hS
    have Hans : Hid (AnsK xs S) := Or.inl ⟨hok, L, hsx, hsk, hm⟩
    clear hE hS hok hgx hsx hsk hm hb1 hU
    go_wp2_with fail
    refine (unhide HE _).mono ?_
    rintro e w2 ⟨rfl, hb2⟩
    have hB2 := hB1.trans (hb2.mono hB1.size)
    clear hb2
    go_wp2_with fail
    refine (unhide HS _).mono ?_
    rintro e w3 ⟨lv, ps, c3, rfl, hll, hq, hb3⟩
    have hB3 := hB2.trans (hb3.mono hB2.size)
    have HL := hide (hll.base hB2.size)
    have HQ := hide hq
    obtain ⟨a3, c4, rfl⟩ := own_is hll.own
    clear hll hq hb3
    go_wp2
    go_ret
    exact ⟨_, ps, rfl, by rw [unhide HQ]; exact unhide Hans, unhide HL, hB3⟩
  · have hB1 : Below w.heap.size w w1 := hb0.trans (hb1.mono hb0.size)
    have Hans : Hid (AnsK xs []) := Or.inr ⟨hbad, rfl⟩
    clear hbad hb1
    go_wp2
    go_ret
    exact ⟨_, [], rfl, unhide Hans, LL.nil, hB1⟩
structure Kb (lo D : Nat) (w w' : World) : Prop where
  os : w'.os = w.os
  tape : w'.tape = w.tape
  output : w'.output = w.output
  size : w.heap.size ≤ w'.heap.size
  block : ∀ k, k < lo → k ≠ D → w'.heap[k]? = w.heap[k]?
theorem Kb.refl (lo D : Nat) (w : World) : Kb lo D w w := ⟨rfl, rfl, rfl, Nat.le_refl _, fun _ _ _ => rfl⟩
theorem Kb.trans {lo D : Nat} {a b c : World} (h : Kb lo D a b) (k : Kb lo D b c) : Kb lo D a c := ⟨k.os.trans h.os, k.tape.trans h.tape, k.output.trans h.output, Nat.le_trans h.size k.size, fun i h1 h2 => (k.block i h1 h2).trans (h.block i h1 h2)⟩
theorem Below.kb {lo : Nat} {w w' : World} (h : Below lo w w') (D : Nat) : Kb lo D w w' := ⟨h.os, h.tape, h.output, h.size, fun k hk _ => h.block k hk⟩
theorem Kb.put {lo D : Nat} (w : World) (u : Value) : Kb lo D w (w.setCell ⟨D, 0, none⟩ u) := ⟨rfl, rfl, rfl, by rw [sz_put]; exact Nat.le_refl _, fun k _ hk => Below.heap_setCell _ _ _ _ (fun e => hk e)⟩
theorem Kb.below {lo D : Nat} {w w' : World} (h : Kb lo D w w') (hD : D ≤ lo) : Below D w w' := ⟨h.os, h.tape, h.output, h.size, fun k hk => h.block k (by omega) (by omega)⟩
theorem LL.keepKb {α : Type} {mk : α → Value} {d : α} {e te : TypeId} {base lo D : Nat} {w w' : World} {v : Value} {ps : List (Cl α)} (h : LL mk d e te base w v ps) (hm : Kb lo D w w') (hlo : w.heap.size ≤ lo) (hD : D < base) : LL mk d e te base w' v ps := by
  refine ⟨⟨h.own.1, ?_⟩, fun p hp => (h.ok p hp).same (fun h0 => hm.block p.b (by have := (h.ok p hp).lt h0; omega) (by have := h.lo p hp h0; omega)), h.lo, h.apart⟩
  rcases h.own.2 with h2 | ⟨g, cap, cur, h1, h2, h3, h4⟩
  · exact Or.inl h2
  · have hg : g < w.heap.size := (h.own.lt g (by rw [h1]; rfl)).2
    exact Or.inr ⟨g, cap, cur, h1, h2, (hm.block g (by omega) (by omega)).trans h3, h4⟩
theorem LL.box {w : World} {B base : Nat} {t : TypeId} {v r : Value} {ks : List (Cl Int)} (h : LL mI 0 3 34 base w r ks) (ht : t ≠ 3 ∧ t ≠ 34) (hb : Boxed w B t v) (u : Value) : LL mI 0 3 34 base (w.setCell ⟨B, 0, none⟩ u) r ks :=
  ⟨(ok_box_row h.lr ht hb u).own, (ok_box_row h.lr ht hb u).ok, h.lo, h.apart⟩
theorem run_numI (x : Value) (w : World) : Sem.run Tryz.prog (callFunc 17 #[x]) w = .ok (.enter 17 #[x]) w := by kernel_rfl
set_option maxHeartbeats 8000000 in
set_option maxRecDepth 100000 in
theorem implQ_any (l r : Bool) (v : Value) (xs : List El) (w : World) (hv : ElsAt 0 w.heap.size w v xs) :
    Calls Tryz.prog 6 #[.agg #[.bool l, .bool r, v]] w fun e w' => ∃ v' ps, e = .returned (.agg #[v']) ∧ QAns xs (ps.map Cl.xs) ∧ tot (ps.map Cl.xs) ≤ 3000 ∧ LL mI 0 3 34 w.heap.size w' v' ps ∧ Below w.heap.size w w' := by
  obtain ⟨i0, hi, hz0, hz1, hz2⟩ := info_parts Tryz.zinIntS
  have Hv := hide hv
  obtain ⟨a, cp, rfl, -, -⟩ := id hv
  clear hv
  go_enter Tryz.func6, Tryz.ntmps6
  go_wp2_with fail
  have hB0 := below3 w (.cells #[.bool l, .bool r, .slice a xs.length cp] 25) (.cells #[.slice none 0 0] 31) (.cells #[.slice none 0 0] 31)
  have RR := (Boxed.new (w.alloc (.cells #[.bool l, .bool r, .slice a xs.length cp] 25)) 31 (.slice none 0 0)).alloc (.cells #[.slice none 0 0] 31)
  have RQ := Boxed.new ((w.alloc (.cells #[.bool l, .bool r, .slice a xs.length cp] 25)).alloc (.cells #[.slice none 0 0] 31)) 31 (.slice none 0 0)
  rw [World.size_alloc] at RR
  rw [World.size_alloc, World.size_alloc] at RQ
  have hzW : w.heap.size + 3 ≤ (((w.alloc (.cells #[.bool l, .bool r, .slice a xs.length cp] 25)).alloc (.cells #[.slice none 0 0] 31)).alloc (.cells #[.slice none 0 0] 31)).heap.size := by rw [sz_alloc, sz_alloc, sz_alloc]; omega
  generalize ((w.alloc (.cells #[.bool l, .bool r, .slice a xs.length cp] 25)).alloc (.cells #[.slice none 0 0] 31)).alloc (.cells #[.slice none 0 0] 31) = W0 at *
  refine (implK_any l r _ xs _ ((unhide Hv).below hB0 (Nat.le_refl _))).mono ?_
  rintro e w1 ⟨kv, ps, rfl, hans, hll, hb1⟩
  have hz1' := hb1.size
  have RR1 := hide (Boxed.below' RR hb1 (by omega))
  have RQ1 := hide (Boxed.below' RQ hb1 (by omega))
  have hB1 : Below w.heap.size w w1 := hB0.trans (hb1.mono (by omega))
  have HAT : Hid (∀ W, Kb w1.heap.size (w.heap.size + 2) w1 W → SsAt mI 0 W.heap.size W kv (ps.map Cl.xs)) := fun W hW => (hll.keepKb hW (Nat.le_refl _) (by omega)).lr.at
  have hSm := hans.sm
  have HSy := hide hans.sy
  have HSm := hide hSm
  have hSl : (ps.map Cl.xs).length ≤ 50 := hSm.1
  obtain ⟨ka, kc, rfl, -, -⟩ := unhide HAT w1 (Kb.refl _ _ _)
  have Hans := hide hans
  generalize ps.map Cl.xs = S at *
  clear hb1 hll hans hSm RR RQ Hv
  go_wp2_with fail
  go_loopw [9] (fun iv wr => ∃ (n : Nat) (ov : Value) (os : List (Cl Int)), n ≤ S.length ∧ iv = .int .i64 n ∧ Each ((gS S).take n) os ∧ BdC os ∧ Boxed wr (w.heap.size + 2) 31 ov ∧ LL mI 0 3 34 w1.heap.size wr ov os ∧ Kb w1.heap.size (w.heap.size + 2) w1 wr) (fun iv _ => S.length - (intOf iv).toNat)
  case atStart => exact ⟨0, _, [], Nat.zero_le _, rfl, Each.nil, BdC.nil, unhide RQ1, LL.nil, Kb.refl _ _ _⟩
  case round =>
    obtain ⟨n, ov, os, hn, rfl, hea, hbd, hbox, hlo, hkb⟩ := hrel
    have hszr := hkb.size
    have hlen := hea.len
    rw [List.length_take, gS_len] at hlen
    have hol : os.length ≤ 50 := by omega
    have Hea := hide hea
    have Hbd := hide hbd
    have Hll := hide hlo
    have Hbox := hide hbox
    obtain ⟨oa, oc, rfl⟩ := own_is hlo.own
    have cb : wr.cell? ⟨w.heap.size + 1 + 1, 0, none⟩ = _ := hbox.cell
    have fb : wr.frozen? ⟨w.heap.size + 1 + 1, 0, none⟩ = false := hbox.frozen
    clear hea hlo hbox hbd
    by_cases hlt : n < S.length
    · have hlt' : (n : Int) < (S.length : Int) := by omega
      obtain ⟨_, _, e, -, hc⟩ := unhide HAT wr hkb
      cases e
      obtain ⟨b, off, rfl, hbn, hcell⟩ := hc (by omega)
      obtain ⟨sv, hx, hsx, -⟩ := hcell n hlt
      have HX := hide hsx
      obtain ⟨sa, sc, rfl, -⟩ := id hsx
      have hmem : S[n]?.getD [] ∈ S := by rw [List.getElem?_eq_getElem hlt]; exact List.getElem_mem hlt
      have hxl : (S[n]?.getD []).length ≤ 60 := (unhide HSm).2 _ hmem
      have Hxs : Hid (∀ b ∈ S[n]?.getD [], 0 ≤ b ∧ b ≤ 256) := unhide HSy _ hmem
      have Hnext : Hid (∀ p : Cl Int, Ord (gtr (S[n]?.getD []) ((S[n]?.getD []).length - 2)) p.xs → p.xs.length ≤ (gtr (S[n]?.getD []) ((S[n]?.getD []).length - 2)).length → Each ((gS S).take (n + 1)) (os ++ [p]) ∧ BdC (os ++ [p])) := fun p h1 h2 => by
        refine ⟨(unhide Hea).next (by rw [gS_len]; exact hlt) (by rw [gS_get S n hlt]; exact h1) (by rw [gS_get S n hlt]; exact h2), (unhide Hbd).app ?_ (fun z hz => ?_)⟩
        · have := gtr_len (S[n]?.getD []) ((S[n]?.getD []).length - 2)
          omega
        · exact gtr_bd (unhide Hxs) _ z ((h1.mem z).1 hz)
      clear hcell hc hsx hlen hmem
      generalize S[n]?.getD [] = x at *
      have hS : Hid (∀ W' : World, Below wr.heap.size wr W' → W'.cell? ⟨w.heap.size + 2, 0, none⟩ = some (.slice oa os.length oc)) := fun W' hW => (Boxed.below' (unhide Hbox) hW (unhide Hbox).lt).cell
      have hBl : w.heap.size + 2 < w1.heap.size := by omega
      have HNI : Hid (∀ W : World, Below wr.heap.size wr W → Calls Tryz.prog 17 #[.slice sa x.length sc] W fun e w' => OrdOwn e W w' (gtr x (x.length - 2)) ∧ Below W.heap.size W w') := fun W hW =>
        numbersI_any _ x W ((unhide HX).below hW (Nat.le_refl _)) (sym_get (unhide Hxs)) (by omega)
      have Hst : Hid (∀ (w2 W w' : World) (pv v' : Value) (ys : List Int), Below wr.heap.size wr w2 → w2.ownsRow wr.heap.size 3 1 pv ys.length (ys.map mI) → Ord (gtr x (x.length - 2)) ys → ys.length ≤ (gtr x (x.length - 2)).length → Pushd w2 W (.cells #[pv] 34) → w'.ownsRow w1.heap.size 34 1 v' (os.length + 1) (os.map Cl.v ++ [pv]) → W.grownBy w' (Value.slice oa os.length oc).ownBlock →
          ∃ p : Cl Int, Each ((gS S).take (n + 1)) (os ++ [p]) ∧ BdC (os ++ [p]) ∧ LL mI 0 3 34 w1.heap.size (w'.setCell ⟨w.heap.size + 2, 0, none⟩ v') v' (os ++ [p]) ∧ Boxed w' (w.heap.size + 2) 31 (.slice oa os.length oc) ∧ Kb w1.heap.size (w.heap.size + 2) w1 (w'.setCell ⟨w.heap.size + 2, 0, none⟩ v')) := fun w2 W w' pv v' ys hb2 ho2 ho hle hP q1 q2 => by
        obtain ⟨pb, hpok, hplo⟩ := own_cl ho2
        obtain ⟨r1, r2⟩ := ((unhide Hll).keep hb2 (Nat.le_refl _)).app (p := ⟨pv, ys, pb⟩) (by decide) (by have := hb2.size; omega) hpok (fun h => by have h9 : wr.heap.size ≤ pb := hplo h; show w1.heap.size ≤ pb; omega) (fun q hq h1 h2 e => by
          have h3 := ((unhide Hll).ok q hq).lt h1
          have h4 := hplo h2
          have : q.b = pb := e
          omega) hP q1 q2
        have hbx : Boxed w' (w.heap.size + 2) 31 (.slice oa os.length oc) := Boxed.below' (Boxed.below' (unhide Hbox) hb2 (unhide Hbox).lt) r2 hBl
        obtain ⟨r3, r4⟩ := unhide Hnext ⟨pv, ys, pb⟩ ho hle
        exact ⟨_, r3, r4, r1.box (by decide) hbx v', hbx, ((hkb.trans (Below.kb (hb2.mono hszr) _)).trans (Below.kb r2 _)).trans (Kb.put _ _)⟩
      clear HX Hnext Hea Hbd
      go_wp2_with fail
      go_region_law (
        (first
          | (refine step_call_o 17 #[.tmp 15] _ rfl #[.slice sa x.length sc] rfl (by first | (simp [Act.eval]; done) | (simp [Act.eval, Act.put]; done)) (run_numI _) (unhide HNI _ (by exact ⟨rfl, rfl, rfl, Nat.le_refl _, fun _ _ => rfl⟩)) ?_; rintro e w2 ⟨⟨v2, ys, rfl, ho, hle, hown2⟩, hb2⟩; have hB2 : Below wr.heap.size wr w2 := ⟨hb2.os, hb2.tape, hb2.output, hb2.size, hb2.block⟩; have Hown2 : Hid (w2.ownsRow wr.heap.size 3 1 v2 ys.length (ys.map mI)) := hown2; have Ho := hide ho; have hle' : ys.length ≤ 1000000 := (by have := gtr_len x (x.length - 2); omega); have Hle := hide hle; obtain ⟨ya, yc, rfl⟩ := own_is hown2; have cb2 : w2.cell? ⟨w.heap.size + 1 + 1, 0, none⟩ = some (.slice oa os.length oc) := unhide hS _ hB2; have cb2a : ∀ o : Obj, (w2.alloc o).cell? ⟨w.heap.size + 1 + 1, 0, none⟩ = some (.slice oa os.length oc) := fun o => unhide hS _ (hB2.alloc hB2.size o); clear hown2 hb2 ho hle; refine ⟨_, rfl, ?_⟩)
          | (refine step_append_lies _ rfl (.tmp 14) (.tmp 17) 29 rfl w1.heap.size 34 i0 (.slice none 0 0) 1 24 Tryz.underlying29 hi hz0 hz1 hz2 rfl (by decide) (.slice oa os.length oc) os.length (os.map Cl.v) (by first | (simp [Act.eval]; done) | (simp [Act.eval, Act.put]; done)) (by refine Pushd.own (w := w2) (o := .cells #[.slice ya ys.length yc] 34) ?_ ((unhide Hll).keep hB2 (Nat.le_refl _)).own; exact ⟨rfl, rfl, rfl, rfl⟩) ⟨w2.heap.size, 0, none⟩ 1 1 [.slice ya ys.length yc] (by first | (simp [Act.eval]; done) | (simp [Act.eval, Act.put]; done)) rfl (by refine Pushd.news (w := w2) (cs := #[.slice ya ys.length yc]) (t := 34) ?_; exact ⟨rfl, rfl, rfl, rfl⟩) (by intro u hu; simp at hu; subst hu; rfl) (by decide) (by unfold maxLen; omega) (by omega) (by show w1.heap.size ≤ (w2.alloc _).heap.size; rw [sz_alloc]; have := hB2.size; omega) (w2.heap.size + 1) (sz_alloc w2 _) (fun gg cap' w7 q1 q2 q3 q4 => ?_); have h7 := hide (unhide Hst w2 _ w7 (.slice ya ys.length yc) (.slice (some ⟨gg, 0, none⟩) (os.length + 1) cap') ys hB2 (unhide Hown2) (unhide Ho) (unhide Hle) (by exact ⟨rfl, rfl, rfl, rfl⟩) q1 q2); have cb7 : w7.cell? ⟨w.heap.size + 1 + 1, 0, none⟩ = some (.slice oa os.length oc) := (by obtain ⟨_, -, -, -, h9, -⟩ := unhide h7; exact h9.cell); have fb7 : w7.frozen? ⟨w.heap.size + 1 + 1, 0, none⟩ = false := (by obtain ⟨_, -, -, -, h9, -⟩ := unhide h7; exact h9.frozen); clear q1 q2 q3 q4)))
      all_goals go_wp2
      all_goals
        obtain ⟨p, r1, r2, r3, r4, r5⟩ := unhide h7
        exact ⟨⟨n + 1, _, _, by omega, by go_num, r1, r2, Boxed.set _ r4, r3, r5⟩, by simp [intOf]; omega⟩
    · obtain rfl : n = S.length := by omega
      rw [← gS_len S, List.take_length] at Hea
      have HL : Hid (Lim (os.map Cl.xs)) := (unhide Hbd).lim hol
      have htp : Hid (tot (os.map Cl.xs) ≤ 3000) := Nat.le_trans (unhide Hea).tot (sm_gS (unhide HSm))
      have hwB : Below w.heap.size w wr := hB1.trans ((hkb.below (by omega)).mono (by omega))
      have RRr : Boxed wr (w.heap.size + 1) 31 (.slice none 0 0) := (hkb.block _ (by omega) (by omega)).trans (unhide RR1)
      have HRR := hide RRr
      have hRl := RRr.lt
      clear hlen fb
      go_wp2_with fail
      refine (implNorm_any _ (os.map Cl.xs) _ (unhide Hll).lr.at (by rw [List.length_map]; omega)).mono ?_
      rintro e w2 ⟨v2, qs, rfl, hn2, ht2, hll2, hb2⟩
      have hNV : Hid (QAns xs (qs.map Cl.xs)) := by
        rcases hn2 with ⟨-, h2⟩ | ⟨h2, -⟩
        · exact ⟨S, unhide Hans, (unhide Hea).norm h2⟩
        · exact absurd (unhide HL) h2
      have RR2 := Boxed.below' (unhide HRR) hb2 hRl
      have cr2 := RR2.cell
      have fr2 := RR2.frozen
      have Hres := hide (fun u => (hll2.box (t := 31) (by decide) RR2 u).base (by have := hwB.size; omega : w.heap.size ≤ wr.heap.size))
      have ht3 : Hid (tot (qs.map Cl.xs) ≤ 3000) := Nat.le_trans ht2 (unhide htp)
      have hBB := hwB.trans (hb2.mono hwB.size)
      obtain ⟨qa, qc, rfl⟩ := own_is hll2.own
      clear hn2 ht2 hll2 hb2 RR2 RRr
      go_wp2
      exact bodyPost_ret (v := .agg #[.slice qa qs.length qc]) (by simp [results, Tryz.results6, go_sem, cr2]) rfl ⟨_, _, rfl, unhide hNV, unhide ht3, unhide Hres _, bput hBB (by omega) _⟩
end Go.Proofs.YtinhliecfjlocaaGreat
