import Derived.Test.YthgnefdefjannaaGreatSt5
import Derived.Test.YthgnefdefjannaaGreatSt6
import Derived.Test.YthgnefdefjannaaGreatSt3
import Derived.Test.YthgnefdefjannaaGreatVl
import Derived.Deep.RegionHeld3
namespace Go.Proofs.YthgnefdefjannaaGreat
open Go.RowKit

/-- What a copy of a state is. -/
def CopyR (e : Ending) (w w' : World) (bss oss : List (List Int)) : Prop :=
  ∃ sv ov ps qs m, e = .returned (.agg #[sv, ov]) ∧ ps.map Cl.xs = bss ∧ qs.map Cl.xs = oss ∧ LB w.heap.size w' sv ps ∧ SsF mB 0 (Rng w.heap.size m) w' sv bss ∧ LB m w' ov qs ∧ w.heap.size ≤ m ∧ m ≤ w'.heap.size

set_option maxHeartbeats 4000000 in
set_option maxRecDepth 100000 in
theorem l5copy_any (v : Value) (bss oss : List (List Int)) (w : World) (hv : StRd w v bss oss) (t1 : tot bss ≤ 1048576) (l1 : bss.length ≤ 1048576) (t2 : tot oss ≤ 1048576) (l2 : oss.length ≤ 1048576) :
    Calls Tryz.prog 19 #[v] w fun e w' => CopyR e w w' bss oss ∧ Below w.heap.size w w' := by
  obtain ⟨sv, ov, rfl, u1, u2⟩ := hv
  have U1 := hide u1
  have U2 := hide u2
  obtain ⟨a1, c1, rfl, -⟩ := id u1
  obtain ⟨a2, c2, rfl, -⟩ := id u2
  clear u1 u2
  have hb0 := below2 w (.cells #[.slice a1 bss.length c1, .slice a2 oss.length c2] 25) (.cells #[.slice none 0 0, .slice none 0 0] 25)
  have RA := (Row2.new w 25 (.slice a1 bss.length c1) (.slice a2 oss.length c2)).alloc (.cells #[.slice none 0 0, .slice none 0 0] 25)
  have RR := Row2.new (w.alloc (.cells #[.slice a1 bss.length c1, .slice a2 oss.length c2] 25)) 25 (.slice none 0 0) (.slice none 0 0)
  rw [sz_alloc] at RR
  have hzV : ((w.alloc (.cells #[.slice a1 bss.length c1, .slice a2 oss.length c2] 25)).alloc (.cells #[.slice none 0 0, .slice none 0 0] 25)).heap.size = w.heap.size + 2 := by simp
  go_enter Tryz.func19, Tryz.ntmps19
  go_wp2_with fail
  generalize (w.alloc (.cells #[.slice a1 bss.length c1, .slice a2 oss.length c2] 25)).alloc (.cells #[.slice none 0 0, .slice none 0 0] 25) = V at *
  have hVz : w.heap.size + 2 ≤ V.heap.size := by omega
  have HRA := hide RA
  have HRR := hide RR
  clear hzV RA RR
  obtain ⟨f0, f1, -⟩ := (unhide HRA).facts4
  have hS : Hid (∀ W' : World, Below V.heap.size V W' → W'.cell? ⟨w.heap.size, 0, none⟩ = some (.slice a1 bss.length c1) ∧ W'.cell? ⟨w.heap.size, 1, none⟩ = some (.slice a2 oss.length c2)) := fun W' hW => by
    have := ((unhide HRA).below hW (by omega)).facts4
    exact ⟨this.1, this.2.1⟩
  first | (go_region_held3 (fun W' => W'.cell? ⟨w.heap.size, 0, none⟩ = some (.slice a1 bss.length c1) ∧ W'.cell? ⟨w.heap.size, 1, none⟩ = some (.slice a2 oss.length c2))
    (first | (with_reducible exact unhide hS _ hB4) | (with_reducible exact unhide hS _ hB3) | go_keep)
    (first
      | (go_at_call 26; refine (l4copy_any _ oss _ (by exact (unhide U2).below (hb0.trans (hB3.mono (by omega))) (Nat.le_refl _)) t2 l2).mono ?_; rintro e w4 ⟨v4, rfl, ⟨qs, hqs, hl4⟩, hb4⟩; have hB4 : Below V.heap.size V w4 := hB3.trans (hb4.mono hB3.size); have HQ := hide hqs; have HL4 := hide hl4; have HB4 := hide hb4; have RR4 := hide ((unhide HRR).below hB4 (by omega)); obtain ⟨x0, x1, x2, x3⟩ := (unhide RR4).facts4; obtain ⟨p4, q4, rfl⟩ := own_is hl4.own; clear hqs hl4 hb4)
      | (go_at_call 26; refine (l4copy_any _ bss _ (by exact (unhide U1).below hb0.drew (Nat.le_refl _)) t1 l1).mono ?_; rintro e w3 ⟨v3, rfl, ⟨ps, hps, hl3⟩, hb3⟩; have hB3 : Below V.heap.size V w3 := ⟨hb3.os, hb3.tape, hb3.output, hb3.size, hb3.block⟩; have HP := hide hps; have HL3 : Hid (LB V.heap.size w3 v3 ps) := hl3; obtain ⟨p3, q3, rfl⟩ := own_is hl3.own; clear hps hl3 hb3))) | fail
  have hz3 := hB3.size
  have hz4 := (unhide HB4).size
  go_wp2_with fail
  obtain ⟨e0, e1, -⟩ := (((unhide RR4).put0 (u := .slice p3 ps.length q3)).put1 (u := .slice p4 qs.length q4)).facts4
  refine bodyPost_ret (v := .agg #[.slice p3 ps.length q3, .slice p4 qs.length q4]) (by simp [results, Tryz.results19, go_sem, e0, e1]) rfl ⟨⟨_, _, ps, qs, w3.heap.size, rfl, unhide HP, unhide HQ, ?_, ?_, ?_, by omega, by simp only [sz_put]; omega⟩, bput2 (hb0.trans (hB4.mono (by omega))) (by omega) _ _⟩
  · exact ((((unhide HL3).keep (unhide HB4) (Nat.le_refl _)).putlo (B := w.heap.size + 1) (by omega)).putlo (B := w.heap.size + 1) (by omega)).low (by omega)
  · have h1 := LB.footR (unhide HL3)
    rw [unhide HP] at h1
    exact (((h1.keep (unhide HB4) (Nat.le_refl _)).putR (b := w.heap.size + 1) (Or.inl (by omega))).putR (b := w.heap.size + 1) (Or.inl (by omega))).mono (fun k hk => ⟨by have := hk.1; omega, hk.2⟩)
  · exact ((unhide HL4).putlo (B := w.heap.size + 1) (by omega)).putlo (B := w.heap.size + 1) (by omega)

/-- All lines of segments. -/
def flat : List Sg → List (List Int)
  | [] => []
  | g :: r => g.xs ++ flat r
theorem flat_app (a b : List Sg) : flat (a ++ b) = flat a ++ flat b := by
  induction a with
  | nil => rfl
  | cons g r ih => simp [flat, ih]
theorem flat_len (a : List Sg) : (flat a).length = nL a := by
  induction a with
  | nil => rfl
  | cons g r ih => simp [flat, nL, ih]
theorem flat_tot (a : List Sg) : tot (flat a) = nB a := by
  induction a with
  | nil => rfl
  | cons g r ih => simp only [flat, nB, tot_app, ih]
theorem LnV.app {N : Nat} {w : World} {vs us : List Value} {xss yss : List (List Int)} (h : LnV N w vs xss) (h' : LnV N w us yss) : LnV N w (vs ++ us) (xss ++ yss) := by
  refine ⟨by simp [h.1, h'.1], fun i hi => ?_⟩
  rw [List.length_append] at hi
  by_cases hlt : i < xss.length
  · rw [List.getElem?_append_left (by rw [h.1]; exact hlt), List.getElem?_append_left hlt]
    exact h.2 i hlt
  · rw [List.getElem?_append_right (by rw [h.1]; omega), List.getElem?_append_right (by omega), h.1]
    exact h'.2 _ (by omega)

/-- Lines appended to a row of one's own. -/
theorem app_lines {w : World} {ops : Array Oper} {rest : List Oper} {o : Oper} {a : Act} {Q : Exit → Act → World → Prop} (N base : Nat) (hgd : o.guard = none) (s x : Operand)
    (ho : o.op = .call { callee := .builtin .append, args := #[s, x], argTypes := #[23, 23] }) (v : Value) (vs : List Value) (xss : List (List Int)) (hs : a.eval s = v) (hown : w.ownsRow base 22 1 v vs.length vs) (hln : LnV N w vs xss)
    (u : Value) (yss : List (List Int)) (hx : a.eval x = u) (hu : SsAt mB 0 N w u yss) (hlen : vs.length + yss.length ≤ 16777216) (hbase : base ≤ w.heap.size) (hN : N ≤ base)
    (h : ∀ v' w' vs', w'.ownsRow base 22 1 v' vs'.length vs' → LnV N w' vs' (xss ++ yss) → Below base w w' → wpList Tryz.prog ops Q rest (a.put o.dst v') w') : wpList Tryz.prog ops Q (o :: rest) a w := by
  obtain ⟨i0, hi, hz0, hz1, hz2⟩ := info_parts Tryz.zinByteS
  obtain ⟨us, hun, hus, -, hue⟩ := hu.vals
  obtain ⟨sa, sc, rfl, hl, hc⟩ := hus
  have hlu : LnV N w us yss := ⟨hun, hue⟩
  cases sa with
  | none =>
    have h0 : us.length = 0 := by
      by_cases q : 0 < us.length
      · obtain ⟨b, off, e, -⟩ := hc q; simp at e
      · omega
    obtain rfl : us = [] := List.eq_nil_of_length_eq_zero h0
    have := h v w vs hown (by simpa using hln.app hlu) (Below.refl _ _)
    exact wpList_append_none_c hgd s x 23 ho base 22 i0 1 Tryz.underlying23 hi v vs.length vs hs hown sc hx this
  | some ad =>
    refine wpList_append_own_at w hgd s x 23 ho base 22 i0 (.slice none 0 0) 1 24 Tryz.underlying23 hi hz0 hz1 hz2 rfl (by decide) v vs.length vs hs hown ad us.length sc us hx (by simp) ?_ ?_ (by unfold maxLen; omega) (by omega) hbase ?_
    · intro j u hu2
      have hj : j < us.length := (List.getElem?_eq_some_iff.1 hu2).1
      obtain ⟨b, off, e, -, -, hcell⟩ := hc (by omega)
      simp only [Option.some.injEq] at e
      subst e
      have e3 : (⟨b, off, none⟩ : Addr).add j = ⟨b, off + j, none⟩ := by cases j <;> rfl
      rw [e3, hcell j hj, hu2]
      rfl
    · exact vals_one hun hue
    · intro v' w' h1 hg _ _
      have hB : Below base w w' := (Below.refl base w).grown hg hbase (fun k hk => (hown.lt k hk).1)
      exact h v' w' (vs ++ us) (by rw [List.length_append]; exact h1) ((hln.app hlu).below hB hN) hB

def flatK (ss : List Sv) (k : Nat) : List (List Int) := flat ((ss.take k).map Sv.g)
/-- A row of its own of these lines, which lie elsewhere. -/
def FlatR (e : Ending) (w w' : World) (xss : List (List Int)) : Prop := ∃ v' vs, e = .returned v' ∧ w'.ownsRow w.heap.size 22 1 v' vs.length vs ∧ LnV w.heap.size w' vs xss

set_option maxHeartbeats 4000000 in
set_option maxRecDepth 100000 in
theorem l5flat_any (base : Nat) (v : Value) (ss : List Sv) (w : World) (hs : SgRow base w v ss) (hn : nL (ss.map Sv.g) ≤ 1000) (hl : ss.length ≤ 1000) :
    Calls Tryz.prog 17 #[v] w fun e w' => FlatR e w w' (flat (ss.map Sv.g)) ∧ Below w.heap.size w w' := by
  have HS := hide hs
  obtain ⟨ga, gc, rfl⟩ := hs.form
  clear hs
  go_enter Tryz.func17, Tryz.ntmps17
  go_wp2_with fail
  go_loopw [3, 4] (fun ov iv wr => ∃ (k : Nat) (vs : List Value), k ≤ ss.length ∧ iv = .int .i64 k ∧ wr.ownsRow w.heap.size 22 1 ov vs.length vs ∧ LnV w.heap.size wr vs (flatK ss k) ∧ Below w.heap.size w wr) (fun _ iv _ => ss.length - (intOf iv).toNat)
  case atStart => exact ⟨0, [], Nat.zero_le _, rfl, World.ownsRow_nil _ _ _ _, ⟨rfl, fun i hi => absurd hi (by simp [flatK, flat])⟩, Below.refl _ _⟩
  case round =>
    obtain ⟨k, vs, hk, rfl, hown, hln, hb⟩ := hrel
    have hszr := hb.size
    have Hown := hide hown
    have Hln := hide hln
    obtain ⟨oa, oc, rfl⟩ := own_is hown
    have hvn : vs.length ≤ 1000 := by
      rw [hln.1]
      unfold flatK
      rw [flat_len]
      have e := congrArg nL (congrArg (List.map Sv.g) (List.take_append_drop k ss))
      rw [List.map_append, nL_app] at e
      omega
    clear hown hln
    by_cases hlt : k < ss.length
    · have hlt' : (k : Int) < (ss.length : Int) := by omega
      obtain ⟨s, hsk⟩ : ∃ s, ss[k]? = some s := ⟨ss[k], by simp [hlt]⟩
      have hmem : s ∈ ss := List.mem_of_getElem? hsk
      have hSr := (unhide HS).keep hb (Nat.le_refl _)
      obtain ⟨q, cap, e1, hq1, hq2, c0, c1, c2, c3⟩ := hSr.at k s hsk
      obtain ⟨a1, k1, a2, k2, a3, k3, v1, v2, v3⟩ := hSr.vals s hmem
      have hrd : SsAt mB 0 w.heap.size wr s.lv s.g.xs := by
        obtain ⟨lv, kv, pv, e, g1, -⟩ := (hSr.seg s hmem)
        unfold Sv.v at e
        simp only [Value.agg.injEq, Array.mk.injEq, List.cons.injEq, and_true] at e
        obtain ⟨-, rfl, -⟩ := e
        exact g1.at (fun j hj => Nat.lt_of_lt_of_le hj.2 ((unhide HS).blk s hmem).2.1)
      have Hsn : Hid (flatK ss (k + 1) = flatK ss k ++ s.g.xs) := by
        show flat _ = flat _ ++ _
        rw [List.take_add_one, hsk, List.map_append, flat_app]
        simp [flat]
      have hsl : s.g.xs.length ≤ 1000 := by
        have e := congrArg nL (congrArg (List.map Sv.g) (List.take_append_drop (k + 1) ss))
        rw [List.map_append, nL_app] at e
        have e2 : nL ((ss.take (k + 1)).map Sv.g) = nL ((ss.take k).map Sv.g) + s.g.xs.length := by have e3 := congrArg List.length (unhide Hsn); rw [List.length_append] at e3; unfold flatK at e3; rw [flat_len, flat_len] at e3; exact e3
        omega
      rw [v1] at c1 hrd
      have HRD := hide hrd
      simp only [Value.slice.injEq] at e1
      obtain ⟨rfl, -, rfl⟩ := e1
      clear hsk hmem hSr hrd v1 v2 v3 c0 c2 c3
      generalize s.g.xs = xs at *
      go_wp2_with (at_builtin; refine app_lines w.heap.size w.heap.size rfl _ _ rfl _ vs _ rfl (unhide Hown) (unhide Hln) _ xs rfl (unhide HRD) (by omega) hszr (Nat.le_refl _) ?_)
      intro v' w' vs' r1 r2 r3
      have R1 := hide r1
      have R2 := hide r2
      obtain ⟨oa', oc', rfl⟩ := own_is r1
      clear r1 r2
      go_wp2
      go_roundw
      case rel => exact ⟨k + 1, _, by omega, by go_num, unhide R1, by rw [unhide Hsn]; exact unhide R2, hb.trans r3⟩
      case measure => simp [intOf]; omega
    · obtain rfl : k = ss.length := by omega
      have hlt' : ¬ (ss.length : Int) < (ss.length : Int) := by omega
      have H2 : Hid (LnV w.heap.size wr vs (flat (ss.map Sv.g))) := by
        have := unhide Hln
        unfold flatK at this
        rwa [List.take_length] at this
      go_wp2
      go_ret
      exact ⟨⟨_, vs, rfl, unhide Hown, unhide H2⟩, hb⟩

end Go.Proofs.YthgnefdefjannaaGreat
