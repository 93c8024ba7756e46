import Derived.Test.YtkajdhliejjohaaP9
import Derived.Test.YtkajdhliejjohaaP8
namespace Go.Proofs.Ytkajdhliejjohaa
open Go.RowKit

theorem run_tv (x : Value) (w : World) : Sem.run Try.prog (callFunc 42 #[x]) w = .ok (.enter 42 #[x]) w := by kernel_rfl
theorem run_tb (x y : Value) (w : World) : Sem.run Try.prog (callFunc 41 #[x, y]) w = .ok (.enter 41 #[x, y]) w := by kernel_rfl

/-- The values vs read as these lines. -/
def LnV (N : Nat) (w : World) (vs : List Value) (xss : List (List Int)) : Prop := vs.length = xss.length ∧ ∀ i : Nat, i < xss.length → SlAt mB 0 0 N w (vs[i]?.getD undef) (xss[i]?.getD []) ∧ CapOk (vs[i]?.getD undef)
theorem LnV.below {N m : Nat} {w w' : World} {vs : List Value} {xss : List (List Int)} (h : LnV N w vs xss) (hb : Below m w w') (hm : N ≤ m) : LnV N w' vs xss := ⟨h.1, fun i hi => ⟨(h.2 i hi).1.under hb hm, (h.2 i hi).2⟩⟩
theorem LnV.push {N : Nat} {w : World} {vs : List Value} {xss : List (List Int)} {v : Value} {x : List Int} (h : LnV N w vs xss) (hv : SlAt mB 0 0 N w v x) (hc : CapOk v) : LnV N w (vs ++ [v]) (xss ++ [x]) := by
  refine ⟨by simp [h.1], fun i hi => ?_⟩
  rw [List.length_append, List.length_singleton] at hi
  by_cases hlt : i < xss.length
  · rw [List.getElem?_append_left (by rw [h.1]; exact hlt), List.getElem?_append_left hlt]
    exact h.2 i hlt
  · obtain rfl : i = xss.length := by omega
    rw [List.getElem?_append_right (by rw [h.1]; exact Nat.le_refl _), List.getElem?_append_right (Nat.le_refl _), h.1, Nat.sub_self]
    exact ⟨hv, hc⟩
theorem LnV.ss {N lo n : Nat} {w : World} {v : Value} {vs : List Value} {xss : List (List Int)} (h : LnV N w vs xss) (ho : w.ownsRow lo 22 1 v n vs) (hN : N ≤ w.heap.size) : SsAt mB 0 w.heap.size w v xss := by
  have hlen := ho.1
  rw [Nat.mul_one] at hlen
  have hl2 : xss.length = n := by rw [← h.1]; exact hlen
  rcases ho.2 with ⟨rfl, hz⟩ | ⟨g, cap, cur, rfl, hbg, hg, hnc, hcm, hcs, htake⟩
  · exact ⟨none, 0, by rw [hl2, hz], ⟨by omega, Nat.zero_le _⟩, fun hp => by omega⟩
  · refine ⟨_, cap, by rw [hl2], ⟨by omega, hcm⟩, fun hp => ⟨g, 0, rfl, (ho.lt g rfl).2, fun i hi => ⟨vs[i]?.getD undef, ?_, (h.2 i hi).1.mono (Nat.le_refl _) hN, (h.2 i hi).2⟩⟩⟩
    rw [Nat.zero_add, ho.cellAt i (by omega), List.getElem?_eq_getElem (by omega)]
    rfl
theorem own_only {D base e s n : Nat} {w w' : World} {v : Value} {xs : List Value} (h : w.ownsRow base e s v n xs) (ho : Only D w w') (hD : D < base) : w'.ownsRow base e s v n xs := by
  refine ⟨h.1, ?_⟩
  rcases h.2 with hn | ⟨g, cap, cur, rfl, hb, hg, rest⟩
  · exact .inl hn
  · exact .inr ⟨g, cap, cur, rfl, hb, (ho.block g (by omega)).trans hg, rest⟩
theorem RdAt.keep {N D m : Nat} {w w' : World} {xs : List Int} (h : RdAt N D w xs) (hb : Below m w w') (hm : D < m) : RdAt N D w' xs := by
  obtain ⟨hN, v, h1, h2, h3⟩ := h
  exact ⟨hN, v, (hb.block D hm).trans h1, h2.under hb (by omega), h3⟩
theorem pl_step {c k : Nat} {ys : List Int} (h : k < c) : pl (c - k) ys = (tv 9 ys).2.take (tv 9 ys).1.toNat :: pl (c - (k + 1)) ((tv 9 ys).2.drop (tv 9 ys).1.toNat) := by
  obtain ⟨q, hq⟩ : ∃ q, c - k = q + 1 := ⟨c - k - 1, by omega⟩
  have hq2 : c - (k + 1) = q := by omega
  rw [hq, hq2]
  rfl

set_option maxHeartbeats 8000000 in
set_option maxRecDepth 100000 in
theorem baseAndLines_any (N D : Nat) (bs : List Int) (w : World) (h : RdAt N D w bs) (hb : ∀ x ∈ bs, 0 ≤ x ∧ x ≤ 255) (hD : D < w.heap.size) :
    Calls Try.prog 22 #[.pointer (some ⟨D, 0, none⟩)] w fun e w' => (∃ lv, e = .returned (.tuple #[.int .i64 (parP bs).1, lv]) ∧ SsAt mB 0 w'.heap.size w' lv (parP bs).2) ∧ Below D w w' := by
  obtain ⟨j0, hj, hy0, hy1, hy2⟩ := info_parts Try.zinByteS
  have H := hide h
  have HB := hide hb
  have hND := h.1
  clear h hb
  go_enter Try.func22, Try.ntmps22
  go_wp2_with fail
  refine (takeBytes_any N D 2 bs w (unhide H) (by omega) (by omega)).mono ?_
  rintro e w1 ⟨⟨v1, rfl, -, -⟩, hrd1, ho1⟩
  have HB1 : Hid (∀ x ∈ bs.drop 2, 0 ≤ x ∧ x ≤ 255) := fun x hx => unhide HB x (List.mem_of_mem_drop hx)
  have Hrd1 : Hid (RdAt N D w1 (bs.drop 2)) := hrd1
  have hB1 : Below D w w1 := ho1.below (Nat.le_refl _)
  have hz1 := hB1.size
  clear hrd1 ho1
  go_wp2_with fail
  refine (takeVarint_any N D (bs.drop 2) w1 (unhide Hrd1) (unhide HB1)).mono ?_
  rintro e w2 ⟨rfl, hrd2, ho2⟩
  have hB2 : Below D w w2 := hB1.trans (ho2.below (Nat.le_refl _))
  have hz2 := hB2.size
  obtain ⟨hb0, hb1, q1, hq1⟩ := tv_bounds 9 (bs.drop 2) (unhide HB1)
  have HB2 : Hid (∀ x ∈ (tv 9 (bs.drop 2)).2, 0 ≤ x ∧ x ≤ 255) := fun x hx => by rw [hq1] at hx; exact unhide HB1 x (List.mem_of_mem_drop hx)
  have Hrd2 := hide hrd2
  have Hp : Hid (parP bs = ((tv 9 (bs.drop 2)).1, pl (min (tv 9 (tv 9 (bs.drop 2)).2).1 1000).toNat (tv 9 (tv 9 (bs.drop 2)).2).2)) := rfl
  clear hrd2 ho2 hq1
  generalize (tv 9 (bs.drop 2)).1 = base at *
  generalize (tv 9 (bs.drop 2)).2 = r2 at *
  go_wp2_with fail
  refine (takeVarint_any N D r2 w2 (unhide Hrd2) (unhide HB2)).mono ?_
  rintro e w3 ⟨rfl, hrd3, ho3⟩
  have hB3 : Below D w w3 := hB2.trans (ho3.below (Nat.le_refl _))
  have hz3 := hB3.size
  obtain ⟨hn0, hn1, q2, hq2⟩ := tv_bounds 9 r2 (unhide HB2)
  have HB3 : Hid (∀ x ∈ (tv 9 r2).2, 0 ≤ x ∧ x ≤ 255) := fun x hx => by rw [hq2] at hx; exact unhide HB2 x (List.mem_of_mem_drop hx)
  have Hrd3 := hide hrd3
  clear hrd3 ho3 hq2
  generalize (tv 9 r2).1 = cn at *
  generalize (tv 9 r2).2 = r3 at *
  obtain ⟨cnt, hcnt⟩ : ∃ cnt : Nat, min cn 1000 = cnt := ⟨(min cn 1000).toNat, by omega⟩
  have hc1 : cnt ≤ 1000 := by omega
  have hcc : (if cn ≤ 1000 then cn else 1000) = (cnt : Int) := by split <;> omega
  rw [hcnt, Int.toNat_natCast] at Hp
  go_wp2_with fail
  go_loopw [3, 17] (fun ov iv wr => ∃ (k : Nat) (vs : List Value) (xss : List (List Int)) (ys : List Int), k ≤ cnt ∧ iv = .int .i64 k ∧ wr.ownsRow w.heap.size 22 1 ov vs.length vs ∧ LnV N wr vs xss ∧ xss.length = k ∧ pl cnt r3 = xss ++ pl (cnt - k) ys ∧ (∀ y ∈ ys, 0 ≤ y ∧ y ≤ 255) ∧ RdAt N D wr ys ∧ Below D w wr) (fun _ iv _ => cnt - (intOf iv).toNat)
  case atStart => exact ⟨0, [], [], r3, Nat.zero_le _, rfl, World.ownsRow_nil _ _ _ _, ⟨rfl, fun i hi => absurd hi (Nat.not_lt_zero _)⟩, rfl, rfl, unhide HB3, unhide Hrd3, hB3⟩
  case round =>
    obtain ⟨k, vs, xss, ys, hk, rfl, hown, hln, hxl, hpl, hys, hrd, hB4⟩ := hrel
    have hz4 := hB4.size
    have Hown := hide hown
    have Hln := hide hln
    have hvl : vs.length ≤ 1000 := by rw [hln.1]; omega
    have Hpl := hide hpl
    have Hys := hide hys
    have Hrd := hide hrd
    obtain ⟨oa, oc, rfl⟩ := own_is hown
    clear hown hln hpl hys hrd
    by_cases hlt : k < cnt
    · have hlt' : (k : Int) < (cnt : Int) := by omega
      have Hst := hide (pl_step (ys := ys) hlt)
      obtain ⟨g0, g1, q3, hq3⟩ := tv_bounds 9 ys (unhide Hys)
      have Hy2 : Hid (∀ x ∈ (tv 9 ys).2.drop (tv 9 ys).1.toNat, 0 ≤ x ∧ x ≤ 255) := fun x hx => by
        have hx2 := List.mem_of_mem_drop hx
        rw [hq3] at hx2
        exact unhide Hys x (List.mem_of_mem_drop hx2)
      have HTV := hide (fun W (hr : RdAt N D W ys) => takeVarint_any N D ys W hr (unhide Hys))
      clear hq3
      generalize (tv 9 ys).1 = m at *
      generalize (tv 9 ys).2 = r at *
      obtain ⟨x, hxe⟩ : ∃ x, x = r.take m.toNat := ⟨_, rfl⟩
      rw [← hxe] at Hst
      have Hx := hide hxe
      clear hxe
      go_wp2_with fail
      go_region_law (
        (first
          | (refine step_call_o 42 #[.tmp 25] _ rfl #[.pointer (some ⟨D, 0, none⟩)] rfl (by first | (simp [Act.eval]; done) | (simp [Act.eval, Act.put]; done)) (run_tv _) (unhide HTV _ (by exact unhide Hrd)) ?_; rintro e w5 ⟨rfl, hrd5, ho5⟩; have hB5 : Below D w w5 := hB4.trans ((show Only D wr w5 from ⟨ho5.os, ho5.tape, ho5.output, ho5.size, ho5.block⟩).below (Nat.le_refl _)); have HO5 : Hid (Only D wr w5) := ⟨ho5.os, ho5.tape, ho5.output, ho5.size, ho5.block⟩; have Hrd5 := hide hrd5; clear hrd5 ho5; refine ⟨_, rfl, ?_⟩)
          | (refine step_call_o 41 #[.tmp 22, .tmp 26] _ rfl #[.pointer (some ⟨D, 0, none⟩), .int .i64 m] rfl (by first | (simp [Act.eval]; done) | (simp [Act.eval, Act.put]; done)) (run_tb _ _) (takeBytes_any N D m r _ (by exact unhide Hrd5) g0 (by omega)) ?_; rintro e w6 ⟨⟨v6, rfl, hs6, hc6⟩, hrd6, ho6⟩; have HO6 : Hid (Only D wr w6) := (unhide HO5).trans ho6; have hz6 : wr.heap.size ≤ w6.heap.size := Nat.le_of_eq (unhide HO6).size.symm; rw [← unhide Hx] at hs6; have Hs6 := hide hs6; have Hc6 := hide hc6; have Hrd6 := hide hrd6; have Hw6 := hide (own_only (unhide Hown) (unhide HO6) (by omega)); have Hl6 := hide ((unhide Hln).below ((unhide HO6).below (Nat.le_refl _)) hND); obtain ⟨sa6, sc6, rfl, -⟩ := id hs6; clear hs6 hc6 hrd6 ho6; refine ⟨_, rfl, ?_⟩)
          | (refine step_append_lies _ rfl (.tmp 19) (.tmp 28) 24 rfl w.heap.size 22 j0 (.slice none 0 0) 1 24 Try.underlying24 hj hy0 hy1 hy2 rfl (by decide) (.slice oa vs.length oc) vs.length vs (by first | (simp [Act.eval]; done) | (simp [Act.eval, Act.put]; done)) (by refine Pushd.own (w := w6) (o := .cells #[.slice sa6 x.length sc6] 22) ?_ (unhide Hw6); exact ⟨rfl, rfl, rfl, rfl⟩) ⟨w6.heap.size, 0, none⟩ 1 1 [.slice sa6 x.length sc6] (by first | (simp [Act.eval]; done) | (simp [Act.eval, Act.put]; done)) rfl (by refine Pushd.news (w := w6) (cs := #[.slice sa6 x.length sc6]) (t := 22) ?_; exact ⟨rfl, rfl, rfl, rfl⟩) (by intro u hu; simp at hu; subst hu; rfl) (by decide) (by unfold maxLen; omega) (by omega) (by show w.heap.size ≤ (w6.alloc _).heap.size; rw [sz_alloc]; omega) (w6.heap.size + 1) (sz_alloc w6 _) (fun gg cap' w7 q1 q2 q3 q4 => ?_); have hB6 : Below D w w6 := hB4.trans ((unhide HO6).below (Nat.le_refl _)); have hG7 : Below w.heap.size w6 w7 := ((below1 w6 (.cells #[.slice sa6 x.length sc6] 22)).mono (by omega)).grown q2 (by rw [sz_alloc]; omega) (fun j ej => ((unhide Hw6).lt j ej).1); have Hw7 := hide q1; clear q1 q2 q3 q4)))
      all_goals go_wp2
      all_goals exact ⟨⟨k + 1, vs ++ [.slice sa6 x.length sc6], xss ++ [x], r.drop m.toNat, by omega, by go_num, by rw [List.length_append]; exact unhide Hw7, ((unhide Hl6).push (unhide Hs6) (unhide Hc6)).below hG7 (by omega), by rw [List.length_append, hxl]; rfl, by rw [unhide Hpl, unhide Hst, List.append_assoc]; rfl, unhide Hy2, (unhide Hrd6).keep hG7 hD, hB6.trans (hG7.mono (by omega))⟩, by simp [intOf]; omega⟩
    · obtain rfl : k = cnt := by omega
      have hx : Hid ((parP bs).1 = base ∧ (parP bs).2 = xss) := by
        have h1 := unhide Hpl
        rw [Nat.sub_self] at h1
        simp only [pl, List.append_nil] at h1
        rw [unhide Hp]
        exact ⟨rfl, h1⟩
      go_wp2_with fail
      refine bodyPost_ret (v := .tuple #[.int .i64 base, .slice oa vs.length oc]) (by simp [results, Try.results22, go_sem]) rfl ⟨⟨_, by rw [(unhide hx).1], ?_⟩, hB4⟩
      rw [(unhide hx).2]
      exact (unhide Hln).ss (unhide Hown) (by omega)

end Go.Proofs.Ytkajdhliejjohaa
