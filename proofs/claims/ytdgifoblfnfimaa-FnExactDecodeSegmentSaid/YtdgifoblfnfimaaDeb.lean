import Derived.Test.YtdgifoblfnfimaaDea
import Derived.Test.YtdgifoblfnfimaaI13
namespace Go.Proofs.Ytdgifoblfnfimaa
open Go.RowKit

theorem run_tv (x : Value) (w : World) : Sem.run Try.prog (callFunc 65 #[x]) w = .ok (.enter 65 #[x]) w := by kernel_rfl
theorem run_tb (x y : Value) (w : World) : Sem.run Try.prog (callFunc 64 #[x, y]) w = .ok (.enter 64 #[x, y]) w := by kernel_rfl

/-- The values vs read as these lines. -/
def LnV (N : Nat) (w : World) (vs : List Value) (xss : List (List Int)) : Prop := vs.length = xss.length ∧ ∀ i : Nat, i < xss.length → SlAt mB 0 0 N w (vs[i]?.getD undef) (xss[i]?.getD []) ∧ CapOk (vs[i]?.getD undef)
theorem LnV.below {N m : Nat} {w w' : World} {vs : List Value} {xss : List (List Int)} (h : LnV N w vs xss) (hb : Below m w w') (hm : N ≤ m) : LnV N w' vs xss := ⟨h.1, fun i hi => ⟨(h.2 i hi).1.under hb hm, (h.2 i hi).2⟩⟩
theorem LnV.push {N : Nat} {w : World} {vs : List Value} {xss : List (List Int)} {v : Value} {x : List Int} (h : LnV N w vs xss) (hv : SlAt mB 0 0 N w v x) (hc : CapOk v) : LnV N w (vs ++ [v]) (xss ++ [x]) := by
  refine ⟨by simp [h.1], fun i hi => ?_⟩
  rw [List.length_append, List.length_singleton] at hi
  by_cases hlt : i < xss.length
  · rw [List.getElem?_append_left (by rw [h.1]; exact hlt), List.getElem?_append_left hlt]
    exact h.2 i hlt
  · obtain rfl : i = xss.length := by omega
    rw [List.getElem?_append_right (by rw [h.1]; exact Nat.le_refl _), List.getElem?_append_right (Nat.le_refl _), h.1, Nat.sub_self]
    exact ⟨hv, hc⟩
theorem LnV.ss {N lo n : Nat} {w : World} {v : Value} {vs : List Value} {xss : List (List Int)} (h : LnV N w vs xss) (ho : w.ownsRow lo 28 1 v n vs) (hN : N ≤ w.heap.size) : SsAt mB 0 w.heap.size w v xss := by
  have hlen := ho.1
  rw [Nat.mul_one] at hlen
  have hl2 : xss.length = n := by rw [← h.1]; exact hlen
  rcases ho.2 with ⟨rfl, hz⟩ | ⟨g, cap, cur, rfl, hbg, hg, hnc, hcm, hcs, htake⟩
  · exact ⟨none, 0, by rw [hl2, hz], ⟨by omega, Nat.zero_le _⟩, fun hp => by omega⟩
  · refine ⟨_, cap, by rw [hl2], ⟨by omega, hcm⟩, fun hp => ⟨g, 0, rfl, (ho.lt g rfl).2, fun i hi => ⟨vs[i]?.getD undef, ?_, (h.2 i hi).1.mono (Nat.le_refl _) hN, (h.2 i hi).2⟩⟩⟩
    rw [Nat.zero_add, ho.cellAt i (by omega), List.getElem?_eq_getElem (by omega)]
    rfl
theorem own_only {D base e s n : Nat} {w w' : World} {v : Value} {xs : List Value} (h : w.ownsRow base e s v n xs) (ho : Only D w w') (hD : D < base) : w'.ownsRow base e s v n xs := by
  refine ⟨h.1, ?_⟩
  rcases h.2 with hn | ⟨g, cap, cur, rfl, hb, hg, rest⟩
  · exact .inl hn
  · exact .inr ⟨g, cap, cur, rfl, hb, (ho.block g (by omega)).trans hg, rest⟩
theorem RdAt.keep {N D m : Nat} {w w' : World} {xs : List Int} (h : RdAt N D w xs) (hb : Below m w w') (hm : D < m) : RdAt N D w' xs := by
  obtain ⟨hN, v, h1, h2, h3⟩ := h
  exact ⟨hN, v, (hb.block D hm).trans h1, h2.under hb (by omega), h3⟩
theorem pl_step {c k : Nat} {ys : List Int} (h : k < c) : pl (c - k) ys = (tv 9 ys).2.take (tv 9 ys).1.toNat :: pl (c - (k + 1)) ((tv 9 ys).2.drop (tv 9 ys).1.toNat) := by
  obtain ⟨q, hq⟩ : ∃ q, c - k = q + 1 := ⟨c - k - 1, by omega⟩
  have hq2 : c - (k + 1) = q := by omega
  rw [hq, hq2]
  rfl

set_option maxHeartbeats 8000000 in
set_option maxRecDepth 100000 in
theorem baseAndLines_any (N D : Nat) (bs : List Int) (w : World) (h : RdAt N D w bs) (hb : ∀ x ∈ bs, 0 ≤ x ∧ x ≤ 255) (hD : D < w.heap.size) :
    Calls Try.prog 39 #[.pointer (some ⟨D, 0, none⟩)] w fun e w' => (∃ lv, e = .returned (.tuple #[.int .i64 (parP bs).1, lv]) ∧ SsAt mB 0 w'.heap.size w' lv (parP bs).2) ∧ Below D w w' := by
  obtain ⟨j0, hj, hy0, hy1, hy2⟩ := info_parts Try.zinByteS
  have H := hide h
  have HB := hide hb
  have hND := h.1
  clear h hb
  go_enter Try.func39, Try.ntmps39
  go_wp2_with fail
  refine (takeBytes_any N D 2 bs w (unhide H) (by omega) (by omega)).mono ?_
  rintro e w1 ⟨⟨v1, rfl, -, -⟩, hrd1, ho1⟩
  have HB1 : Hid (∀ x ∈ bs.drop 2, 0 ≤ x ∧ x ≤ 255) := fun x hx => unhide HB x (List.mem_of_mem_drop hx)
  have Hrd1 : Hid (RdAt N D w1 (bs.drop 2)) := hrd1
  have hB1 : Below D w w1 := ho1.below (Nat.le_refl _)
  have hz1 := hB1.size
  clear hrd1 ho1
  go_wp2_with fail
  refine (takeVarint_any N D (bs.drop 2) w1 (unhide Hrd1) (unhide HB1)).mono ?_
  rintro e w2 ⟨rfl, hrd2, ho2⟩
  have hB2 : Below D w w2 := hB1.trans (ho2.below (Nat.le_refl _))
  have hz2 := hB2.size
  obtain ⟨hb0, hb1, q1, hq1⟩ := tv_bounds 9 (bs.drop 2) (unhide HB1)
  have HB2 : Hid (∀ x ∈ (tv 9 (bs.drop 2)).2, 0 ≤ x ∧ x ≤ 255) := fun x hx => by rw [hq1] at hx; exact unhide HB1 x (List.mem_of_mem_drop hx)
  have Hrd2 := hide hrd2
  have Hp : Hid (parP bs = ((tv 9 (bs.drop 2)).1, pl (min (tv 9 (tv 9 (bs.drop 2)).2).1 1000).toNat (tv 9 (tv 9 (bs.drop 2)).2).2)) := rfl
  clear hrd2 ho2 hq1
  generalize (tv 9 (bs.drop 2)).1 = base at *
  generalize (tv 9 (bs.drop 2)).2 = r2 at *
  go_wp2_with fail
  refine (takeVarint_any N D r2 w2 (unhide Hrd2) (unhide HB2)).mono ?_
  rintro e w3 ⟨rfl, hrd3, ho3⟩
  have hB3 : Below D w w3 := hB2.trans (ho3.below (Nat.le_refl _))
  have hz3 := hB3.size
  obtain ⟨hn0, hn1, q2, hq2⟩ := tv_bounds 9 r2 (unhide HB2)
  have HB3 : Hid (∀ x ∈ (tv 9 r2).2, 0 ≤ x ∧ x ≤ 255) := fun x hx => by rw [hq2] at hx; exact unhide HB2 x (List.mem_of_mem_drop hx)
  have Hrd3 := hide hrd3
  clear hrd3 ho3 hq2
  generalize (tv 9 r2).1 = cn at *
  generalize (tv 9 r2).2 = r3 at *
  obtain ⟨cnt, hcnt⟩ : ∃ cnt : Nat, min cn 1000 = cnt := ⟨(min cn 1000).toNat, by omega⟩
  have hc1 : cnt ≤ 1000 := by omega
  have hcc : (if cn ≤ 1000 then cn else 1000) = (cnt : Int) := by split <;> omega
  rw [hcnt, Int.toNat_natCast] at Hp
  go_wp2_with fail
  go_loopw [3, 17] (fun ov iv wr => ∃ (k : Nat) (vs : List Value) (xss : List (List Int)) (ys : List Int), k ≤ cnt ∧ iv = .int .i64 k ∧ wr.ownsRow w.heap.size 28 1 ov vs.length vs ∧ LnV N wr vs xss ∧ xss.length = k ∧ pl cnt r3 = xss ++ pl (cnt - k) ys ∧ (∀ y ∈ ys, 0 ≤ y ∧ y ≤ 255) ∧ RdAt N D wr ys ∧ Below D w wr) (fun _ iv _ => cnt - (intOf iv).toNat)
  case atStart => exact ⟨0, [], [], r3, Nat.zero_le _, rfl, World.ownsRow_nil _ _ _ _, ⟨rfl, fun i hi => absurd hi (Nat.not_lt_zero _)⟩, rfl, rfl, unhide HB3, unhide Hrd3, hB3⟩
  case round =>
    obtain ⟨k, vs, xss, ys, hk, rfl, hown, hln, hxl, hpl, hys, hrd, hB4⟩ := hrel
    have hz4 := hB4.size
    have Hown := hide hown
    have Hln := hide hln
    have hvl : vs.length ≤ 1000 := by rw [hln.1]; omega
    have Hpl := hide hpl
    have Hys := hide hys
    have Hrd := hide hrd
    obtain ⟨oa, oc, rfl⟩ := own_is hown
    clear hown hln hpl hys hrd
    by_cases hlt : k < cnt
    · have hlt' : (k : Int) < (cnt : Int) := by omega
      have Hst := hide (pl_step (ys := ys) hlt)
      obtain ⟨g0, g1, q3, hq3⟩ := tv_bounds 9 ys (unhide Hys)
      have Hy2 : Hid (∀ x ∈ (tv 9 ys).2.drop (tv 9 ys).1.toNat, 0 ≤ x ∧ x ≤ 255) := fun x hx => by
        have hx2 := List.mem_of_mem_drop hx
        rw [hq3] at hx2
        exact unhide Hys x (List.mem_of_mem_drop hx2)
      have HTV := hide (fun W (hr : RdAt N D W ys) => takeVarint_any N D ys W hr (unhide Hys))
      clear hq3
      generalize (tv 9 ys).1 = m at *
      generalize (tv 9 ys).2 = r at *
      obtain ⟨x, hxe⟩ : ∃ x, x = r.take m.toNat := ⟨_, rfl⟩
      rw [← hxe] at Hst
      have Hx := hide hxe
      clear hxe
      go_wp2_with fail
      go_region_law (
        (first
          | (refine step_call_o 65 #[.tmp 25] _ rfl #[.pointer (some ⟨D, 0, none⟩)] rfl (by first | (simp [Act.eval]; done) | (simp [Act.eval, Act.put]; done)) (run_tv _) (unhide HTV _ (by exact unhide Hrd)) ?_; rintro e w5 ⟨rfl, hrd5, ho5⟩; have hB5 : Below D w w5 := hB4.trans ((show Only D wr w5 from ⟨ho5.os, ho5.tape, ho5.output, ho5.size, ho5.block⟩).below (Nat.le_refl _)); have HO5 : Hid (Only D wr w5) := ⟨ho5.os, ho5.tape, ho5.output, ho5.size, ho5.block⟩; have Hrd5 := hide hrd5; clear hrd5 ho5; refine ⟨_, rfl, ?_⟩)
          | (refine step_call_o 64 #[.tmp 22, .tmp 26] _ rfl #[.pointer (some ⟨D, 0, none⟩), .int .i64 m] rfl (by first | (simp [Act.eval]; done) | (simp [Act.eval, Act.put]; done)) (run_tb _ _) (takeBytes_any N D m r _ (by exact unhide Hrd5) g0 (by omega)) ?_; rintro e w6 ⟨⟨v6, rfl, hs6, hc6⟩, hrd6, ho6⟩; have HO6 : Hid (Only D wr w6) := (unhide HO5).trans ho6; have hz6 : wr.heap.size ≤ w6.heap.size := Nat.le_of_eq (unhide HO6).size.symm; rw [← unhide Hx] at hs6; have Hs6 := hide hs6; have Hc6 := hide hc6; have Hrd6 := hide hrd6; have Hw6 := hide (own_only (unhide Hown) (unhide HO6) (by omega)); have Hl6 := hide ((unhide Hln).below ((unhide HO6).below (Nat.le_refl _)) hND); obtain ⟨sa6, sc6, rfl, -⟩ := id hs6; clear hs6 hc6 hrd6 ho6; refine ⟨_, rfl, ?_⟩)
          | (refine step_append_lies _ rfl (.tmp 19) (.tmp 28) 22 rfl w.heap.size 28 j0 (.slice none 0 0) 1 24 Try.underlying22 hj hy0 hy1 hy2 rfl (by decide) (.slice oa vs.length oc) vs.length vs (by first | (simp [Act.eval]; done) | (simp [Act.eval, Act.put]; done)) (by refine Pushd.own (w := w6) (o := .cells #[.slice sa6 x.length sc6] 28) ?_ (unhide Hw6); exact ⟨rfl, rfl, rfl, rfl⟩) ⟨w6.heap.size, 0, none⟩ 1 1 [.slice sa6 x.length sc6] (by first | (simp [Act.eval]; done) | (simp [Act.eval, Act.put]; done)) rfl (by refine Pushd.news (w := w6) (cs := #[.slice sa6 x.length sc6]) (t := 28) ?_; exact ⟨rfl, rfl, rfl, rfl⟩) (by intro u hu; simp at hu; subst hu; rfl) (by decide) (by unfold maxLen; omega) (by omega) (by show w.heap.size ≤ (w6.alloc _).heap.size; rw [sz_alloc]; omega) (w6.heap.size + 1) (sz_alloc w6 _) (fun gg cap' w7 q1 q2 q3 q4 => ?_); have hB6 : Below D w w6 := hB4.trans ((unhide HO6).below (Nat.le_refl _)); have hG7 : Below w.heap.size w6 w7 := ((below1 w6 (.cells #[.slice sa6 x.length sc6] 28)).mono (by omega)).grown q2 (by rw [sz_alloc]; omega) (fun j ej => ((unhide Hw6).lt j ej).1); have Hw7 := hide q1; clear q1 q2 q3 q4)))
      all_goals go_wp2
      all_goals exact ⟨⟨k + 1, vs ++ [.slice sa6 x.length sc6], xss ++ [x], r.drop m.toNat, by omega, by go_num, by rw [List.length_append]; exact unhide Hw7, ((unhide Hl6).push (unhide Hs6) (unhide Hc6)).below hG7 (by omega), by rw [List.length_append, hxl]; rfl, by rw [unhide Hpl, unhide Hst, List.append_assoc]; rfl, unhide Hy2, (unhide Hrd6).keep hG7 hD, hB6.trans (hG7.mono (by omega))⟩, by simp [intOf]; omega⟩
    · obtain rfl : k = cnt := by omega
      have hx : Hid ((parP bs).1 = base ∧ (parP bs).2 = xss) := by
        have h1 := unhide Hpl
        rw [Nat.sub_self] at h1
        simp only [pl, List.append_nil] at h1
        rw [unhide Hp]
        exact ⟨rfl, h1⟩
      go_wp2_with fail
      refine bodyPost_ret (v := .tuple #[.int .i64 base, .slice oa vs.length oc]) (by simp [results, Try.results39, go_sem]) rfl ⟨⟨_, by rw [(unhide hx).1], ?_⟩, hB4⟩
      rw [(unhide hx).2]
      exact (unhide Hln).ss (unhide Hown) (by omega)

end Go.Proofs.Ytdgifoblfnfimaa

namespace Go.Proofs.Ytdgifoblfnfimaa
open Go.RowKit

/-- What the model's l4read answers. -/
def ReadR (e : Ending) (bs : List Int) (i : Nat) : Prop :=
  (∃ n j, e = .returned (.tuple #[.int .i64 n, .int .i64 (j : Nat)]) ∧ rv 4 (bs.drop i) = some (n, bs.drop j) ∧ i < j ∧ j ≤ bs.length ∧ 0 ≤ n ∧ n < 268435456) ∨ (e = .returned (.tuple #[.int .i64 0, .int .i64 (-1)]) ∧ rv 4 (bs.drop i) = none)
theorem rv_step {f : Nat} {bs : List Int} {i : Nat} (h : i < bs.length) : rv (f + 1) (bs.drop i) = if bs[i]?.getD 0 < 128 then some (bs[i]?.getD 0, bs.drop (i + 1)) else (rv f (bs.drop (i + 1))).map (fun p => (bs[i]?.getD 0 % 128 + 128 * p.1, p.2)) := by
  rw [List.drop_eq_getElem_cons h, List.getElem?_eq_getElem h]
  rfl
theorem rv_end {f : Nat} {bs : List Int} {i : Nat} (h : bs.length ≤ i) : rv f (bs.drop i) = none := by
  rw [List.drop_of_length_le h]
  cases f <;> rfl

set_option maxHeartbeats 4000000 in
set_option maxRecDepth 100000 in
theorem l4read_any (v : Value) (bs : List Int) (i N : Nat) (w : World) (hv : SlAt mB 0 0 N w v bs) (hb : Bytes bs) (hl : bs.length ≤ 1048576) (hi : i ≤ 1048577) :
    Calls Try.prog 54 #[v, .int .i64 i] w fun e w' => ReadR e bs i ∧ w' = w := by
  have HB := hide hb
  obtain ⟨a, cap, rfl, -, hc⟩ := hv
  clear hb
  go_enter Try.func54, Try.ntmps54
  go_wp2
  go_loop [6, 7, 8] (fun vv uv kv => ∃ (k : Nat) (n u : Int), k ≤ 4 ∧ kv = .int .i64 k ∧ vv = .int .i64 n ∧ uv = .int .i64 u ∧ u = 128 ^ k ∧ 0 ≤ n ∧ n < u ∧ rv 4 (bs.drop i) = (rv (4 - k) (bs.drop (i + k))).map (fun p => (n + u * p.1, p.2))) (fun _ _ kv => 4 - (intOf kv).toNat)
  case atStart => exact ⟨0, 0, 1, by omega, rfl, rfl, rfl, rfl, by omega, by omega, by simp⟩
  case round =>
    obtain ⟨k, n, u, hk, rfl, rfl, rfl, hu, hn0, hn1, hrv⟩ := hrel
    have Hrv := hide hrv
    have Hu := hide hu
    clear hrv
    by_cases hlt : k < 4
    · have hlt' : (k : Int) < 4 := by omega
      have hu1 : 1 ≤ u ∧ u ≤ 2097152 := by
        have : k = 0 ∨ k = 1 ∨ k = 2 ∨ k = 3 := by omega
        rcases this with rfl | rfl | rfl | rfl <;> (rw [hu]; decide)
      clear hu
      by_cases hik : i + k < bs.length
      · have hik' : ¬ (bs.length : Int) ≤ (i : Int) + (k : Int) := by omega
        obtain ⟨b, off, rfl, -, -, hcell⟩ := hc (by omega)
        have hx := hcell (i + k) hik
        unfold mB at hx
        have hby := unhide HB (i + k)
        have Hst := hide (rv_step (f := 3 - k) hik)
        have h4 : Hid (4 - k = 3 - k + 1 ∧ 3 - k = 4 - (k + 1)) := ⟨by omega, by omega⟩
        clear hcell hc
        generalize bs[i + k]?.getD 0 = c at *
        have hp0 : 0 ≤ c % 128 * u := Int.mul_nonneg (by omega) (by omega)
        have hp1 : c % 128 * u ≤ 127 * u := Int.mul_le_mul_of_nonneg_right (by omega) (by omega)
        have kw : wrap64 (c % 128 * u) = c % 128 * u := w64i (by omega) (by omega)
        by_cases hc1 : c < 128
        · have HR : Hid (rv 4 (bs.drop i) = some (n + c % 128 * u, bs.drop (i + k + 1))) := by
            show rv 4 (bs.drop i) = some (n + c % 128 * u, bs.drop (i + k + 1))
            rw [unhide Hrv, (unhide h4).1, unhide Hst, if_pos hc1, show c % 128 = c by omega, Int.mul_comm c u]
            rfl
          go_wp2
          go_ret2
          exact ⟨Or.inl ⟨_, i + k + 1, by push_cast; rfl, unhide HR, by omega, by omega, by omega, by omega⟩, rfl⟩
        · have HR : Hid (rv 4 (bs.drop i) = (rv (4 - (k + 1)) (bs.drop (i + (k + 1)))).map (fun p => (n + c % 128 * u + u * 128 * p.1, p.2))) := by
            show rv 4 (bs.drop i) = (rv (4 - (k + 1)) (bs.drop (i + (k + 1)))).map (fun p => (n + c % 128 * u + u * 128 * p.1, p.2))
            rw [unhide Hrv, (unhide h4).1, unhide Hst, if_neg hc1, ← (unhide h4).2, ← Nat.add_assoc]
            cases rv (3 - k) (bs.drop (i + k + 1)) with
            | none => rfl
            | some p =>
              simp only [Option.map_some]
              congr 2
              rw [Int.mul_add, Int.mul_comm u (c % 128), ← Int.mul_assoc, Int.add_assoc]
          go_wp2
          exact ⟨⟨k + 1, n + c % 128 * u, u * 128, by omega, by go_num, rfl, rfl, by rw [Int.pow_succ, ← unhide Hu], by omega, by omega, unhide HR⟩, by simp [intOf]; omega⟩
      · have hik' : (bs.length : Int) ≤ (i : Int) + (k : Int) := by omega
        have HN : Hid (rv 4 (bs.drop i) = none) := by
          show rv 4 (bs.drop i) = none
          rw [unhide Hrv, rv_end (by omega)]
          rfl
        go_wp2
        go_ret2
        exact ⟨Or.inr ⟨rfl, unhide HN⟩, rfl⟩
    · obtain rfl : k = 4 := by omega
      have HN : Hid (rv 4 (bs.drop i) = none) := by
        show rv 4 (bs.drop i) = none
        rw [unhide Hrv]
        rfl
      go_wp2
      go_ret2
      exact ⟨Or.inr ⟨rfl, unhide HN⟩, rfl⟩

/-- What the model's l4lines answers. -/
def LinR (e : Ending) (w' : World) (bs : List Int) : Prop :=
  (∃ b xss lv, e = .returned (.tuple #[.int .i64 b, lv, .bool true]) ∧ parM bs = some (b, xss) ∧ SsAt mB 0 w'.heap.size w' lv xss ∧ (0 ≤ b ∧ b ≤ 268435456) ∧ xss.length ≤ 1000 ∧ tot xss ≤ bs.length ∧ ∀ x ∈ xss, Bytes x) ∨ (e = .returned (.tuple #[.int .i64 0, .slice none 0 0, .bool false]) ∧ parM bs = none)
theorem parM_short {bs : List Int} (h : bs.length < 2) : parM bs = none := by unfold parM; rw [if_pos h]
theorem parM_1 {bs : List Int} (h : ¬ bs.length < 2) (h1 : rv 4 (bs.drop 2) = none) : parM bs = none := by unfold parM; rw [if_neg h, h1]
theorem parM_2 {bs r : List Int} {b : Int} (h : ¬ bs.length < 2) (h1 : rv 4 (bs.drop 2) = some (b, r)) (h2 : rv 4 r = none) : parM bs = none := by unfold parM; rw [if_neg h, h1]; simp only [h2]
theorem parM_3 {bs r r2 : List Int} {b n : Int} (h : ¬ bs.length < 2) (h1 : rv 4 (bs.drop 2) = some (b, r)) (h2 : rv 4 r = some (n, r2)) : parM bs = if 1000 < n then none else (rl n.toNat r2).map (fun l => (b, l)) := by unfold parM; rw [if_neg h, h1]; simp only [h2]
theorem rl_none {k : Nat} {xs : List Int} (h : rv 4 xs = none) : rl (k + 1) xs = none := by simp only [rl, h]
theorem rl_long {k : Nat} {xs r : List Int} {m : Int} (h : rv 4 xs = some (m, r)) (h2 : (r.length : Int) < m) : rl (k + 1) xs = none := by simp only [rl, h, if_pos h2]
theorem rl_some {k : Nat} {xs r : List Int} {m : Int} (h : rv 4 xs = some (m, r)) (h2 : ¬ (r.length : Int) < m) : rl (k + 1) xs = (rl k (r.drop m.toNat)).map (fun l => r.take m.toNat :: l) := by simp only [rl, h, if_neg h2]

set_option maxHeartbeats 8000000 in
set_option maxRecDepth 100000 in
theorem l4lines_any (v : Value) (bs : List Int) (w : World) (hv : SlAt mB 0 0 w.heap.size w v bs) (hcap : CapOk v) (hb : Bytes bs) (hl : bs.length ≤ 1048576) :
    Calls Try.prog 34 #[v] w fun e w' => LinR e w' bs ∧ Below w.heap.size w w' := by
  obtain ⟨j0, hj, hy0, hy1, hy2⟩ := info_parts Try.zinByteS
  have HV := hide hv
  have HB := hide hb
  obtain ⟨a, cap, rfl, -, -⟩ := hv
  have hcp := hcap.le
  have hcm := hcp.2
  unfold maxLen at hcm
  clear hb hcap
  by_cases h2 : bs.length < 2
  · have HN := hide (parM_short h2)
    have h2' : (bs.length : Int) < 2 := by omega
    go_enter Try.func34, Try.ntmps34
    go_wp2
    refine bodyPost_ret (v := .tuple #[.int .i64 0, .slice none 0 0, .bool false]) (by simp [results, Try.results34, go_sem]) rfl ⟨Or.inr ⟨rfl, unhide HN⟩, Below.refl _ _⟩
  · have h2' : ¬ (bs.length : Int) < 2 := by omega
    go_enter Try.func34, Try.ntmps34
    go_wp2_with fail
    refine (l4read_any _ bs 2 w.heap.size w (unhide HV) (unhide HB) hl (by omega)).mono ?_
    rintro e w1 ⟨hr, hw1⟩
    subst hw1
    rcases hr with ⟨b, i, rfl, hr1, hi1, hi2, hb0, hb1⟩ | ⟨rfl, hr1⟩
    · have Hr1 := hide hr1
      have hi0 : ¬ (i : Int) < 0 := by omega
      clear hr1
      go_wp2_with fail
      refine (l4read_any _ bs i w1.heap.size w1 (unhide HV) (unhide HB) hl (by omega)).mono ?_
      rintro e w2 ⟨hr, hw2⟩
      subst hw2
      rcases hr with ⟨n, k0, rfl, hr2, hk1, hk2, hn0, hn1⟩ | ⟨rfl, hr2⟩
      · have Hp := hide (parM_3 h2 (unhide Hr1) hr2)
        have hk0 : ¬ (k0 : Int) < 0 := by omega
        clear hr2
        by_cases hn : 1000 < n
        · have HN : Hid (parM bs = none) := by
            show parM bs = none
            rw [unhide Hp, if_pos hn]
          go_wp2_with fail
          refine bodyPost_ret (v := .tuple #[.int .i64 0, .slice none 0 0, .bool false]) (by simp [results, Try.results34, go_sem]) rfl ⟨Or.inr ⟨rfl, unhide HN⟩, Below.refl _ _⟩
        · have HP : Hid (parM bs = (rl n.toNat (bs.drop k0)).map (fun l => (b, l))) := by
            show parM bs = (rl n.toNat (bs.drop k0)).map (fun l => (b, l))
            rw [unhide Hp, if_neg hn]
          obtain ⟨cnt, hcnt⟩ : ∃ cnt : Nat, n = cnt := ⟨n.toNat, by omega⟩
          subst hcnt
          rw [Int.toNat_natCast] at HP
          have hc1 : cnt ≤ 1000 := by omega
          have HD : Hid ((bs.drop k0).length ≤ bs.length) := by show (bs.drop k0).length ≤ bs.length; rw [List.length_drop]; omega
          clear hn0 hn1 hn Hp
          have Hb1 := hide hb1
          clear hb1
          go_wp2_with fail
          go_loopw [8, 9, 10] (fun qv ov jv wr => ∃ (j q : Nat) (ps : List (Cl Int)), j ≤ cnt ∧ ps.length = j ∧ jv = .int .i64 j ∧ qv = .int .i64 q ∧ q ≤ bs.length ∧ rl cnt (bs.drop k0) = (rl (cnt - j) (bs.drop q)).map (fun l => ps.map Cl.xs ++ l) ∧ tot (ps.map Cl.xs) ≤ q ∧ (∀ x ∈ ps.map Cl.xs, Bytes x) ∧ LB w2.heap.size wr ov ps ∧ Below w2.heap.size w2 wr) (fun _ _ jv _ => cnt - (intOf jv).toNat)
          case atStart => exact ⟨0, k0, [], Nat.zero_le _, rfl, rfl, rfl, hk2, by simp, by simp [Go.Proofs.Ytdgifoblfnfimaa.tot], by simp, LL.nil, Below.refl _ _⟩
          case round =>
            obtain ⟨j, q, ps, hj1, hpl, rfl, rfl, hq, hrl, htt, hby, hll, hB⟩ := hrel
            have hz := hB.size
            have hpl1 : ps.length ≤ 1000 := by omega
            have Hpl := hide hpl
            have Hrl := hide hrl
            have Hby := hide hby
            have Hll := hide hll
            have HV2 := hide ((unhide HV).below hB (Nat.le_refl _))
            obtain ⟨oa, oc, rfl⟩ := own_is hll.own
            clear hrl hby hll hpl
            by_cases hlt : j < cnt
            · have hlt' : (j : Int) < (cnt : Int) := by omega
              obtain ⟨g, hg, hg2⟩ : ∃ g, cnt - j = g + 1 ∧ cnt - (j + 1) = g := ⟨cnt - j - 1, by omega, by omega⟩
              have Hg := hide (And.intro hg hg2)
              clear hg hg2
              go_wp2_with fail
              refine (l4read_any _ bs q wr.heap.size wr (unhide HV2) (unhide HB) hl (by omega)).mono ?_
              rintro e w3 ⟨hr, hw3⟩
              subst hw3
              rcases hr with ⟨m, p, rfl, hr3, hp1, hp2, hm0, hm1⟩ | ⟨rfl, hr3⟩
              · have hp0 : ¬ (p : Int) < 0 := by omega
                have Hr3 := hide hr3
                have Hm1 := hide hm1
                clear hr3 hm1
                by_cases hml : (bs.length : Int) - (p : Int) < m
                · have HN : Hid (parM bs = none) := by
                    show parM bs = none
                    rw [unhide HP, unhide Hrl, (unhide Hg).1, rl_long (unhide Hr3) (by rw [List.length_drop]; omega)]
                    rfl
                  go_wp2_with fail
                  refine bodyPost_ret (v := .tuple #[.int .i64 0, .slice none 0 0, .bool false]) (by simp [results, Try.results34, go_sem]) rfl ⟨Or.inr ⟨rfl, unhide HN⟩, hB⟩
                · obtain ⟨mm, hmm⟩ : ∃ mm : Nat, m = mm := ⟨m.toNat, by omega⟩
                  subst hmm
                  have hpm : p + mm ≤ bs.length := by omega
                  have Hrs := hide (rl_some (k := g) (unhide Hr3) (by rw [List.length_drop]; omega))
                  have HX : Hid (SlAt mB 0 0 w3.heap.size w3 (.slice (if cap = p then a else a.map (fun x => x.add p)) mm (cap - p)) ((bs.drop p).take mm)) := by
                    have h1 := (sl_from (j := p) (unhide HV2) (by omega) hcp.1 hcp.2)
                    have hcl := h1.2.le
                    have h2 := h1.1
                    rw [← List.length_drop] at h2
                    exact (sl_to (j := mm) h2 (by rw [List.length_drop]; omega) (by rw [List.length_drop]; omega) hcl.2).1
                  have HBx : Hid (Bytes ((bs.drop p).take mm)) := bytes_of_mem (fun x hx => mem_of_bytes (unhide HB) x (List.mem_of_mem_drop (List.mem_of_mem_take hx)))
                  have hxl : ((bs.drop p).take mm).length = mm := by rw [List.length_take, List.length_drop]; omega
                  have Hxl := hide hxl
                  rw [Int.toNat_natCast, List.drop_drop] at Hrs
                  clear Hm1 hxl
                  generalize (bs.drop p).take mm = x at *
                  have hxb : x.length ≤ 1048576 := by have := unhide Hxl; omega
                  by_cases hcc : cap = p
                  · rw [if_pos hcc] at HX
                    subst hcc
                    rw [Nat.sub_self] at HX
                    go_wp2_with (first
                      | (at_builtin; refine app_bytes rfl _ _ rfl w3.heap.size _ [] rfl (World.ownsRow_nil _ _ _ _) (Nat.le_refl _) (.slice a mm 0) (by first | rfl | (simp [Act.eval]; done) | (simp [Act.eval]; omega)) x (unhide HX) (by simp; omega) ?_; intro v4 w4 hb4 hg4 ho4 hone; rw [List.nil_append] at ho4; have Hst := hide (LB.push (unhide Hll) hz hb4 hB ho4); have Hk := hide ((unhide Hll).keep hb4 (Nat.le_refl _)); have hz4 := hb4.size; obtain ⟨la, lc, rfl⟩ := own_is ho4; clear ho4 hg4 hb4)
                      | (at_builtin; refine wpList_append_own _ rfl _ _ 22 rfl w2.heap.size 28 j0 (.slice none 0 0) 1 24 Try.underlying22 hj hy0 hy1 hy2 rfl (by decide) _ _ _ rfl (World.ownsRow.alloc (w := w4) (unhide Hk).own _) ⟨w4.heap.size, 0, none⟩ 1 1 [.slice la x.length lc] rfl rfl ?_ ?_ ?_ ?_ ?_ ?_))
                    · exact cell_1 (by simp)
                    · intro u hu; simp at hu; subst hu; rfl
                    · unfold maxLen; omega
                    · omega
                    · rw [sz_alloc]; omega
                    intro v5 w5 h5 hg5 _
                    have h3 := hide (unhide Hst w5 v5 h5 hg5)
                    obtain ⟨g3, cap3, rfl⟩ := ownsRow_succ h5
                    clear h5 hg5
                    go_wp2
                    obtain ⟨pp, r1, r2, r3⟩ := unhide h3
                    refine ⟨⟨j + 1, cap + mm, ps ++ [pp], by omega, by rw [List.length_append, unhide Hpl]; rfl, by go_num, by go_num, hpm, ?_, ?_, ?_, r2, r3⟩, by simp [intOf]; omega⟩
                    · have e9 : ((fun l => List.map Cl.xs ps ++ l) ∘ fun l => x :: l) = fun l => List.map Cl.xs ps ++ [x] ++ l := by funext l; simp
                      rw [unhide Hrl, (unhide Hg).1, unhide Hrs, (unhide Hg).2, Option.map_map, List.map_append, List.map_singleton, r1, e9]
                    · rw [List.map_append, tot_app, List.map_singleton, r1]
                      have := unhide Hxl
                      simp only [Go.Proofs.Ytdgifoblfnfimaa.tot]
                      omega
                    · intro y hy
                      rw [List.map_append, List.map_singleton, r1] at hy
                      rcases List.mem_append.1 hy with hy | hy
                      · exact unhide Hby y hy
                      · rw [List.mem_singleton.1 hy]
                        exact unhide HBx
                  · rw [if_neg hcc] at HX
                    go_wp2_with (first
                      | (at_builtin; refine app_bytes rfl _ _ rfl w3.heap.size _ [] rfl (World.ownsRow_nil _ _ _ _) (Nat.le_refl _) (.slice (Option.map (fun x => x.add p) a) mm (cap - p)) (by first | rfl | (simp [Act.eval]; done) | (simp [Act.eval]; omega)) x (unhide HX) (by simp; omega) ?_; intro v4 w4 hb4 hg4 ho4 hone; rw [List.nil_append] at ho4; have Hst := hide (LB.push (unhide Hll) hz hb4 hB ho4); have Hk := hide ((unhide Hll).keep hb4 (Nat.le_refl _)); have hz4 := hb4.size; obtain ⟨la, lc, rfl⟩ := own_is ho4; clear ho4 hg4 hb4)
                      | (at_builtin; refine wpList_append_own _ rfl _ _ 22 rfl w2.heap.size 28 j0 (.slice none 0 0) 1 24 Try.underlying22 hj hy0 hy1 hy2 rfl (by decide) _ _ _ rfl (World.ownsRow.alloc (w := w4) (unhide Hk).own _) ⟨w4.heap.size, 0, none⟩ 1 1 [.slice la x.length lc] rfl rfl ?_ ?_ ?_ ?_ ?_ ?_))
                    · exact cell_1 (by simp)
                    · intro u hu; simp at hu; subst hu; rfl
                    · unfold maxLen; omega
                    · omega
                    · rw [sz_alloc]; omega
                    intro v5 w5 h5 hg5 _
                    have h3 := hide (unhide Hst w5 v5 h5 hg5)
                    obtain ⟨g3, cap3, rfl⟩ := ownsRow_succ h5
                    clear h5 hg5
                    go_wp2
                    obtain ⟨pp, r1, r2, r3⟩ := unhide h3
                    refine ⟨⟨j + 1, p + mm, ps ++ [pp], by omega, by rw [List.length_append, unhide Hpl]; rfl, by go_num, by go_num, hpm, ?_, ?_, ?_, r2, r3⟩, by simp [intOf]; omega⟩
                    · have e9 : ((fun l => List.map Cl.xs ps ++ l) ∘ fun l => x :: l) = fun l => List.map Cl.xs ps ++ [x] ++ l := by funext l; simp
                      rw [unhide Hrl, (unhide Hg).1, unhide Hrs, (unhide Hg).2, Option.map_map, List.map_append, List.map_singleton, r1, e9]
                    · rw [List.map_append, tot_app, List.map_singleton, r1]
                      have := unhide Hxl
                      simp only [Go.Proofs.Ytdgifoblfnfimaa.tot]
                      omega
                    · intro y hy
                      rw [List.map_append, List.map_singleton, r1] at hy
                      rcases List.mem_append.1 hy with hy | hy
                      · exact unhide Hby y hy
                      · rw [List.mem_singleton.1 hy]
                        exact unhide HBx
              · have HN : Hid (parM bs = none) := by
                  show parM bs = none
                  rw [unhide HP, unhide Hrl, (unhide Hg).1, rl_none hr3]
                  rfl
                clear hr3
                go_wp2_with fail
                refine bodyPost_ret (v := .tuple #[.int .i64 0, .slice none 0 0, .bool false]) (by simp [results, Try.results34, go_sem]) rfl ⟨Or.inr ⟨rfl, unhide HN⟩, hB⟩
            · obtain rfl : j = cnt := by omega
              have HN : Hid (parM bs = some (b, ps.map Cl.xs)) := by
                show parM bs = some (b, ps.map Cl.xs)
                rw [unhide HP, unhide Hrl, Nat.sub_self]
                simp [rl]
              go_wp2_with fail
              refine bodyPost_ret (v := .tuple #[.int .i64 b, .slice oa ps.length oc, .bool true]) (by simp [results, Try.results34, go_sem]) rfl ⟨Or.inl ⟨b, ps.map Cl.xs, _, rfl, unhide HN, ?_, ⟨hb0, by have := unhide Hb1; omega⟩, by rw [List.length_map]; omega, by omega, unhide Hby⟩, hB⟩
              exact (LB.footR (unhide Hll)).all (Nat.le_refl _)
      · have HN := hide (parM_2 h2 (unhide Hr1) hr2)
        clear hr2
        go_wp2_with fail
        refine bodyPost_ret (v := .tuple #[.int .i64 0, .slice none 0 0, .bool false]) (by simp [results, Try.results34, go_sem]) rfl ⟨Or.inr ⟨rfl, unhide HN⟩, Below.refl _ _⟩
    · have HN := hide (parM_1 h2 hr1)
      clear hr1
      go_wp2_with fail
      refine bodyPost_ret (v := .tuple #[.int .i64 0, .slice none 0 0, .bool false]) (by simp [results, Try.results34, go_sem]) rfl ⟨Or.inr ⟨rfl, unhide HN⟩, Below.refl _ _⟩

end Go.Proofs.Ytdgifoblfnfimaa
