import Derived.Test.YtmhafibngbojcaaDoorP6
import Derived.Test.YtmhafibngbojcaaDoorP4
import Derived.Laws.AppendOwnNone
import Derived.Deep.AppendLies
import Derived.Deep.RegionLaw
import Derived.BigRegion
import Derived.Lib.AppendStr
namespace Go.Proofs.YtmhafibngbojcaaDoor
open Go.RowKit

theorem ElsAt.pre {lo n : Nat} {w : World} {a : Option Addr} {len cap : Nat} {p q : List El} (h : ElsAt lo n w (.slice a len cap) (p ++ q)) : ElsAt lo n w (.slice a p.length cap) p := by
  obtain ⟨a', cap', e, hl, hc⟩ := h
  simp only [Value.slice.injEq] at e
  obtain ⟨rfl, -, rfl⟩ := e
  rw [List.length_append] at hl hc
  refine ⟨a, cap, rfl, ⟨by omega, hl.2⟩, fun hp => ?_⟩
  obtain ⟨b, off, rfl, h1, h2, h3⟩ := hc (by omega)
  exact ⟨b, off, rfl, h1, h2, fun i hi => by have := h3 i (by omega); rwa [List.getElem?_append_left hi] at this⟩

theorem ElsAt.mid {lo n : Nat} {w : World} {b off len cap cap' : Nat} {p q r : List El} (h : ElsAt lo n w (.slice (some ⟨b, off, none⟩) len cap) (p ++ q ++ r)) (hcap : q.length ≤ cap' ∧ cap' ≤ maxLen) : ElsAt lo n w (.slice (some ⟨b, off + p.length * 4, none⟩) q.length cap') q := by
  obtain ⟨a', cap'', e, hl, hc⟩ := h
  simp only [Value.slice.injEq] at e
  obtain ⟨rfl, -, rfl⟩ := e
  rw [List.length_append, List.length_append] at hl hc
  refine ⟨_, cap', rfl, hcap, fun hp => ?_⟩
  obtain ⟨b', off', e2, h1, h2, h3⟩ := hc (by omega)
  simp only [Option.some.injEq, Addr.mk.injEq, and_true] at e2
  obtain ⟨rfl, rfl⟩ := e2
  refine ⟨b, _, rfl, h1, h2, fun i hi => ?_⟩
  have := h3 (p.length + i) (by omega)
  rw [List.append_assoc, List.getElem?_append_right (by omega), show p.length + i - p.length = i by omega, List.getElem?_append_left hi] at this
  rwa [show off + p.length * 4 + i * 4 = off + (p.length + i) * 4 by omega]

theorem ElsAt.last {lo n : Nat} {w : World} {a : Option Addr} {len cap : Nat} {p : List El} {x : El} (h : ElsAt lo n w (.slice a len cap) (p ++ [x])) :
    len = p.length + 1 ∧ (len ≤ cap ∧ cap ≤ maxLen) ∧ ∃ b off, a = some ⟨b, off, none⟩ ∧ b < n ∧ ElAt lo n w b (off + p.length * 4) x := by
  obtain ⟨a', cap', e, hl, hc⟩ := h
  simp only [Value.slice.injEq] at e
  obtain ⟨rfl, e1, rfl⟩ := e
  rw [List.length_append] at e1 hl hc
  simp only [List.length_singleton] at e1 hl hc
  obtain ⟨b, off, rfl, h1, h2, h3⟩ := hc (by omega)
  have := h3 p.length (by omega)
  exact ⟨e1, ⟨by omega, hl.2⟩, b, off, rfl, h2, by simpa using this⟩

theorem l1start_bin (v : Value) (l r : List El) (cr : Int) (x : El) (z : Int) (w : World) (sr : SegM r cr) (hv : ElsAt 0 w.heap.size w v (l ++ r ++ [x])) (hlen : l.length + r.length + 1 ≤ 1048576) (hz : z = l.length + r.length) :
    Calls Tryd.prog 26 #[v, .int .i64 z] w fun e w' => e = .returned (.int .i64 (l.length : Int)) ∧ w' = w := by
  subst hz
  have pr := sr.ne
  have h := l1start_any v (l ++ r ++ [x]) l.length (l.length + r.length) w hv (by simp; omega) (by omega) (by simp) ?_ ?_
  · rwa [Int.natCast_add] at h
  · rw [show l.length + r.length = (l ++ r).length by simp, List.take_left' rfl, List.drop_left' rfl]
    exact sr.ws
  · intro k h1 h2
    rw [show l.length + r.length = (l ++ r).length by simp, List.take_left' rfl, List.drop_append, List.drop_eq_nil_of_le (by omega), List.nil_append]
    exact sr.tl _ (by omega) (by omega)

/-- The model counts the size of this list as c. -/
def SzS (l : List El) (c : Int) : Prop := ∀ (v : Value) (w : World), ElsAt 0 w.heap.size w v l → l.length ≤ 1048576 → Calls Tryd.prog 39 #[v] w fun e w' => e = .returned (.int .i64 c) ∧ Below w.heap.size w w'

set_option maxHeartbeats 2000000 in
theorem l1size_bin (k : Int) (hk : k = 2 ∨ k = 3) (l r : List El) (cl cr : Int) (sl : SegM l cl) (sr : SegM r cr) (Hl : SzS l cl) (Hr : SzS r cr)
    (v : Value) (w : World) (hv : ElsAt 0 w.heap.size w v (l ++ r ++ [⟨k, [], 0, 0⟩])) (hlen : (l ++ r ++ [(⟨k, [], 0, 0⟩ : El)]).length ≤ 1048576) :
    Calls Tryd.prog 39 #[v] w fun e w' => e = .returned (.int .i64 (cap (cl + cr))) ∧ Below w.heap.size w w' := by
  have hv0 := hv
  obtain ⟨a, cp, rfl, -, -⟩ := id hv
  obtain ⟨hlen2, hcap, b, off, rfl, hbn, hel⟩ := hv.last
  rw [hlen2] at hv hv0 hcap ⊢
  simp only [List.length_append, List.length_singleton] at hv hv0 hlen hlen2 hel hcap ⊢
  unfold maxLen at hcap
  obtain ⟨i1, i2, i3, sv, c0, c1, c2, c3, hints⟩ := hel
  obtain ⟨sa, sc, rfl, -, -, -⟩ := id hints
  simp only at c0 c2 c3
  clear hlen2 i1 i2 i3 hints
  have e1 : (((l.length + r.length + 1 : Nat) : Int) - 1) = ((l.length + r.length : Nat) : Int) := by omega
  have bl := sl.bd
  have br := sr.bd
  have pl := sl.ne
  have pr := sr.ne
  have hvL : ElsAt 0 w.heap.size w (.slice (some ⟨b, off, none⟩) l.length cp) (l) := by rw [List.append_assoc] at hv0; exact hv0.pre
  have hvR := hv0.mid (cap' := cp - l.length) (by unfold maxLen; omega)
  have HvL := hide hvL
  have HvR := hide hvR
  have Hv0 := hide hv0
  clear hvL hvR hv hv0
  rcases hk with rfl | rfl
  all_goals
    go_enter Tryd.func39, Tryd.ntmps39
    go_wp2_with fail
    refine (l1start_bin _ l r cr _ _ _ sr (by exact (unhide Hv0).below (below1 w _) (Nat.le_refl _)) hlen rfl).mono ?_
    rintro e w1 ⟨rfl, rfl⟩
    go_wp2_with fail
    refine (Hl _ _ (by exact (unhide HvL).below (below1 w _) (Nat.le_refl _)) (by omega)).mono ?_
    rintro e w1 ⟨rfl, hb1⟩
    have hB1 : Below w.heap.size w w1 := (below1 w _).trans (hb1.mono (by rw [sz_alloc]; omega))
    clear hb1
    go_wp2_with fail
    refine (Hr _ _ (by exact (unhide HvR).below hB1 (Nat.le_refl _)) (by omega)).mono ?_
    rintro e w2 ⟨rfl, hb2⟩
    have hB2 : Below w.heap.size w w2 := hB1.trans (hb2.mono hB1.size)
    clear hb2
    by_cases hc5 : 500 < cl + cr
    · go_wp2
      go_ret
      exact ⟨ret_int (by unfold cap; rw [if_pos hc5]), hB2⟩
    · go_wp2
      go_ret
      exact ⟨ret_int (by unfold cap; rw [if_neg (by omega)]), hB2⟩

theorem cap_gt {n : Int} (h : 500 < n) : cap n = 501 := by unfold cap; rw [if_pos h]
theorem cap_le {n : Int} (h : ¬ 500 < n) : cap n = n := by unfold cap; rw [if_neg h]
theorem repSize_a {c mn : Int} (h : mn < 1) : repSize c mn (-1) = c + 1 := by unfold repSize; rw [if_pos rfl, if_pos h]; omega
theorem repSize_b {c mn : Int} (h : ¬ mn < 1) : repSize c mn (-1) = mn * c + 1 := by unfold repSize; rw [if_pos rfl, if_neg h]
theorem repSize_c {c mn : Int} : repSize c mn 0 = c := by unfold repSize; rw [if_neg (by omega), if_pos rfl]
theorem repSize_d {c mn mx : Int} (h1 : mx ≠ -1) (h2 : mx ≠ 0) : repSize c mn mx = mn * c + (mx - mn) * (c + 1) := by unfold repSize; rw [if_neg h1, if_neg h2]

set_option maxHeartbeats 2000000 in
theorem l1size_rep (mn mx : Int) (x : List El) (c : Int) (sx : SegM x c) (o2 : 0 ≤ mn) (o3 : mn ≤ 250) (o4 : mx = -1 ∨ (mn ≤ mx ∧ mx ≤ 250)) (Hx : SzS x c)
    (v : Value) (w : World) (hv : ElsAt 0 w.heap.size w v (x ++ [⟨4, [], mn, mx⟩])) (hlen : (x ++ [(⟨4, [], mn, mx⟩ : El)]).length ≤ 1048576) :
    Calls Tryd.prog 39 #[v] w fun e w' => e = .returned (.int .i64 (cap (repSize c mn mx))) ∧ Below w.heap.size w w' := by
  obtain ⟨a, cp, rfl, -, -⟩ := id hv
  obtain ⟨hlen2, hcap, b, off, rfl, hbn, hel⟩ := hv.last
  rw [hlen2] at hv hcap ⊢
  simp only [List.length_append, List.length_singleton] at hv hlen hlen2 hel hcap ⊢
  unfold maxLen at hcap
  obtain ⟨i1, i2, i3, sv, c0, c1, c2, c3, hints⟩ := hel
  obtain ⟨sa, sc, rfl, -, -, -⟩ := id hints
  simp only at c0 c2 c3
  clear hlen2 i1 i2 i3 hints
  have bx := sx.bd
  have px := sx.ne
  have HvX := hide hv.pre
  clear hv
  have m1 : mn * c ≤ 250 * 501 := Int.mul_le_mul o3 bx.2 bx.1 (by omega)
  have m0 : 0 ≤ mn * c := Int.mul_nonneg o2 bx.1
  rcases o4 with rfl | ⟨o4, o5⟩
  · by_cases hm1 : mn < 1
    · rw [repSize_a hm1]
      by_cases hc5 : 500 < c + 1
      · rw [cap_gt hc5]
        go_enter Tryd.func39, Tryd.ntmps39
        go_wp2_with fail
        refine (Hx _ _ (by exact (unhide HvX).below (below1 w _) (Nat.le_refl _)) (by omega)).mono ?_
        rintro e w1 ⟨rfl, hb1⟩
        obtain ⟨hc1, hf1⟩ := bcell hb1
        simp only [sz_alloc] at hc1 hf1
        have hB1 : Below w.heap.size w w1 := (below1 w _).trans (hb1.mono (by rw [sz_alloc]; omega))
        clear hb1
        go_wp2
        go_ret
        exact ⟨rfl, hB1⟩
      · rw [cap_le hc5]
        go_enter Tryd.func39, Tryd.ntmps39
        go_wp2_with fail
        refine (Hx _ _ (by exact (unhide HvX).below (below1 w _) (Nat.le_refl _)) (by omega)).mono ?_
        rintro e w1 ⟨rfl, hb1⟩
        obtain ⟨hc1, hf1⟩ := bcell hb1
        simp only [sz_alloc] at hc1 hf1
        have hB1 : Below w.heap.size w w1 := (below1 w _).trans (hb1.mono (by rw [sz_alloc]; omega))
        clear hb1
        go_wp2
        go_ret
        exact ⟨rfl, hB1⟩
    · rw [repSize_b hm1]
      by_cases hc5 : 500 < mn * c + 1
      · rw [cap_gt hc5]
        go_enter Tryd.func39, Tryd.ntmps39
        go_wp2_with fail
        refine (Hx _ _ (by exact (unhide HvX).below (below1 w _) (Nat.le_refl _)) (by omega)).mono ?_
        rintro e w1 ⟨rfl, hb1⟩
        obtain ⟨hc1, hf1⟩ := bcell hb1
        simp only [sz_alloc] at hc1 hf1
        have hB1 : Below w.heap.size w w1 := (below1 w _).trans (hb1.mono (by rw [sz_alloc]; omega))
        clear hb1
        go_wp2
        go_ret
        exact ⟨rfl, hB1⟩
      · rw [cap_le hc5]
        go_enter Tryd.func39, Tryd.ntmps39
        go_wp2_with fail
        refine (Hx _ _ (by exact (unhide HvX).below (below1 w _) (Nat.le_refl _)) (by omega)).mono ?_
        rintro e w1 ⟨rfl, hb1⟩
        obtain ⟨hc1, hf1⟩ := bcell hb1
        simp only [sz_alloc] at hc1 hf1
        have hB1 : Below w.heap.size w w1 := (below1 w _).trans (hb1.mono (by rw [sz_alloc]; omega))
        clear hb1
        go_wp2
        go_ret
        exact ⟨rfl, hB1⟩
  · by_cases hx0 : mx = 0
    · subst hx0
      rw [repSize_c]
      by_cases hc5 : 500 < c
      · rw [cap_gt hc5]
        go_enter Tryd.func39, Tryd.ntmps39
        go_wp2_with fail
        refine (Hx _ _ (by exact (unhide HvX).below (below1 w _) (Nat.le_refl _)) (by omega)).mono ?_
        rintro e w1 ⟨rfl, hb1⟩
        obtain ⟨hc1, hf1⟩ := bcell hb1
        simp only [sz_alloc] at hc1 hf1
        have hB1 : Below w.heap.size w w1 := (below1 w _).trans (hb1.mono (by rw [sz_alloc]; omega))
        clear hb1
        go_wp2
        go_ret
        exact ⟨rfl, hB1⟩
      · rw [cap_le hc5]
        go_enter Tryd.func39, Tryd.ntmps39
        go_wp2_with fail
        refine (Hx _ _ (by exact (unhide HvX).below (below1 w _) (Nat.le_refl _)) (by omega)).mono ?_
        rintro e w1 ⟨rfl, hb1⟩
        obtain ⟨hc1, hf1⟩ := bcell hb1
        simp only [sz_alloc] at hc1 hf1
        have hB1 : Below w.heap.size w w1 := (below1 w _).trans (hb1.mono (by rw [sz_alloc]; omega))
        clear hb1
        go_wp2
        go_ret
        exact ⟨rfl, hB1⟩
    · rw [repSize_d (by omega) hx0]
      have hx1 : (mx == -1) = false := by simp; omega
      have hx2 : (mx == 0) = false := by simp [hx0]
      have m2 : (mx - mn) * (c + 1) ≤ 250 * 502 := Int.mul_le_mul (by omega) (by omega) (by omega) (by omega)
      have m3 : 0 ≤ (mx - mn) * (c + 1) := Int.mul_nonneg (by omega) (by omega)
      by_cases hc5 : 500 < mn * c + (mx - mn) * (c + 1)
      · rw [cap_gt hc5]
        go_enter Tryd.func39, Tryd.ntmps39
        go_wp2_with fail
        refine (Hx _ _ (by exact (unhide HvX).below (below1 w _) (Nat.le_refl _)) (by omega)).mono ?_
        rintro e w1 ⟨rfl, hb1⟩
        obtain ⟨hc1, hf1⟩ := bcell hb1
        simp only [sz_alloc] at hc1 hf1
        have hB1 : Below w.heap.size w w1 := (below1 w _).trans (hb1.mono (by rw [sz_alloc]; omega))
        clear hb1
        go_wp2
        go_ret
        exact ⟨rfl, hB1⟩
      · rw [cap_le hc5]
        go_enter Tryd.func39, Tryd.ntmps39
        go_wp2_with fail
        refine (Hx _ _ (by exact (unhide HvX).below (below1 w _) (Nat.le_refl _)) (by omega)).mono ?_
        rintro e w1 ⟨rfl, hb1⟩
        obtain ⟨hc1, hf1⟩ := bcell hb1
        simp only [sz_alloc] at hc1 hf1
        have hB1 : Below w.heap.size w w1 := (below1 w _).trans (hb1.mono (by rw [sz_alloc]; omega))
        clear hb1
        go_wp2
        go_ret
        exact ⟨rfl, hB1⟩

set_option maxHeartbeats 2000000 in
theorem l1size_leaf (k : Int) (hk : k = 0 ∨ k = 1) (st : List Int) (v : Value) (w : World) (hv : ElsAt 0 w.heap.size w v [⟨k, st, 0, 0⟩]) :
    Calls Tryd.prog 39 #[v] w fun e w' => e = .returned (.int .i64 1) ∧ Below w.heap.size w w' := by
  obtain ⟨a, cp, rfl, -, hc⟩ := hv
  obtain ⟨b, off, rfl, -, hbn, hel⟩ := hc (by simp)
  obtain ⟨i1, i2, i3, sv, c0, c1, c2, c3, hints⟩ := hel 0 (by simp)
  obtain ⟨sa, sc, rfl, -, -, -⟩ := id hints
  simp only [List.getElem?_cons_zero, Option.getD_some, Nat.zero_mul, Nat.add_zero] at c0 c1 c2 c3
  clear hel hc hints i1 i2 i3
  rcases hk with rfl | rfl
  all_goals
    go_enter Tryd.func39, Tryd.ntmps39
    go_wp2
    go_ret
    exact ⟨rfl, below1 w _⟩

theorem PushR.szs {st st' : List (List El × Int)} {x : El} (h : PushR st x st') (ok : ElOk x) (hs : ∀ s ∈ st, SegM s.1 s.2 ∧ SzS s.1 s.2) : ∀ s ∈ st', SegM s.1 s.2 ∧ SzS s.1 s.2 := by
  have hseg := h.seg ok (fun s hs' => (hs s hs').1)
  refine fun s hm => ⟨hseg s hm, ?_⟩
  obtain ⟨k, xs, mn, mx⟩ := x
  rcases h with ⟨hk, rfl⟩ | ⟨hk, b, l, r, rfl, rfl⟩ | ⟨hk, b, o, rfl, rfl⟩
  · simp only [List.mem_append, List.mem_singleton] at hm; rcases hm with hm | rfl
    · exact (hs s hm).2
    · intro v w hv _
      rcases ok with ⟨q1, q2, q3, q4⟩ | ⟨q1, q2, q3, q4⟩ | ⟨q1, q2, q3, q4, q5⟩ <;> simp only at hk q1 q2 q3 q4
      · subst q3 q4; exact l1size_leaf k hk xs v w hv
      · subst q3 q4; exact l1size_leaf k hk xs v w hv
      · omega
  · simp only [List.mem_append, List.mem_singleton] at hm; rcases hm with hm | rfl
    · exact (hs s (by simp [hm])).2
    · rcases ok with ⟨q1, q2, q3, q4⟩ | ⟨q1, q2, q3, q4⟩ | ⟨q1, q2, q3, q4, q5⟩ <;> simp only at hk q1 q2 q3 q4
      · omega
      · subst q3 q4
        obtain rfl := List.eq_nil_of_length_eq_zero q2
        exact fun v w hv hlen => l1size_bin k hk l.1 r.1 l.2 r.2 (hs l (by simp)).1 (hs r (by simp)).1 (hs l (by simp)).2 (hs r (by simp)).2 v w hv hlen
      · omega
  · simp only [List.mem_append, List.mem_singleton] at hm; rcases hm with hm | rfl
    · exact (hs s (by simp [hm])).2
    · rcases ok with ⟨q1, q2, q3, q4⟩ | ⟨q1, q2, q3, q4⟩ | ⟨q1, q2, q3, q4, q5⟩ <;> simp only at hk q1 q2 q3 q4
      · omega
      · omega
      · subst hk
        obtain rfl := List.eq_nil_of_length_eq_zero q2
        exact fun v w hv hlen => l1size_rep mn mx o.1 o.2 (hs o (by simp)).1 q3 q4 q5 (hs o (by simp)).2 v w hv hlen

/-- A list of good elements in the right shape is a tree, and the model counts its size. -/
theorem exists_seg {xs : List El} (ok : ∀ i : Nat, i < xs.length → ElOk (xs[i]?.getD dE)) (sh : Shape xs) : ∃ c, SegM xs c ∧ SzS xs c := by
  have key : ∀ k : Nat, k ≤ xs.length → ∃ st, flats st = xs.take k ∧ ∀ s ∈ st, SegM s.1 s.2 ∧ SzS s.1 s.2 := by
    intro k
    induction k with
    | zero => intro _; exact ⟨[], by simp [flats], by simp⟩
    | succ k ih =>
      intro hk
      obtain ⟨st, hst, hok⟩ := ih (by omega)
      have hx := ok k (by omega)
      have h1 : wsum (xs.take (k + 1)) + wsum (xs.drop (k + 1)) = 1 := by rw [← wsum_append, List.take_append_drop]; exact sh.1
      have h2 := sh.2 (k + 1) (by omega) hk
      have h3 := wsum_flats (fun s hs => (hok s hs).1.ws)
      rw [hst] at h3
      rw [take_next (by omega), wsum_append, h3] at h1
      simp only [wsum] at h1
      obtain ⟨st', hp⟩ := PushR.ex (st := st) hx (by omega)
      exact ⟨st', by rw [hp.flats, hst, take_next (by omega)], hp.szs hx hok⟩
  obtain ⟨st, hst, hok⟩ := key xs.length (Nat.le_refl _)
  rw [List.take_length] at hst
  have h3 := wsum_flats (fun s hs => (hok s hs).1.ws)
  rw [hst, sh.1] at h3
  obtain ⟨t, rfl⟩ := List.length_eq_one_iff.1 (show st.length = 1 by omega)
  obtain ⟨a, b⟩ := hok t (by simp)
  rw [flats_one] at hst
  rw [hst] at a b
  exact ⟨t.2, a, b⟩

end Go.Proofs.YtmhafibngbojcaaDoor

namespace Go.Proofs.YtmhafibngbojcaaDoor
open Go.RowKit

theorem Tryd.zinOp : (Tryd.prog.info? 53).map (fun i => (i.zero, i.size, i.bytes)) = some (some (.agg #[.int .i64 0, .slice none 0 0, .int .i64 0, .int .i64 0]), 4, 48) := by kernel_rfl

theorem GrowP.app1 {base : Nat} {wr w1 W w' : World} {v v' : Value} {ps : List Pc} {x : El} {s : Value} {T : Nat → Prop} {o : Obj} (h : GrowP base wr v ps) (hbase : base ≤ wr.heap.size) (hb : Below wr.heap.size wr w1) (hs : SlF mI 0 T w1 s x.set) (hT : ∀ k, T k → wr.heap.size ≤ k ∧ k < w1.heap.size) (hP : Pushd w1 W o)
    (h1 : w'.ownsRow base 53 4 v' (ps.length + 1) (cellsP ps ++ cell4 x s)) (hg : W.grownBy w' v.ownBlock) (ho : v'.ownBlock = v.ownBlock ∨ v'.ownBlock = some W.heap.size) : GrowP base w' v' (ps ++ [⟨x, s, T⟩]) ∧ Below base wr w' := by
  have hB : Below wr.heap.size wr W := hb.trans (hP.below.mono hb.size)
  refine ⟨h.app (qs := [⟨x, s, T⟩]) hbase hB (fun p hp => ?_) (fun p hp k hk => ?_) (List.pairwise_singleton _ _) (by simpa [cellsP] using h1) hg ho, (hB.mono hbase).grown hg (by have := hB.size; omega) (fun k hk => (h.own.lt k hk).1)⟩
  · obtain rfl := List.mem_singleton.1 hp
    exact hs.same (fun k hk => hP.old (hT k hk).2)
  · obtain rfl := List.mem_singleton.1 hp
    have := hT k hk
    have := hP.size
    exact ⟨(hT k hk).1, by omega⟩

end Go.Proofs.YtmhafibngbojcaaDoor

namespace Go.Proofs.YtmhafibngbojcaaDoor
open Go.RowKit

theorem SlF.none (w : World) : SlF mI 0 (fun _ => False) w (.slice none 0 0) [] := ⟨0, 0, ⟨.none, 0, rfl, Nat.zero_le _, fun h => absurd h (by simp)⟩, fun k h1 h2 => by omega⟩

/-- One element more. -/
theorem app_op {base : Nat} {wr w1 W : World} {ops : Array Oper} {rest : List Oper} {o : Oper} {a : Act} {Q : Exit → Act → World → Prop} {v : Value} {ps : List Pc} (x : El) (sv : Value) (T : Nat → Prop) (hgd : o.guard = none) (s y : Operand)
    (ho : o.op = .call { callee := .builtin .append, args := #[s, y], argTypes := #[28, 28] }) (hs : a.eval s = v) (hy : a.eval y = .slice (some ⟨w1.heap.size, 0, none⟩) 1 1)
    (h : GrowP base wr v ps) (hbase : base ≤ wr.heap.size) (hb : Below wr.heap.size wr w1) (hsl : SlF mI 0 T w1 sv x.set) (hT : ∀ k, T k → wr.heap.size ≤ k ∧ k < w1.heap.size) (h1c : sv.oneCell' = true)
    (hP : Pushd w1 W (.cells #[.int .i64 x.kind, sv, .int .i64 x.mn, .int .i64 x.mx] 53)) (hlen : ps.length ≤ 16777216)
    (K : ∀ v' w', GrowP base w' v' (ps ++ [⟨x, sv, T⟩]) → Below base wr w' → wpList Tryd.prog ops Q rest (a.put o.dst v') w') : wpList Tryd.prog ops Q (o :: rest) a W := by
  obtain ⟨j0, hj, hy0, hy1, hy2⟩ := info_parts Tryd.zinOp
  have hown := hP.own (own_keep h.own hb (Nat.le_refl _))
  refine wpList_append_own_at W hgd s y 28 ho base 53 j0 (.agg #[.int .i64 0, .slice none 0 0, .int .i64 0, .int .i64 0]) 4 48 Tryd.underlying28 hj hy0 hy1 hy2 rfl (by decide) v ps.length (cellsP ps) hs hown ⟨w1.heap.size, 0, none⟩ 1 1 (cell4 x sv) hy rfl ?_ ?_ ?_ ?_ ?_ ?_
  · exact Pushd.news hP
  · intro u hu
    simp only [cell4, List.mem_cons, List.not_mem_nil, or_false] at hu
    rcases hu with rfl | rfl | rfl | rfl
    · rfl
    · exact h1c
    · rfl
    · rfl
  · unfold maxLen; omega
  · omega
  · have := hP.size; have := hb.size; omega
  · intro v' w' q1 q2 _ q3
    obtain ⟨r1, r2⟩ := h.app1 hbase hb hsl hT hP q1 q2 q3
    exact K v' w' r1 r2

/-- All of another list's elements more. -/
theorem app_ops {base : Nat} {wr W : World} {ops : Array Oper} {rest : List Oper} {o : Oper} {a : Act} {Q : Exit → Act → World → Prop} {v u : Value} {ps qs : List Pc} (hgd : o.guard = none) (s y : Operand)
    (ho : o.op = .call { callee := .builtin .append, args := #[s, y], argTypes := #[28, 28] }) (hs : a.eval s = v) (hy : a.eval y = u)
    (h : GrowP base wr v ps) (hbase : base ≤ wr.heap.size) (hb : Below wr.heap.size wr W) (hq : GrowP wr.heap.size W u qs) (hq1 : ∀ p ∈ qs, p.s.oneCell' = true) (hlen : ps.length ≤ 16777216) (hlen2 : qs.length ≤ 16777216)
    (K : ∀ v' w', GrowP base w' v' (ps ++ qs) → Below base wr w' → wpList Tryd.prog ops Q rest (a.put o.dst v') w') : wpList Tryd.prog ops Q (o :: rest) a W := by
  obtain ⟨j0, hj, hy0, hy1, hy2⟩ := info_parts Tryd.zinOp
  have hown := own_keep h.own hb (Nat.le_refl _)
  rcases hq.own.2 with ⟨rfl, hz⟩ | ⟨g, cap, cur, rfl, hbg, hgc, hnc, hcm, hcs, htake⟩
  · obtain rfl : qs = [] := List.eq_nil_of_length_eq_zero hz
    refine wpList_append_none_c hgd s y 28 ho base 53 j0 4 Tryd.underlying28 hj v ps.length (cellsP ps) hs hown 0 hy (K v W ?_ (hb.mono hbase))
    rw [List.append_nil]
    exact h.keep hb (Nat.le_refl _)
  · refine wpList_append_own_at W hgd s y 28 ho base 53 j0 (.agg #[.int .i64 0, .slice none 0 0, .int .i64 0, .int .i64 0]) 4 48 Tryd.underlying28 hj hy0 hy1 hy2 rfl (by decide) v ps.length (cellsP ps) hs hown ⟨g, 0, none⟩ qs.length cap (cellsP qs) hy (cellsP_len qs) ?_ (cellsP_one qs hq1) ?_ ?_ ?_ ?_
    · intro j y hj2
      have e3 : (⟨g, 0, none⟩ : Addr).add j = ⟨g, j, none⟩ := by cases j <;> simp [Addr.add]
      rw [e3, hq.own.cellAt j (by have := (List.getElem?_eq_some_iff.1 hj2).1; rw [cellsP_len] at this; exact this)]
      exact hj2
    · unfold maxLen; omega
    · omega
    · have := hb.size; omega
    · intro v' w' q1 q2 _ q3
      exact K v' w' (h.app hbase hb hq.set (fun p hp k hk => ⟨(hq.blk p hp k hk).1, (hq.blk p hp k hk).2.1⟩) hq.dis q1 q2 q3) ((hb.mono hbase).grown q2 (by have := hb.size; omega) (fun k hk => (h.own.lt k hk).1))

theorem Pc.one {w : World} {p : Pc} (h : SlF mI 0 p.T w p.s p.x.set) : p.s.oneCell' = true := by
  obtain ⟨a, c, e⟩ := h.val
  rw [e]; rfl

theorem GrowE.lit (w : World) : GrowE w.heap.size (w.alloc (.cells #[.int .i64 0, .slice none 0 0, .int .i64 0, .int .i64 0] 53)) (.slice (some ⟨w.heap.size, 0, none⟩) 1 1) [⟨0, [], 0, 0⟩] := by
  refine ⟨[⟨⟨0, [], 0, 0⟩, .slice none 0 0, fun _ => False⟩], rfl, World.ownsRow_lit w _ 1 (Nat.le_refl _) (by unfold maxLen; omega) rfl, fun p hp => ?_, fun p hp k hk => ?_, List.pairwise_singleton _ _⟩
  · obtain rfl := List.mem_singleton.1 hp
    exact SlF.none _
  · obtain rfl := List.mem_singleton.1 hp
    exact hk.elim

end Go.Proofs.YtmhafibngbojcaaDoor

namespace Go.Proofs.YtmhafibngbojcaaDoor
open Go.RowKit

/-- Lists of elements whose numbers lie within 64 bits, with sets of a bounded length. -/
structure Nice (xs : List El) : Prop where
  num : Num xs
  len : ∀ i : Nat, (xs[i]?.getD dE).set.length ≤ 1048576
theorem Nice.nil : Nice [] := ⟨fun i => by simp [dE, In64], fun i => by simp [dE]⟩
theorem Nice.app {a b : List El} (ha : Nice a) (hb : Nice b) : Nice (a ++ b) := by
  refine ⟨fun i => ?_, fun i => ?_⟩
  · by_cases h : i < a.length
    · rw [List.getElem?_append_left h]; exact ha.num i
    · rw [List.getElem?_append_right (by omega)]; exact hb.num _
  · by_cases h : i < a.length
    · rw [List.getElem?_append_left h]; exact ha.len i
    · rw [List.getElem?_append_right (by omega)]; exact hb.len _
theorem Nice.op (k mn mx : Int) (h1 : In64 k) (h2 : In64 mn) (h3 : In64 mx) : Nice [⟨k, [], mn, mx⟩] := by
  refine ⟨fun i => ?_, fun i => ?_⟩
  · cases i with
    | zero => exact ⟨h1, h2, h3, fun j => by simp [In64]⟩
    | succ i => simp [dE, In64]
  · cases i with
    | zero => simp
    | succ i => simp [dE]
theorem GrowE.els {base : Nat} {w : World} {v : Value} {xs : List El} (h : GrowE base w v xs) (hn : Nice xs) : ElsAt 0 w.heap.size w v xs := h.foot.at (fun _ hk => hk.2) hn.num

end Go.Proofs.YtmhafibngbojcaaDoor

namespace Go.Proofs.YtmhafibngbojcaaDoor
open Go.RowKit

/-- A string, as the list of its bytes. -/
def StrB (s : ByteArray) (xs : List Int) : Prop := Go.Lib.strCells s = xs.map mB
/-- A digit of sixteen. -/
def hexd (d : Int) : Int := if d < 10 then 48 + d else 87 + d
def spcL : List Int := [92, 46, 91, 93, 40, 41, 124, 42, 43, 63, 123, 125, 94, 36]
/-- The text of a byte. -/
def byT (b : Int) : List Int :=
  if b = 10 then [92, 110] else if b = 9 then [92, 116] else if b = 13 then [92, 114]
  else if b ∈ spcL ∨ b = 45 then [92, b] else if 32 ≤ b ∧ b ≤ 126 then [b] else [92, 120, hexd (b / 16), hexd (b % 16)]
theorem byT_len (b : Int) : (byT b).length ≤ 4 := by
  unfold byT
  repeat' split
  all_goals simp
def rngT (lo hi : Int) : List Int := byT lo ++ (if lo + 1 < hi then [45] else []) ++ (if lo < hi then byT hi else [])
theorem rngT_len (lo hi : Int) : (rngT lo hi).length ≤ 9 := by
  unfold rngT
  have h1 := byT_len lo
  have h2 := byT_len hi
  simp only [List.length_append]
  split <;> split <;> simp <;> omega
def rngsT (xs : List Int) : Nat → List Int
  | 0 => []
  | n + 1 => rngsT xs n ++ rngT (xs[2 * n]?.getD 0) (xs[2 * n + 1]?.getD 0)
theorem rngsT_len (xs : List Int) : ∀ n : Nat, (rngsT xs n).length ≤ 9 * n
  | 0 => by simp [rngsT]
  | n + 1 => by
    have h1 := rngsT_len xs n
    have h2 := rngT_len (xs[2 * n]?.getD 0) (xs[2 * n + 1]?.getD 0)
    simp only [rngsT, List.length_append]
    omega
/-- The text of a set. -/
def setT (xs : List Int) : List Int :=
  if xs = [0, 255] then [91, 94, 93] else if xs = [0, 9, 11, 255] then [46]
  else if xs.length = 2 ∧ xs[0]?.getD 0 = xs[1]?.getD 0 then byT (xs[0]?.getD 0) else 91 :: rngsT xs (xs.length / 2) ++ [93]
theorem setT_len {xs : List Int} (h : xs.length ≤ 300) : (setT xs).length ≤ 1500 := by
  unfold setT
  have h1 := byT_len (xs[0]?.getD 0)
  have h2 := rngsT_len xs (xs.length / 2)
  split
  · simp
  · split
    · simp
    · split
      · omega
      · simp only [List.length_append, List.length_cons, List.length_nil]; omega
def decT (v : Int) : List Int := if v < 10 then [48 + v] else if v < 100 then [48 + v / 10, 48 + v % 10] else [48 + v / 100, 48 + v / 10 % 10, 48 + v % 10]
theorem decT_len (v : Int) : (decT v).length ≤ 3 := by
  unfold decT
  repeat' split
  all_goals simp
/-- The text of a repetition's bounds. -/
def repT (lo hi : Int) : List Int :=
  if lo = 0 ∧ hi = -1 then [42] else if lo = 1 ∧ hi = -1 then [43] else if lo = 0 ∧ hi = 1 then [63]
  else if hi = -1 then 123 :: decT lo ++ [44, 125] else if lo = hi then 123 :: decT lo ++ [125] else 123 :: decT lo ++ 44 :: decT hi ++ [125]
theorem repT_len (lo hi : Int) : (repT lo hi).length ≤ 9 := by
  unfold repT
  have h1 := decT_len lo
  have h2 := decT_len hi
  repeat' split
  all_goals simp only [List.length_append, List.length_cons, List.length_nil, List.cons_append]
  all_goals omega
/-- In parentheses, where it must. -/
def grp (p : Prop) [Decidable p] (t : List Int) : List Int := if p then 40 :: t ++ [41] else t
theorem grp_len (p : Prop) [Decidable p] (t : List Int) : (grp p t).length ≤ t.length + 2 := by
  unfold grp
  split
  · simp
  · omega
abbrev Tx := Int × List Int
def repX2 (o : Tx) (mn mx : Int) : Tx := (4, grp (2 ≤ o.1) o.2 ++ repT mn mx)
def catX2 (l r : Tx) : Tx := (2, grp (l.1 = 3) l.2 ++ grp (r.1 = 3 ∨ r.1 = 2) r.2)
def altX2 (l r : Tx) : Tx := (3, l.2 ++ 124 :: grp (r.1 = 3) r.2)
/-- The texts on the stack, top first, behind one element more. -/
def tPush (st : List Tx) (x : El) : List Tx :=
  if x.kind = 0 then (0, [40, 41]) :: st else if x.kind = 1 then (1, setT x.set) :: st else
  match st with
  | [] => []
  | [o] => if x.kind = 4 then [repX2 o x.mn x.mx] else [o]
  | r :: l :: b => if x.kind = 4 then repX2 r x.mn x.mx :: l :: b else if x.kind = 2 then catX2 l r :: b else altX2 l r :: b
def tRun (st : List Tx) : List El → List Tx
  | [] => st
  | x :: r => tRun (tPush st x) r
theorem tRun_append (st : List Tx) (a b : List El) : tRun st (a ++ b) = tRun (tRun st a) b := by
  induction a generalizing st with
  | nil => rfl
  | cons x r ih => simp [tRun, ih]
def SegT (seg : List El) (t : Tx) : Prop := ∀ st, tRun st seg = t :: st
theorem SegT.one {a : List El} {s t : Tx} (h : SegT a s) (k : SegT a t) : s = t := by
  have := (h []).symm.trans (k [])
  simpa using this
theorem SegT.e : SegT [⟨0, [], 0, 0⟩] (0, [40, 41]) := fun st => by simp [tRun, tPush]
theorem SegT.s (xs : List Int) : SegT [⟨1, xs, 0, 0⟩] (1, setT xs) := fun st => by simp [tRun, tPush]
theorem SegT.cat {a b : List El} {s t : Tx} (ha : SegT a s) (hb : SegT b t) : SegT (a ++ b ++ [⟨2, [], 0, 0⟩]) (catX2 s t) := fun st => by
  rw [tRun_append, tRun_append, ha, hb]
  simp [tRun, tPush]
theorem SegT.alt {a b : List El} {s t : Tx} (ha : SegT a s) (hb : SegT b t) : SegT (a ++ b ++ [⟨3, [], 0, 0⟩]) (altX2 s t) := fun st => by
  rw [tRun_append, tRun_append, ha, hb]
  simp [tRun, tPush]
theorem SegT.rep {a : List El} {s : Tx} (ha : SegT a s) (mn mx : Int) : SegT (a ++ [⟨4, [], mn, mx⟩]) (repX2 s mn mx) := fun st => by
  rw [tRun_append, ha]
  cases st with
  | nil => simp [tRun, tPush]
  | cons q st => simp [tRun, tPush]

end Go.Proofs.YtmhafibngbojcaaDoor
