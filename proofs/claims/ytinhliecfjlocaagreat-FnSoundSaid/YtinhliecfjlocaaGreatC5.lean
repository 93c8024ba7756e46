import Derived.Test.YtinhliecfjlocaaGreatPk3
namespace Go.Proofs.YtinhliecfjlocaaGreat
open Go.RowKit
theorem ElsAt.pre {lo n : Nat} {w : World} {a : Option Addr} {len cap : Nat} {p q : List El} (h : ElsAt lo n w (.slice a len cap) (p ++ q)) : ElsAt lo n w (.slice a p.length cap) p := by
  obtain ⟨a', cap', e, hl, hc⟩ := h
  simp only [Value.slice.injEq] at e
  obtain ⟨rfl, -, rfl⟩ := e
  rw [List.length_append] at hl hc
  refine ⟨a, cap, rfl, ⟨by omega, hl.2⟩, fun hp => ?_⟩
  obtain ⟨b, off, rfl, h1, h2, h3⟩ := hc (by omega)
  exact ⟨b, off, rfl, h1, h2, fun i hi => by have := h3 i (by omega); rwa [List.getElem?_append_left hi] at this⟩
theorem ElsAt.mid {lo n : Nat} {w : World} {b off len cap cap' : Nat} {p q r : List El} (h : ElsAt lo n w (.slice (some ⟨b, off, none⟩) len cap) (p ++ q ++ r)) (hcap : q.length ≤ cap' ∧ cap' ≤ maxLen) : ElsAt lo n w (.slice (some ⟨b, off + p.length * 4, none⟩) q.length cap') q := by
  obtain ⟨a', cap'', e, hl, hc⟩ := h
  simp only [Value.slice.injEq] at e
  obtain ⟨rfl, -, rfl⟩ := e
  rw [List.length_append, List.length_append] at hl hc
  refine ⟨_, cap', rfl, hcap, fun hp => ?_⟩
  obtain ⟨b', off', e2, h1, h2, h3⟩ := hc (by omega)
  simp only [Option.some.injEq, Addr.mk.injEq, and_true] at e2
  obtain ⟨rfl, rfl⟩ := e2
  refine ⟨b, _, rfl, h1, h2, fun i hi => ?_⟩
  have := h3 (p.length + i) (by omega)
  rw [List.append_assoc, List.getElem?_append_right (by omega), show p.length + i - p.length = i by omega, List.getElem?_append_left hi] at this
  rwa [show off + p.length * 4 + i * 4 = off + (p.length + i) * 4 by omega]
theorem ElsAt.last {lo n : Nat} {w : World} {a : Option Addr} {len cap : Nat} {p : List El} {x : El} (h : ElsAt lo n w (.slice a len cap) (p ++ [x])) :
    len = p.length + 1 ∧ (len ≤ cap ∧ cap ≤ maxLen) ∧ ∃ b off, a = some ⟨b, off, none⟩ ∧ b < n ∧ ElAt lo n w b (off + p.length * 4) x := by
  obtain ⟨a', cap', e, hl, hc⟩ := h
  simp only [Value.slice.injEq] at e
  obtain ⟨rfl, e1, rfl⟩ := e
  rw [List.length_append] at e1 hl hc
  simp only [List.length_singleton] at e1 hl hc
  obtain ⟨b, off, rfl, h1, h2, h3⟩ := hc (by omega)
  have := h3 p.length (by omega)
  exact ⟨e1, ⟨by omega, hl.2⟩, b, off, rfl, h2, by simpa using this⟩
theorem l1start_bin (v : Value) (l r : List El) (cr : Int) (x : El) (z : Int) (w : World) (sr : SegM r cr) (hv : ElsAt 0 w.heap.size w v (l ++ r ++ [x])) (hlen : l.length + r.length + 1 ≤ 1048576) (hz : z = l.length + r.length) :
    Calls Tryz.prog 72 #[v, .int .i64 z] w fun e w' => e = .returned (.int .i64 (l.length : Int)) ∧ w' = w := by
  subst hz
  have pr := sr.ne
  have h := l1start_any v (l ++ r ++ [x]) l.length (l.length + r.length) w hv (by simp; omega) (by omega) (by simp) ?_ ?_
  · rwa [Int.natCast_add] at h
  · rw [show l.length + r.length = (l ++ r).length by simp, List.take_left' rfl, List.drop_left' rfl]
    exact sr.ws
  · intro k h1 h2
    rw [show l.length + r.length = (l ++ r).length by simp, List.take_left' rfl, List.drop_append, List.drop_eq_nil_of_le (by omega), List.nil_append]
    exact sr.tl _ (by omega) (by omega)
def SzS (l : List El) (c : Int) : Prop := ∀ (v : Value) (w : World), ElsAt 0 w.heap.size w v l → l.length ≤ 1048576 → Calls Tryz.prog 68 #[v] w fun e w' => e = .returned (.int .i64 c) ∧ Below w.heap.size w w'
set_option maxHeartbeats 2000000 in
theorem l1size_bin (k : Int) (hk : k = 2 ∨ k = 3) (l r : List El) (cl cr : Int) (sl : SegM l cl) (sr : SegM r cr) (Hl : SzS l cl) (Hr : SzS r cr)
    (v : Value) (w : World) (hv : ElsAt 0 w.heap.size w v (l ++ r ++ [⟨k, [], 0, 0⟩])) (hlen : (l ++ r ++ [(⟨k, [], 0, 0⟩ : El)]).length ≤ 1048576) :
    Calls Tryz.prog 68 #[v] w fun e w' => e = .returned (.int .i64 (cap (cl + cr))) ∧ Below w.heap.size w w' := by
  have hv0 := hv
  obtain ⟨a, cp, rfl, -, -⟩ := id hv
  obtain ⟨hlen2, hcap, b, off, rfl, hbn, hel⟩ := hv.last
  rw [hlen2] at hv hv0 hcap ⊢
  simp only [List.length_append, List.length_singleton] at hv hv0 hlen hlen2 hel hcap ⊢
  unfold maxLen at hcap
  obtain ⟨i1, i2, i3, sv, c0, c1, c2, c3, hints⟩ := hel
  obtain ⟨sa, sc, rfl, -, -, -⟩ := id hints
  simp only at c0 c2 c3
  clear hlen2 i1 i2 i3 hints
  have e1 : (((l.length + r.length + 1 : Nat) : Int) - 1) = ((l.length + r.length : Nat) : Int) := by omega
  have bl := sl.bd
  have br := sr.bd
  have pl := sl.ne
  have pr := sr.ne
  have hvL : ElsAt 0 w.heap.size w (.slice (some ⟨b, off, none⟩) l.length cp) (l) := by rw [List.append_assoc] at hv0; exact hv0.pre
  have hvR := hv0.mid (cap' := cp - l.length) (by unfold maxLen; omega)
  have HvL := hide hvL
  have HvR := hide hvR
  have Hv0 := hide hv0
  clear hvL hvR hv hv0
  rcases hk with rfl | rfl
  all_goals
    go_enter Tryz.func68, Tryz.ntmps68
    go_wp2_with fail
    refine (l1start_bin _ l r cr _ _ _ sr (by exact (unhide Hv0).below (below1 w _) (Nat.le_refl _)) hlen rfl).mono ?_
    rintro e w1 ⟨rfl, rfl⟩
    go_wp2_with fail
    refine (Hl _ _ (by exact (unhide HvL).below (below1 w _) (Nat.le_refl _)) (by omega)).mono ?_
    rintro e w1 ⟨rfl, hb1⟩
    have hB1 : Below w.heap.size w w1 := (below1 w _).trans (hb1.mono (by rw [sz_alloc]; omega))
    clear hb1
    go_wp2_with fail
    refine (Hr _ _ (by exact (unhide HvR).below hB1 (Nat.le_refl _)) (by omega)).mono ?_
    rintro e w2 ⟨rfl, hb2⟩
    have hB2 : Below w.heap.size w w2 := hB1.trans (hb2.mono hB1.size)
    clear hb2
    by_cases hc5 : 500 < cl + cr
    · go_wp2
      go_ret
      exact ⟨ret_int (by unfold cap; rw [if_pos hc5]), hB2⟩
    · go_wp2
      go_ret
      exact ⟨ret_int (by unfold cap; rw [if_neg (by omega)]), hB2⟩
theorem cap_gt {n : Int} (h : 500 < n) : cap n = 501 := by unfold cap; rw [if_pos h]
theorem cap_le {n : Int} (h : ¬ 500 < n) : cap n = n := by unfold cap; rw [if_neg h]
theorem repSize_a {c mn : Int} (h : mn < 1) : repSize c mn (-1) = c + 1 := by unfold repSize; rw [if_pos rfl, if_pos h]; omega
theorem repSize_b {c mn : Int} (h : ¬ mn < 1) : repSize c mn (-1) = mn * c + 1 := by unfold repSize; rw [if_pos rfl, if_neg h]
theorem repSize_c {c mn : Int} : repSize c mn 0 = c := by unfold repSize; rw [if_neg (by omega), if_pos rfl]
theorem repSize_d {c mn mx : Int} (h1 : mx ≠ -1) (h2 : mx ≠ 0) : repSize c mn mx = mn * c + (mx - mn) * (c + 1) := by unfold repSize; rw [if_neg h1, if_neg h2]
set_option maxHeartbeats 2000000 in
theorem l1size_rep (mn mx : Int) (x : List El) (c : Int) (sx : SegM x c) (o2 : 0 ≤ mn) (o3 : mn ≤ 250) (o4 : mx = -1 ∨ (mn ≤ mx ∧ mx ≤ 250)) (Hx : SzS x c)
    (v : Value) (w : World) (hv : ElsAt 0 w.heap.size w v (x ++ [⟨4, [], mn, mx⟩])) (hlen : (x ++ [(⟨4, [], mn, mx⟩ : El)]).length ≤ 1048576) :
    Calls Tryz.prog 68 #[v] w fun e w' => e = .returned (.int .i64 (cap (repSize c mn mx))) ∧ Below w.heap.size w w' := by
  obtain ⟨a, cp, rfl, -, -⟩ := id hv
  obtain ⟨hlen2, hcap, b, off, rfl, hbn, hel⟩ := hv.last
  rw [hlen2] at hv hcap ⊢
  simp only [List.length_append, List.length_singleton] at hv hlen hlen2 hel hcap ⊢
  unfold maxLen at hcap
  obtain ⟨i1, i2, i3, sv, c0, c1, c2, c3, hints⟩ := hel
  obtain ⟨sa, sc, rfl, -, -, -⟩ := id hints
  simp only at c0 c2 c3
  clear hlen2 i1 i2 i3 hints
  have bx := sx.bd
  have px := sx.ne
  have HvX := hide hv.pre
  clear hv
  have m1 : mn * c ≤ 250 * 501 := Int.mul_le_mul o3 bx.2 bx.1 (by omega)
  have m0 : 0 ≤ mn * c := Int.mul_nonneg o2 bx.1
  rcases o4 with rfl | ⟨o4, o5⟩
  · by_cases hm1 : mn < 1
    · rw [repSize_a hm1]
      by_cases hc5 : 500 < c + 1
      · rw [cap_gt hc5]
        go_enter Tryz.func68, Tryz.ntmps68
        go_wp2_with fail
        refine (Hx _ _ (by exact (unhide HvX).below (below1 w _) (Nat.le_refl _)) (by omega)).mono ?_
        rintro e w1 ⟨rfl, hb1⟩
        obtain ⟨hc1, hf1⟩ := bcell hb1
        simp only [sz_alloc] at hc1 hf1
        have hB1 : Below w.heap.size w w1 := (below1 w _).trans (hb1.mono (by rw [sz_alloc]; omega))
        clear hb1
        go_wp2
        go_ret
        exact ⟨rfl, hB1⟩
      · rw [cap_le hc5]
        go_enter Tryz.func68, Tryz.ntmps68
        go_wp2_with fail
        refine (Hx _ _ (by exact (unhide HvX).below (below1 w _) (Nat.le_refl _)) (by omega)).mono ?_
        rintro e w1 ⟨rfl, hb1⟩
        obtain ⟨hc1, hf1⟩ := bcell hb1
        simp only [sz_alloc] at hc1 hf1
        have hB1 : Below w.heap.size w w1 := (below1 w _).trans (hb1.mono (by rw [sz_alloc]; omega))
        clear hb1
        go_wp2
        go_ret
        exact ⟨rfl, hB1⟩
    · rw [repSize_b hm1]
      by_cases hc5 : 500 < mn * c + 1
      · rw [cap_gt hc5]
        go_enter Tryz.func68, Tryz.ntmps68
        go_wp2_with fail
        refine (Hx _ _ (by exact (unhide HvX).below (below1 w _) (Nat.le_refl _)) (by omega)).mono ?_
        rintro e w1 ⟨rfl, hb1⟩
        obtain ⟨hc1, hf1⟩ := bcell hb1
        simp only [sz_alloc] at hc1 hf1
        have hB1 : Below w.heap.size w w1 := (below1 w _).trans (hb1.mono (by rw [sz_alloc]; omega))
        clear hb1
        go_wp2
        go_ret
        exact ⟨rfl, hB1⟩
      · rw [cap_le hc5]
        go_enter Tryz.func68, Tryz.ntmps68
        go_wp2_with fail
        refine (Hx _ _ (by exact (unhide HvX).below (below1 w _) (Nat.le_refl _)) (by omega)).mono ?_
        rintro e w1 ⟨rfl, hb1⟩
        obtain ⟨hc1, hf1⟩ := bcell hb1
        simp only [sz_alloc] at hc1 hf1
        have hB1 : Below w.heap.size w w1 := (below1 w _).trans (hb1.mono (by rw [sz_alloc]; omega))
        clear hb1
        go_wp2
        go_ret
        exact ⟨rfl, hB1⟩
  · by_cases hx0 : mx = 0
    · subst hx0
      rw [repSize_c]
      by_cases hc5 : 500 < c
      · rw [cap_gt hc5]
        go_enter Tryz.func68, Tryz.ntmps68
        go_wp2_with fail
        refine (Hx _ _ (by exact (unhide HvX).below (below1 w _) (Nat.le_refl _)) (by omega)).mono ?_
        rintro e w1 ⟨rfl, hb1⟩
        obtain ⟨hc1, hf1⟩ := bcell hb1
        simp only [sz_alloc] at hc1 hf1
        have hB1 : Below w.heap.size w w1 := (below1 w _).trans (hb1.mono (by rw [sz_alloc]; omega))
        clear hb1
        go_wp2
        go_ret
        exact ⟨rfl, hB1⟩
      · rw [cap_le hc5]
        go_enter Tryz.func68, Tryz.ntmps68
        go_wp2_with fail
        refine (Hx _ _ (by exact (unhide HvX).below (below1 w _) (Nat.le_refl _)) (by omega)).mono ?_
        rintro e w1 ⟨rfl, hb1⟩
        obtain ⟨hc1, hf1⟩ := bcell hb1
        simp only [sz_alloc] at hc1 hf1
        have hB1 : Below w.heap.size w w1 := (below1 w _).trans (hb1.mono (by rw [sz_alloc]; omega))
        clear hb1
        go_wp2
        go_ret
        exact ⟨rfl, hB1⟩
    · rw [repSize_d (by omega) hx0]
      have hx1 : (mx == -1) = false := by simp; omega
      have hx2 : (mx == 0) = false := by simp [hx0]
      have m2 : (mx - mn) * (c + 1) ≤ 250 * 502 := Int.mul_le_mul (by omega) (by omega) (by omega) (by omega)
      have m3 : 0 ≤ (mx - mn) * (c + 1) := Int.mul_nonneg (by omega) (by omega)
      by_cases hc5 : 500 < mn * c + (mx - mn) * (c + 1)
      · rw [cap_gt hc5]
        go_enter Tryz.func68, Tryz.ntmps68
        go_wp2_with fail
        refine (Hx _ _ (by exact (unhide HvX).below (below1 w _) (Nat.le_refl _)) (by omega)).mono ?_
        rintro e w1 ⟨rfl, hb1⟩
        obtain ⟨hc1, hf1⟩ := bcell hb1
        simp only [sz_alloc] at hc1 hf1
        have hB1 : Below w.heap.size w w1 := (below1 w _).trans (hb1.mono (by rw [sz_alloc]; omega))
        clear hb1
        go_wp2
        go_ret
        exact ⟨rfl, hB1⟩
      · rw [cap_le hc5]
        go_enter Tryz.func68, Tryz.ntmps68
        go_wp2_with fail
        refine (Hx _ _ (by exact (unhide HvX).below (below1 w _) (Nat.le_refl _)) (by omega)).mono ?_
        rintro e w1 ⟨rfl, hb1⟩
        obtain ⟨hc1, hf1⟩ := bcell hb1
        simp only [sz_alloc] at hc1 hf1
        have hB1 : Below w.heap.size w w1 := (below1 w _).trans (hb1.mono (by rw [sz_alloc]; omega))
        clear hb1
        go_wp2
        go_ret
        exact ⟨rfl, hB1⟩
set_option maxHeartbeats 2000000 in
theorem l1size_leaf (k : Int) (hk : k = 0 ∨ k = 1) (st : List Int) (v : Value) (w : World) (hv : ElsAt 0 w.heap.size w v [⟨k, st, 0, 0⟩]) :
    Calls Tryz.prog 68 #[v] w fun e w' => e = .returned (.int .i64 1) ∧ Below w.heap.size w w' := by
  obtain ⟨a, cp, rfl, -, hc⟩ := hv
  obtain ⟨b, off, rfl, -, hbn, hel⟩ := hc (by simp)
  obtain ⟨i1, i2, i3, sv, c0, c1, c2, c3, hints⟩ := hel 0 (by simp)
  obtain ⟨sa, sc, rfl, -, -, -⟩ := id hints
  simp only [List.getElem?_cons_zero, Option.getD_some, Nat.zero_mul, Nat.add_zero] at c0 c1 c2 c3
  clear hel hc hints i1 i2 i3
  rcases hk with rfl | rfl
  all_goals
    go_enter Tryz.func68, Tryz.ntmps68
    go_wp2
    go_ret
    exact ⟨rfl, below1 w _⟩
theorem PushR.szs {st st' : List (List El × Int)} {x : El} (h : PushR st x st') (ok : ElOk x) (hs : ∀ s ∈ st, SegM s.1 s.2 ∧ SzS s.1 s.2) : ∀ s ∈ st', SegM s.1 s.2 ∧ SzS s.1 s.2 := by
  have hseg := h.seg ok (fun s hs' => (hs s hs').1)
  refine fun s hm => ⟨hseg s hm, ?_⟩
  obtain ⟨k, xs, mn, mx⟩ := x
  rcases h with ⟨hk, rfl⟩ | ⟨hk, b, l, r, rfl, rfl⟩ | ⟨hk, b, o, rfl, rfl⟩
  · simp only [List.mem_append, List.mem_singleton] at hm; rcases hm with hm | rfl
    · exact (hs s hm).2
    · intro v w hv _
      rcases ok with ⟨q1, q2, q3, q4⟩ | ⟨q1, q2, q3, q4⟩ | ⟨q1, q2, q3, q4, q5⟩ <;> simp only at hk q1 q2 q3 q4
      · subst q3 q4; exact l1size_leaf k hk xs v w hv
      · subst q3 q4; exact l1size_leaf k hk xs v w hv
      · omega
  · simp only [List.mem_append, List.mem_singleton] at hm; rcases hm with hm | rfl
    · exact (hs s (by simp [hm])).2
    · rcases ok with ⟨q1, q2, q3, q4⟩ | ⟨q1, q2, q3, q4⟩ | ⟨q1, q2, q3, q4, q5⟩ <;> simp only at hk q1 q2 q3 q4
      · omega
      · subst q3 q4
        obtain rfl := List.eq_nil_of_length_eq_zero q2
        exact fun v w hv hlen => l1size_bin k hk l.1 r.1 l.2 r.2 (hs l (by simp)).1 (hs r (by simp)).1 (hs l (by simp)).2 (hs r (by simp)).2 v w hv hlen
      · omega
  · simp only [List.mem_append, List.mem_singleton] at hm; rcases hm with hm | rfl
    · exact (hs s (by simp [hm])).2
    · rcases ok with ⟨q1, q2, q3, q4⟩ | ⟨q1, q2, q3, q4⟩ | ⟨q1, q2, q3, q4, q5⟩ <;> simp only at hk q1 q2 q3 q4
      · omega
      · omega
      · subst hk
        obtain rfl := List.eq_nil_of_length_eq_zero q2
        exact fun v w hv hlen => l1size_rep mn mx o.1 o.2 (hs o (by simp)).1 q3 q4 q5 (hs o (by simp)).2 v w hv hlen
theorem exists_seg {xs : List El} (ok : ∀ i : Nat, i < xs.length → ElOk (xs[i]?.getD dE)) (sh : Shape xs) : ∃ c, SegM xs c ∧ SzS xs c := by
  have key : ∀ k : Nat, k ≤ xs.length → ∃ st, flats st = xs.take k ∧ ∀ s ∈ st, SegM s.1 s.2 ∧ SzS s.1 s.2 := by
    intro k
    induction k with
    | zero => intro _; exact ⟨[], by simp [flats], by simp⟩
    | succ k ih =>
      intro hk
      obtain ⟨st, hst, hok⟩ := ih (by omega)
      have hx := ok k (by omega)
      have h1 : wsum (xs.take (k + 1)) + wsum (xs.drop (k + 1)) = 1 := by rw [← wsum_append, List.take_append_drop]; exact sh.1
      have h2 := sh.2 (k + 1) (by omega) hk
      have h3 := wsum_flats (fun s hs => (hok s hs).1.ws)
      rw [hst] at h3
      rw [take_next (by omega), wsum_append, h3] at h1
      simp only [wsum] at h1
      obtain ⟨st', hp⟩ := PushR.ex (st := st) hx (by omega)
      exact ⟨st', by rw [hp.flats, hst, take_next (by omega)], hp.szs hx hok⟩
  obtain ⟨st, hst, hok⟩ := key xs.length (Nat.le_refl _)
  rw [List.take_length] at hst
  have h3 := wsum_flats (fun s hs => (hok s hs).1.ws)
  rw [hst, sh.1] at h3
  obtain ⟨t, rfl⟩ := List.length_eq_one_iff.1 (show st.length = 1 by omega)
  obtain ⟨a, b⟩ := hok t (by simp)
  rw [flats_one] at hst
  rw [hst] at a b
  exact ⟨t.2, a, b⟩
end Go.Proofs.YtinhliecfjlocaaGreat
