import Derived.Test.YtijejbdpagbmpaaDoorP3
import Derived.Test.YtijejbdpagbmpaaDoorP1
namespace Go.Proofs.YtijejbdpagbmpaaDoor
open Go.RowKit

set_option maxHeartbeats 1000000 in
theorem l1start_any (v : Value) (xs : List El) (lo en : Nat) (w : World) (hv : ElsAt 0 w.heap.size w v xs) (hlen : xs.length ≤ 1048576) (hle : lo < en) (hen : en ≤ xs.length)
    (h1 : wsum ((xs.take en).drop lo) = 1) (h2 : ∀ k : Nat, lo < k → k ≤ en → wsum ((xs.take en).drop k) ≤ 0) :
    Calls Tryd.prog 39 #[v, .int .i64 (en : Int)] w fun e w' => e = .returned (.int .i64 (lo : Int)) ∧ w' = w := by
  obtain ⟨a, cap, rfl, hl, hc⟩ := hv
  have H2 := hide h2
  have H1 := hide h1
  clear h1 h2
  have hE : (xs.take en).length = en := by rw [List.length_take]; omega
  go_enter Tryd.func39, Tryd.ntmps39
  go_wp2
  go_loop [5, 6] (fun n i => ∃ k : Nat, lo ≤ k ∧ k ≤ en ∧ i = .int .i64 (k : Int) ∧ n = .int .i64 (1 - wsum ((xs.take en).drop k))) (fun _ i => (intOf i).toNat)
  case atStart => exact ⟨en, by omega, Nat.le_refl _, rfl, by rw [List.drop_eq_nil_of_le (by omega)]; rfl⟩
  case round =>
    obtain ⟨k, hk, hk2, rfl, rfl⟩ := hrel
    by_cases hgt : lo < k
    · cases k with
      | zero => omega
      | succ k =>
        obtain ⟨b, off, rfl, -, hbn, hel⟩ := hc (by omega)
        obtain ⟨i1, i2, i3, v, c0, c1, c2, c3, hints⟩ := hel k (by omega)
        have hws := wsum_drop (xs := xs.take en) (k := k) (by omega)
        have hbd := wsum_bd ((xs.take en).drop (k + 1))
        rw [List.length_drop, hE] at hbd
        rw [List.getElem?_take_of_lt (by omega)] at hws
        have hs0 := unhide H2 (k + 1) hgt hk2
        have hkk : (k : Int) < (xs.length : Int) := by omega
        clear hE
        generalize hS : wsum ((xs.take en).drop (k + 1)) = s at *
        generalize xs[k]?.getD dE = x at *
        have Hws := hide hws
        have HS := hide hS
        clear hws hS hints i2 i3 c1 c2 c3
        have hwt : wt x = if x.kind = 0 ∨ x.kind = 1 then 1 else if x.kind = 2 ∨ x.kind = 3 then -1 else 0 := rfl
        generalize wt x = t at *
        generalize x.kind = q at *
        have Hwt := hide hwt
        clear hwt
        by_cases q0 : q = 0
        · subst q0
          have ht : t = 1 := unhide Hwt
          go_wp2
          go_round
          case rel => exact ⟨k, by omega, by omega, by congr 1, by have := unhide Hws; congr 1; omega⟩
          case measure => simp [intOf]
        · by_cases q1 : q = 1
          · subst q1
            have ht : t = 1 := unhide Hwt
            go_wp2
            go_round
            case rel => exact ⟨k, by omega, by omega, by congr 1, by have := unhide Hws; congr 1; omega⟩
            case measure => simp [intOf]
          · by_cases q2 : q = 2
            · subst q2
              have ht : t = -1 := unhide Hwt
              go_wp2
              go_round
              case rel => exact ⟨k, by omega, by omega, by congr 1, by have := unhide Hws; congr 1; omega⟩
              case measure => simp [intOf]
            · by_cases q3 : q = 3
              · subst q3
                have ht : t = -1 := unhide Hwt
                go_wp2
                go_round
                case rel => exact ⟨k, by omega, by omega, by congr 1, by have := unhide Hws; congr 1; omega⟩
                case measure => simp [intOf]
              · have ht : t = 0 := by rw [unhide Hwt, if_neg (by omega), if_neg (by omega)]
                have b0 : (q == 0) = false := by simp [q0]
                have b1 : (q == 1) = false := by simp [q1]
                have b2 : (q == 2) = false := by simp [q2]
                have b3 : (q == 3) = false := by simp [q3]
                go_wp2
                go_round
                case rel => exact ⟨k, by omega, by omega, by congr 1, by have := unhide Hws; congr 1; omega⟩
                case measure => simp [intOf]
    · obtain rfl : k = lo := by omega
      rw [unhide H1]
      by_cases hk0 : 0 < k
      · have hk0' : 0 < (k : Int) := by omega
        go_wp2
        go_ret
        exact ⟨rfl, rfl⟩
      · have hk0' : ¬ 0 < (k : Int) := by omega
        go_wp2
        go_ret
        exact ⟨rfl, rfl⟩

end Go.Proofs.YtijejbdpagbmpaaDoor

namespace Go.Proofs.YtijejbdpagbmpaaDoor
open Go.RowKit

theorem ElsAt.pre {lo n : Nat} {w : World} {a : Option Addr} {len cap : Nat} {p q : List El} (h : ElsAt lo n w (.slice a len cap) (p ++ q)) : ElsAt lo n w (.slice a p.length cap) p := by
  obtain ⟨a', cap', e, hl, hc⟩ := h
  simp only [Value.slice.injEq] at e
  obtain ⟨rfl, -, rfl⟩ := e
  rw [List.length_append] at hl hc
  refine ⟨a, cap, rfl, ⟨by omega, hl.2⟩, fun hp => ?_⟩
  obtain ⟨b, off, rfl, h1, h2, h3⟩ := hc (by omega)
  exact ⟨b, off, rfl, h1, h2, fun i hi => by have := h3 i (by omega); rwa [List.getElem?_append_left hi] at this⟩

theorem ElsAt.mid {lo n : Nat} {w : World} {b off len cap cap' : Nat} {p q r : List El} (h : ElsAt lo n w (.slice (some ⟨b, off, none⟩) len cap) (p ++ q ++ r)) (hcap : q.length ≤ cap' ∧ cap' ≤ maxLen) : ElsAt lo n w (.slice (some ⟨b, off + p.length * 4, none⟩) q.length cap') q := by
  obtain ⟨a', cap'', e, hl, hc⟩ := h
  simp only [Value.slice.injEq] at e
  obtain ⟨rfl, -, rfl⟩ := e
  rw [List.length_append, List.length_append] at hl hc
  refine ⟨_, cap', rfl, hcap, fun hp => ?_⟩
  obtain ⟨b', off', e2, h1, h2, h3⟩ := hc (by omega)
  simp only [Option.some.injEq, Addr.mk.injEq, and_true] at e2
  obtain ⟨rfl, rfl⟩ := e2
  refine ⟨b, _, rfl, h1, h2, fun i hi => ?_⟩
  have := h3 (p.length + i) (by omega)
  rw [List.append_assoc, List.getElem?_append_right (by omega), show p.length + i - p.length = i by omega, List.getElem?_append_left hi] at this
  rwa [show off + p.length * 4 + i * 4 = off + (p.length + i) * 4 by omega]

theorem ElsAt.last {lo n : Nat} {w : World} {a : Option Addr} {len cap : Nat} {p : List El} {x : El} (h : ElsAt lo n w (.slice a len cap) (p ++ [x])) :
    len = p.length + 1 ∧ (len ≤ cap ∧ cap ≤ maxLen) ∧ ∃ b off, a = some ⟨b, off, none⟩ ∧ b < n ∧ ElAt lo n w b (off + p.length * 4) x := by
  obtain ⟨a', cap', e, hl, hc⟩ := h
  simp only [Value.slice.injEq] at e
  obtain ⟨rfl, e1, rfl⟩ := e
  rw [List.length_append] at e1 hl hc
  simp only [List.length_singleton] at e1 hl hc
  obtain ⟨b, off, rfl, h1, h2, h3⟩ := hc (by omega)
  have := h3 p.length (by omega)
  exact ⟨e1, ⟨by omega, hl.2⟩, b, off, rfl, h2, by simpa using this⟩

theorem l1start_bin (v : Value) (l r : List El) (cr : Int) (x : El) (z : Int) (w : World) (sr : SegM r cr) (hv : ElsAt 0 w.heap.size w v (l ++ r ++ [x])) (hlen : l.length + r.length + 1 ≤ 1048576) (hz : z = l.length + r.length) :
    Calls Tryd.prog 39 #[v, .int .i64 z] w fun e w' => e = .returned (.int .i64 (l.length : Int)) ∧ w' = w := by
  subst hz
  have pr := sr.ne
  have h := l1start_any v (l ++ r ++ [x]) l.length (l.length + r.length) w hv (by simp; omega) (by omega) (by simp) ?_ ?_
  · rwa [Int.natCast_add] at h
  · rw [show l.length + r.length = (l ++ r).length by simp, List.take_left' rfl, List.drop_left' rfl]
    exact sr.ws
  · intro k h1 h2
    rw [show l.length + r.length = (l ++ r).length by simp, List.take_left' rfl, List.drop_append, List.drop_eq_nil_of_le (by omega), List.nil_append]
    exact sr.tl _ (by omega) (by omega)

/-- The model counts the size of this list as c. -/
def SzS (l : List El) (c : Int) : Prop := ∀ (v : Value) (w : World), ElsAt 0 w.heap.size w v l → l.length ≤ 1048576 → Calls Tryd.prog 52 #[v] w fun e w' => e = .returned (.int .i64 c) ∧ Below w.heap.size w w'

set_option maxHeartbeats 2000000 in
theorem l1size_bin (k : Int) (hk : k = 2 ∨ k = 3) (l r : List El) (cl cr : Int) (sl : SegM l cl) (sr : SegM r cr) (Hl : SzS l cl) (Hr : SzS r cr)
    (v : Value) (w : World) (hv : ElsAt 0 w.heap.size w v (l ++ r ++ [⟨k, [], 0, 0⟩])) (hlen : (l ++ r ++ [(⟨k, [], 0, 0⟩ : El)]).length ≤ 1048576) :
    Calls Tryd.prog 52 #[v] w fun e w' => e = .returned (.int .i64 (cap (cl + cr))) ∧ Below w.heap.size w w' := by
  have hv0 := hv
  obtain ⟨a, cp, rfl, -, -⟩ := id hv
  obtain ⟨hlen2, hcap, b, off, rfl, hbn, hel⟩ := hv.last
  rw [hlen2] at hv hv0 hcap ⊢
  simp only [List.length_append, List.length_singleton] at hv hv0 hlen hlen2 hel hcap ⊢
  unfold maxLen at hcap
  obtain ⟨i1, i2, i3, sv, c0, c1, c2, c3, hints⟩ := hel
  obtain ⟨sa, sc, rfl, -, -, -⟩ := id hints
  simp only at c0 c2 c3
  clear hlen2 i1 i2 i3 hints
  have e1 : (((l.length + r.length + 1 : Nat) : Int) - 1) = ((l.length + r.length : Nat) : Int) := by omega
  have bl := sl.bd
  have br := sr.bd
  have pl := sl.ne
  have pr := sr.ne
  have hvL : ElsAt 0 w.heap.size w (.slice (some ⟨b, off, none⟩) l.length cp) (l) := by rw [List.append_assoc] at hv0; exact hv0.pre
  have hvR := hv0.mid (cap' := cp - l.length) (by unfold maxLen; omega)
  have HvL := hide hvL
  have HvR := hide hvR
  have Hv0 := hide hv0
  clear hvL hvR hv hv0
  rcases hk with rfl | rfl
  all_goals
    go_enter Tryd.func52, Tryd.ntmps52
    go_wp2_with fail
    refine (l1start_bin _ l r cr _ _ _ sr (by exact (unhide Hv0).below (below1 w _) (Nat.le_refl _)) hlen rfl).mono ?_
    rintro e w1 ⟨rfl, rfl⟩
    go_wp2_with fail
    refine (Hl _ _ (by exact (unhide HvL).below (below1 w _) (Nat.le_refl _)) (by omega)).mono ?_
    rintro e w1 ⟨rfl, hb1⟩
    have hB1 : Below w.heap.size w w1 := (below1 w _).trans (hb1.mono (by rw [sz_alloc]; omega))
    clear hb1
    go_wp2_with fail
    refine (Hr _ _ (by exact (unhide HvR).below hB1 (Nat.le_refl _)) (by omega)).mono ?_
    rintro e w2 ⟨rfl, hb2⟩
    have hB2 : Below w.heap.size w w2 := hB1.trans (hb2.mono hB1.size)
    clear hb2
    by_cases hc5 : 500 < cl + cr
    · go_wp2
      go_ret
      exact ⟨ret_int (by unfold cap; rw [if_pos hc5]), hB2⟩
    · go_wp2
      go_ret
      exact ⟨ret_int (by unfold cap; rw [if_neg (by omega)]), hB2⟩

theorem cap_gt {n : Int} (h : 500 < n) : cap n = 501 := by unfold cap; rw [if_pos h]
theorem cap_le {n : Int} (h : ¬ 500 < n) : cap n = n := by unfold cap; rw [if_neg h]
theorem repSize_a {c mn : Int} (h : mn < 1) : repSize c mn (-1) = c + 1 := by unfold repSize; rw [if_pos rfl, if_pos h]; omega
theorem repSize_b {c mn : Int} (h : ¬ mn < 1) : repSize c mn (-1) = mn * c + 1 := by unfold repSize; rw [if_pos rfl, if_neg h]
theorem repSize_c {c mn : Int} : repSize c mn 0 = c := by unfold repSize; rw [if_neg (by omega), if_pos rfl]
theorem repSize_d {c mn mx : Int} (h1 : mx ≠ -1) (h2 : mx ≠ 0) : repSize c mn mx = mn * c + (mx - mn) * (c + 1) := by unfold repSize; rw [if_neg h1, if_neg h2]

set_option maxHeartbeats 2000000 in
theorem l1size_rep (mn mx : Int) (x : List El) (c : Int) (sx : SegM x c) (o2 : 0 ≤ mn) (o3 : mn ≤ 250) (o4 : mx = -1 ∨ (mn ≤ mx ∧ mx ≤ 250)) (Hx : SzS x c)
    (v : Value) (w : World) (hv : ElsAt 0 w.heap.size w v (x ++ [⟨4, [], mn, mx⟩])) (hlen : (x ++ [(⟨4, [], mn, mx⟩ : El)]).length ≤ 1048576) :
    Calls Tryd.prog 52 #[v] w fun e w' => e = .returned (.int .i64 (cap (repSize c mn mx))) ∧ Below w.heap.size w w' := by
  obtain ⟨a, cp, rfl, -, -⟩ := id hv
  obtain ⟨hlen2, hcap, b, off, rfl, hbn, hel⟩ := hv.last
  rw [hlen2] at hv hcap ⊢
  simp only [List.length_append, List.length_singleton] at hv hlen hlen2 hel hcap ⊢
  unfold maxLen at hcap
  obtain ⟨i1, i2, i3, sv, c0, c1, c2, c3, hints⟩ := hel
  obtain ⟨sa, sc, rfl, -, -, -⟩ := id hints
  simp only at c0 c2 c3
  clear hlen2 i1 i2 i3 hints
  have bx := sx.bd
  have px := sx.ne
  have HvX := hide hv.pre
  clear hv
  have m1 : mn * c ≤ 250 * 501 := Int.mul_le_mul o3 bx.2 bx.1 (by omega)
  have m0 : 0 ≤ mn * c := Int.mul_nonneg o2 bx.1
  rcases o4 with rfl | ⟨o4, o5⟩
  · by_cases hm1 : mn < 1
    · rw [repSize_a hm1]
      by_cases hc5 : 500 < c + 1
      · rw [cap_gt hc5]
        go_enter Tryd.func52, Tryd.ntmps52
        go_wp2_with fail
        refine (Hx _ _ (by exact (unhide HvX).below (below1 w _) (Nat.le_refl _)) (by omega)).mono ?_
        rintro e w1 ⟨rfl, hb1⟩
        obtain ⟨hc1, hf1⟩ := bcell hb1
        simp only [sz_alloc] at hc1 hf1
        have hB1 : Below w.heap.size w w1 := (below1 w _).trans (hb1.mono (by rw [sz_alloc]; omega))
        clear hb1
        go_wp2
        go_ret
        exact ⟨rfl, hB1⟩
      · rw [cap_le hc5]
        go_enter Tryd.func52, Tryd.ntmps52
        go_wp2_with fail
        refine (Hx _ _ (by exact (unhide HvX).below (below1 w _) (Nat.le_refl _)) (by omega)).mono ?_
        rintro e w1 ⟨rfl, hb1⟩
        obtain ⟨hc1, hf1⟩ := bcell hb1
        simp only [sz_alloc] at hc1 hf1
        have hB1 : Below w.heap.size w w1 := (below1 w _).trans (hb1.mono (by rw [sz_alloc]; omega))
        clear hb1
        go_wp2
        go_ret
        exact ⟨rfl, hB1⟩
    · rw [repSize_b hm1]
      by_cases hc5 : 500 < mn * c + 1
      · rw [cap_gt hc5]
        go_enter Tryd.func52, Tryd.ntmps52
        go_wp2_with fail
        refine (Hx _ _ (by exact (unhide HvX).below (below1 w _) (Nat.le_refl _)) (by omega)).mono ?_
        rintro e w1 ⟨rfl, hb1⟩
        obtain ⟨hc1, hf1⟩ := bcell hb1
        simp only [sz_alloc] at hc1 hf1
        have hB1 : Below w.heap.size w w1 := (below1 w _).trans (hb1.mono (by rw [sz_alloc]; omega))
        clear hb1
        go_wp2
        go_ret
        exact ⟨rfl, hB1⟩
      · rw [cap_le hc5]
        go_enter Tryd.func52, Tryd.ntmps52
        go_wp2_with fail
        refine (Hx _ _ (by exact (unhide HvX).below (below1 w _) (Nat.le_refl _)) (by omega)).mono ?_
        rintro e w1 ⟨rfl, hb1⟩
        obtain ⟨hc1, hf1⟩ := bcell hb1
        simp only [sz_alloc] at hc1 hf1
        have hB1 : Below w.heap.size w w1 := (below1 w _).trans (hb1.mono (by rw [sz_alloc]; omega))
        clear hb1
        go_wp2
        go_ret
        exact ⟨rfl, hB1⟩
  · by_cases hx0 : mx = 0
    · subst hx0
      rw [repSize_c]
      by_cases hc5 : 500 < c
      · rw [cap_gt hc5]
        go_enter Tryd.func52, Tryd.ntmps52
        go_wp2_with fail
        refine (Hx _ _ (by exact (unhide HvX).below (below1 w _) (Nat.le_refl _)) (by omega)).mono ?_
        rintro e w1 ⟨rfl, hb1⟩
        obtain ⟨hc1, hf1⟩ := bcell hb1
        simp only [sz_alloc] at hc1 hf1
        have hB1 : Below w.heap.size w w1 := (below1 w _).trans (hb1.mono (by rw [sz_alloc]; omega))
        clear hb1
        go_wp2
        go_ret
        exact ⟨rfl, hB1⟩
      · rw [cap_le hc5]
        go_enter Tryd.func52, Tryd.ntmps52
        go_wp2_with fail
        refine (Hx _ _ (by exact (unhide HvX).below (below1 w _) (Nat.le_refl _)) (by omega)).mono ?_
        rintro e w1 ⟨rfl, hb1⟩
        obtain ⟨hc1, hf1⟩ := bcell hb1
        simp only [sz_alloc] at hc1 hf1
        have hB1 : Below w.heap.size w w1 := (below1 w _).trans (hb1.mono (by rw [sz_alloc]; omega))
        clear hb1
        go_wp2
        go_ret
        exact ⟨rfl, hB1⟩
    · rw [repSize_d (by omega) hx0]
      have hx1 : (mx == -1) = false := by simp; omega
      have hx2 : (mx == 0) = false := by simp [hx0]
      have m2 : (mx - mn) * (c + 1) ≤ 250 * 502 := Int.mul_le_mul (by omega) (by omega) (by omega) (by omega)
      have m3 : 0 ≤ (mx - mn) * (c + 1) := Int.mul_nonneg (by omega) (by omega)
      by_cases hc5 : 500 < mn * c + (mx - mn) * (c + 1)
      · rw [cap_gt hc5]
        go_enter Tryd.func52, Tryd.ntmps52
        go_wp2_with fail
        refine (Hx _ _ (by exact (unhide HvX).below (below1 w _) (Nat.le_refl _)) (by omega)).mono ?_
        rintro e w1 ⟨rfl, hb1⟩
        obtain ⟨hc1, hf1⟩ := bcell hb1
        simp only [sz_alloc] at hc1 hf1
        have hB1 : Below w.heap.size w w1 := (below1 w _).trans (hb1.mono (by rw [sz_alloc]; omega))
        clear hb1
        go_wp2
        go_ret
        exact ⟨rfl, hB1⟩
      · rw [cap_le hc5]
        go_enter Tryd.func52, Tryd.ntmps52
        go_wp2_with fail
        refine (Hx _ _ (by exact (unhide HvX).below (below1 w _) (Nat.le_refl _)) (by omega)).mono ?_
        rintro e w1 ⟨rfl, hb1⟩
        obtain ⟨hc1, hf1⟩ := bcell hb1
        simp only [sz_alloc] at hc1 hf1
        have hB1 : Below w.heap.size w w1 := (below1 w _).trans (hb1.mono (by rw [sz_alloc]; omega))
        clear hb1
        go_wp2
        go_ret
        exact ⟨rfl, hB1⟩

set_option maxHeartbeats 2000000 in
theorem l1size_leaf (k : Int) (hk : k = 0 ∨ k = 1) (st : List Int) (v : Value) (w : World) (hv : ElsAt 0 w.heap.size w v [⟨k, st, 0, 0⟩]) :
    Calls Tryd.prog 52 #[v] w fun e w' => e = .returned (.int .i64 1) ∧ Below w.heap.size w w' := by
  obtain ⟨a, cp, rfl, -, hc⟩ := hv
  obtain ⟨b, off, rfl, -, hbn, hel⟩ := hc (by simp)
  obtain ⟨i1, i2, i3, sv, c0, c1, c2, c3, hints⟩ := hel 0 (by simp)
  obtain ⟨sa, sc, rfl, -, -, -⟩ := id hints
  simp only [List.getElem?_cons_zero, Option.getD_some, Nat.zero_mul, Nat.add_zero] at c0 c1 c2 c3
  clear hel hc hints i1 i2 i3
  rcases hk with rfl | rfl
  all_goals
    go_enter Tryd.func52, Tryd.ntmps52
    go_wp2
    go_ret
    exact ⟨rfl, below1 w _⟩

theorem PushR.szs {st st' : List (List El × Int)} {x : El} (h : PushR st x st') (ok : ElOk x) (hs : ∀ s ∈ st, SegM s.1 s.2 ∧ SzS s.1 s.2) : ∀ s ∈ st', SegM s.1 s.2 ∧ SzS s.1 s.2 := by
  have hseg := h.seg ok (fun s hs' => (hs s hs').1)
  refine fun s hm => ⟨hseg s hm, ?_⟩
  obtain ⟨k, xs, mn, mx⟩ := x
  rcases h with ⟨hk, rfl⟩ | ⟨hk, b, l, r, rfl, rfl⟩ | ⟨hk, b, o, rfl, rfl⟩
  · simp only [List.mem_append, List.mem_singleton] at hm; rcases hm with hm | rfl
    · exact (hs s hm).2
    · intro v w hv _
      rcases ok with ⟨q1, q2, q3, q4⟩ | ⟨q1, q2, q3, q4⟩ | ⟨q1, q2, q3, q4, q5⟩ <;> simp only at hk q1 q2 q3 q4
      · subst q3 q4; exact l1size_leaf k hk xs v w hv
      · subst q3 q4; exact l1size_leaf k hk xs v w hv
      · omega
  · simp only [List.mem_append, List.mem_singleton] at hm; rcases hm with hm | rfl
    · exact (hs s (by simp [hm])).2
    · rcases ok with ⟨q1, q2, q3, q4⟩ | ⟨q1, q2, q3, q4⟩ | ⟨q1, q2, q3, q4, q5⟩ <;> simp only at hk q1 q2 q3 q4
      · omega
      · subst q3 q4
        obtain rfl := List.eq_nil_of_length_eq_zero q2
        exact fun v w hv hlen => l1size_bin k hk l.1 r.1 l.2 r.2 (hs l (by simp)).1 (hs r (by simp)).1 (hs l (by simp)).2 (hs r (by simp)).2 v w hv hlen
      · omega
  · simp only [List.mem_append, List.mem_singleton] at hm; rcases hm with hm | rfl
    · exact (hs s (by simp [hm])).2
    · rcases ok with ⟨q1, q2, q3, q4⟩ | ⟨q1, q2, q3, q4⟩ | ⟨q1, q2, q3, q4, q5⟩ <;> simp only at hk q1 q2 q3 q4
      · omega
      · omega
      · subst hk
        obtain rfl := List.eq_nil_of_length_eq_zero q2
        exact fun v w hv hlen => l1size_rep mn mx o.1 o.2 (hs o (by simp)).1 q3 q4 q5 (hs o (by simp)).2 v w hv hlen

/-- A list of good elements in the right shape is a tree, and the model counts its size. -/
theorem exists_seg {xs : List El} (ok : ∀ i : Nat, i < xs.length → ElOk (xs[i]?.getD dE)) (sh : Shape xs) : ∃ c, SegM xs c ∧ SzS xs c := by
  have key : ∀ k : Nat, k ≤ xs.length → ∃ st, flats st = xs.take k ∧ ∀ s ∈ st, SegM s.1 s.2 ∧ SzS s.1 s.2 := by
    intro k
    induction k with
    | zero => intro _; exact ⟨[], by simp [flats], by simp⟩
    | succ k ih =>
      intro hk
      obtain ⟨st, hst, hok⟩ := ih (by omega)
      have hx := ok k (by omega)
      have h1 : wsum (xs.take (k + 1)) + wsum (xs.drop (k + 1)) = 1 := by rw [← wsum_append, List.take_append_drop]; exact sh.1
      have h2 := sh.2 (k + 1) (by omega) hk
      have h3 := wsum_flats (fun s hs => (hok s hs).1.ws)
      rw [hst] at h3
      rw [take_next (by omega), wsum_append, h3] at h1
      simp only [wsum] at h1
      obtain ⟨st', hp⟩ := PushR.ex (st := st) hx (by omega)
      exact ⟨st', by rw [hp.flats, hst, take_next (by omega)], hp.szs hx hok⟩
  obtain ⟨st, hst, hok⟩ := key xs.length (Nat.le_refl _)
  rw [List.take_length] at hst
  have h3 := wsum_flats (fun s hs => (hok s hs).1.ws)
  rw [hst, sh.1] at h3
  obtain ⟨t, rfl⟩ := List.length_eq_one_iff.1 (show st.length = 1 by omega)
  obtain ⟨a, b⟩ := hok t (by simp)
  rw [flats_one] at hst
  rw [hst] at a b
  exact ⟨t.2, a, b⟩

end Go.Proofs.YtijejbdpagbmpaaDoor

namespace Go.Proofs.YtijejbdpagbmpaaDoor
open Go.RowKit

theorem w64q {n : Int} (h0 : 0 ≤ n) (h1 : n ≤ 1000000) : wrap64 n = n := by unfold wrap64; omega
theorem cap_self {c : Int} (h : c ≤ 501) : cap c = c := by unfold cap; split <;> omega

set_option maxHeartbeats 400000 in
set_option maxRecDepth 100000 in
theorem repSize_any (c mn mx : Int) (u : Value) (w : World) (hu : SizeAs u c) (a0 : 0 ≤ c) (a1 : c ≤ 501) (o2 : 0 ≤ mn) (o3 : mn ≤ 250) (o4 : mx = -1 ∨ (mn ≤ mx ∧ mx ≤ 250)) :
    Calls Tryd.prog 94 #[.agg #[u, .int .i64 mn, .int .i64 mx]] w fun e w' => e = .returned (.int .i64 (cap (repSize c mn mx))) ∧ Below w.heap.size w w' := by
  obtain ⟨T, x, F, rfl, hm, hcf, hF⟩ := hu
  have HF := hide hF
  clear hF
  have m1 : mn * c ≤ 250 * 501 := Int.mul_le_mul o3 a1 a0 (by omega)
  have m0 : 0 ≤ mn * c := Int.mul_nonneg o2 a0
  have x1 : wrap64 (mn * c) = mn * c := w64q (by omega) (by omega)
  have x2 : wrap64 (mn * c + 1) = mn * c + 1 := w64q (by omega) (by omega)
  rcases o4 with rfl | ⟨o4, o5⟩
  · by_cases hm1 : mn < 1
    · rw [repSize_a hm1]
      have hmx : max (1 : Int) mn = 1 := by omega
      go_enter Tryd.func94, Tryd.ntmps94
      go_wp2_with ((first | ((with_reducible refine (unhide HF _).mono ?_); rintro e w1 ⟨rfl, hb1⟩; have hc1 := (bcell hb1).1; simp only [sz_alloc] at hc1) | (go_at_call 95; refine (cappedSize_any _ _).mono ?_; rintro e w3 ⟨rfl, hw3⟩; subst hw3)))
      go_ret
      exact ⟨rfl, (below1 w _).trans (hb1.mono (by rw [sz_alloc]; omega))⟩
    · rw [repSize_b hm1]
      by_cases hm2 : 1 < mn
      · have hm3 : ¬ mn ≤ 1 := by omega
        have hmx : max (1 : Int) mn = mn := by omega
        go_enter Tryd.func94, Tryd.ntmps94
        go_wp2_with ((first | ((with_reducible refine (unhide HF _).mono ?_); rintro e w1 ⟨rfl, hb1⟩; have hc1 := (bcell hb1).1; simp only [sz_alloc] at hc1) | (go_at_call 95; refine (cappedSize_any _ _).mono ?_; rintro e w3 ⟨rfl, hw3⟩; subst hw3)))
        go_ret
        exact ⟨rfl, (below1 w _).trans (hb1.mono (by rw [sz_alloc]; omega))⟩
      · obtain rfl : mn = 1 := by omega
        rw [Int.one_mul]
        clear m1 m0 x1 x2
        go_enter Tryd.func94, Tryd.ntmps94
        go_wp2_with ((first | ((with_reducible refine (unhide HF _).mono ?_); rintro e w1 ⟨rfl, hb1⟩; have hc1 := (bcell hb1).1; simp only [sz_alloc] at hc1) | (go_at_call 95; refine (cappedSize_any _ _).mono ?_; rintro e w3 ⟨rfl, hw3⟩; subst hw3)))
        go_ret
        exact ⟨rfl, (below1 w _).trans (hb1.mono (by rw [sz_alloc]; omega))⟩
  · by_cases hx0 : mx = 0
    · subst hx0
      rw [repSize_c, cap_self a1]
      go_enter Tryd.func94, Tryd.ntmps94
      go_wp2_with ((first | ((with_reducible refine (unhide HF _).mono ?_); rintro e w1 ⟨rfl, hb1⟩; have hc1 := (bcell hb1).1; simp only [sz_alloc] at hc1) | (go_at_call 95; refine (cappedSize_any _ _).mono ?_; rintro e w3 ⟨rfl, hw3⟩; subst hw3)))
      go_ret
      exact ⟨rfl, (below1 w _).trans (hb1.mono (by rw [sz_alloc]; omega))⟩
    · rw [repSize_d (by omega) hx0]
      have hx1 : (mx == -1) = false := by simp; omega
      have hx2 : (mx == 0) = false := by simp [hx0]
      have m2 : (mx - mn) * (c + 1) ≤ 250 * 502 := Int.mul_le_mul (by omega) (by omega) (by omega) (by omega)
      have m3 : 0 ≤ (mx - mn) * (c + 1) := Int.mul_nonneg (by omega) (by omega)
      have x3 : wrap64 ((mx - mn) * (c + 1)) = (mx - mn) * (c + 1) := w64q (by omega) (by omega)
      have x4 : wrap64 (mn * c + (mx - mn) * (c + 1)) = mn * c + (mx - mn) * (c + 1) := w64q (by omega) (by omega)
      go_enter Tryd.func94, Tryd.ntmps94
      go_wp2_with ((first | ((with_reducible refine (unhide HF _).mono ?_); rintro e w1 ⟨rfl, hb1⟩; have hc1 := (bcell hb1).1; simp only [sz_alloc] at hc1) | (go_at_call 95; refine (cappedSize_any _ _).mono ?_; rintro e w3 ⟨rfl, hw3⟩; subst hw3)))
      go_ret
      exact ⟨rfl, (below1 w _).trans (hb1.mono (by rw [sz_alloc]; omega))⟩

set_option maxHeartbeats 400000 in
theorem eSize_any (w : World) : Calls Tryd.prog 101 #[.agg #[]] w fun e w' => e = .returned (.int .i64 1) ∧ Below w.heap.size w w' := by
  go_enter Tryd.func101, Tryd.ntmps101
  go_wp2
  go_ret
  exact ⟨rfl, below1 w _⟩

set_option maxHeartbeats 400000 in
theorem sSize_any (a b c d : Int) (w : World) : Calls Tryd.prog 92 #[.agg #[.int .u64 a, .int .u64 b, .int .u64 c, .int .u64 d]] w fun e w' => e = .returned (.int .i64 1) ∧ Below w.heap.size w w' := by
  go_enter Tryd.func92, Tryd.ntmps92
  go_wp2
  go_ret
  exact ⟨rfl, below1 w _⟩

theorem size_e (w : World) : Sem.run Tryd.prog (method 239 115 (.agg #[]) "loop.example/s0027/impl.size") w = .ok (101, .agg #[]) w := by kernel_rfl
theorem call_e (w : World) : Sem.run Tryd.prog (callFunc 101 #[.agg #[]]) w = .ok (.enter 101 #[.agg #[]]) w := by kernel_rfl
theorem size_s (x : Value) (w : World) : Sem.run Tryd.prog (method 239 87 x "loop.example/s0027/impl.size") w = .ok (92, x) w := by kernel_rfl
theorem call_s (x : Value) (w : World) : Sem.run Tryd.prog (callFunc 92 #[x]) w = .ok (.enter 92 #[x]) w := by kernel_rfl
theorem size_cat (x : Value) (w : World) : Sem.run Tryd.prog (method 239 91 x "loop.example/s0027/impl.size") w = .ok (97, x) w := by kernel_rfl
theorem call_cat (x : Value) (w : World) : Sem.run Tryd.prog (callFunc 97 #[x]) w = .ok (.enter 97 #[x]) w := by kernel_rfl
theorem size_alt (x : Value) (w : World) : Sem.run Tryd.prog (method 239 105 x "loop.example/s0027/impl.size") w = .ok (99, x) w := by kernel_rfl
theorem call_alt (x : Value) (w : World) : Sem.run Tryd.prog (callFunc 99 #[x]) w = .ok (.enter 99 #[x]) w := by kernel_rfl
theorem size_rep (x : Value) (w : World) : Sem.run Tryd.prog (method 239 89 x "loop.example/s0027/impl.size") w = .ok (94, x) w := by kernel_rfl
theorem call_rep (x : Value) (w : World) : Sem.run Tryd.prog (callFunc 94 #[x]) w = .ok (.enter 94 #[x]) w := by kernel_rfl

/-- u is an interface value whose method size answers c, a size within the bounds. -/
def SzV (u : Value) (c : Int) : Prop := SizeAs u c ∧ 0 ≤ c ∧ c ≤ 501

theorem SzV.iface {u : Value} {c : Int} (h : SzV u c) : ∃ T x, u = .iface T x := by
  obtain ⟨⟨T, x, F, rfl, -⟩, -⟩ := h
  exact ⟨T, x, rfl⟩
theorem SzV.e : SzV (.iface 115 (.agg #[])) 1 := ⟨⟨115, _, 101, rfl, size_e, call_e, eSize_any⟩, by omega⟩
theorem SzV.s (a b c d : Int) : SzV (.iface 87 (.agg #[.int .u64 a, .int .u64 b, .int .u64 c, .int .u64 d])) 1 := ⟨⟨87, _, 92, rfl, size_s _, call_s _, sSize_any a b c d⟩, by omega⟩
theorem SzV.cat {u v : Value} {a b : Int} (hu : SzV u a) (hv : SzV v b) : SzV (.iface 91 (.agg #[u, v])) (cap (a + b)) :=
  ⟨⟨91, _, 97, rfl, size_cat _, call_cat _, fun w => catSize_any _ _ u v w hu.1 hv.1 hu.2.1 hu.2.2 hv.2.1 hv.2.2⟩, cap_bd (by have := hu.2; have := hv.2; omega)⟩
theorem SzV.alt {u v : Value} {a b : Int} (hu : SzV u a) (hv : SzV v b) : SzV (.iface 105 (.agg #[u, v])) (cap (a + b)) :=
  ⟨⟨105, _, 99, rfl, size_alt _, call_alt _, fun w => altSize_any _ _ u v w hu.1 hv.1 hu.2.1 hu.2.2 hv.2.1 hv.2.2⟩, cap_bd (by have := hu.2; have := hv.2; omega)⟩
theorem SzV.rep {u : Value} {c mn mx : Int} (hu : SzV u c) (o2 : 0 ≤ mn) (o3 : mn ≤ 250) (o4 : mx = -1 ∨ (mn ≤ mx ∧ mx ≤ 250)) : SzV (.iface 89 (.agg #[u, .int .i64 mn, .int .i64 mx])) (cap (repSize c mn mx)) := by
  refine ⟨⟨89, _, 94, rfl, size_rep _, call_rep _, fun w => repSize_any _ mn mx u w hu.1 hu.2.1 hu.2.2 o2 o3 o4⟩, cap_bd ?_⟩
  have hc := hu.2
  unfold repSize
  split
  · have : 0 ≤ (if mn < 1 then 1 else mn) * c := Int.mul_nonneg (by split <;> omega) hc.1
    omega
  · split
    · exact hc.1
    · have h1 : 0 ≤ mn * c := Int.mul_nonneg o2 hc.1
      have h2 : 0 ≤ (mx - mn) * (c + 1) := Int.mul_nonneg (by omega) (by omega)
      omega

end Go.Proofs.YtijejbdpagbmpaaDoor

namespace Go.Proofs.YtijejbdpagbmpaaDoor
open Go.RowKit

theorem Tryd.info52 : (Tryd.prog.info? 52).map (fun i => (i.zero, i.size, i.bytes)) = some (some .nilIface, 1, 16) := by kernel_rfl

/-- The values of a stack of trees. -/
def NVals : List (List El × Int) → List Value → Prop
  | [], [] => True
  | t :: ts, u :: us => SzV u t.2 ∧ NVals ts us
  | _, _ => False

theorem NVals.len : ∀ {ts : List (List El × Int)} {us : List Value}, NVals ts us → ts.length = us.length
  | [], [], _ => rfl
  | _ :: _, _ :: _, h => by simp [NVals.len h.2]
  | [], _ :: _, h => h.elim
  | _ :: _, [], h => h.elim

theorem NVals.append : ∀ {a b : List (List El × Int)} {us vs : List Value}, NVals a us → NVals b vs → NVals (a ++ b) (us ++ vs)
  | [], _, [], _, _, k => k
  | _ :: _, _, _ :: _, _, h, k => ⟨h.1, NVals.append h.2 k⟩
  | [], _, _ :: _, _, h, _ => h.elim
  | _ :: _, _, [], _, h, _ => h.elim

theorem NVals.split : ∀ {a b : List (List El × Int)} {us : List Value}, NVals (a ++ b) us → ∃ u v, us = u ++ v ∧ NVals a u ∧ NVals b v
  | [], _, us, h => ⟨[], us, rfl, trivial, h⟩
  | _ :: _, _, y :: _, h => by
    obtain ⟨u, v, rfl, hu, hv⟩ := NVals.split h.2
    exact ⟨y :: u, v, rfl, ⟨h.1, hu⟩, hv⟩
  | _ :: _, _, [], h => h.elim

theorem NVals.one {t : List El × Int} {us : List Value} (h : NVals [t] us) : ∃ u, us = [u] ∧ SzV u t.2 := by
  match us, h with
  | [u], h => exact ⟨u, rfl, h.1⟩
theorem NVals.two {s t : List El × Int} {us : List Value} (h : NVals [s, t] us) : ∃ u v, us = [u, v] ∧ SzV u s.2 ∧ SzV v t.2 := by
  match us, h with
  | [u, v], h => exact ⟨u, v, rfl, h.1, h.2.1⟩

/-- What pushElement leaves. -/
def Pushed (base : Nat) (w w' : World) (e : Ending) (st : List (List El × Int)) (x : El) : Prop :=
  ∃ v' vals' st', e = .returned v' ∧ w'.ownsRow base 52 1 v' vals'.length vals' ∧ PushR st x st' ∧ NVals st' vals' ∧ Below base w w'

theorem oc (k c : Int) (h : cnt k = c) (w : World) : Calls Tryd.prog 59 #[.int .i64 k] w fun e w' => e = .returned (.int .i64 c) ∧ w' = w := h ▸ operandCount_any k w

theorem cell_one {W : World} {N : Nat} {u : Value} (h : W.cell? ⟨N, 0, none⟩ = some u) : ∀ (j : Nat) (y : Value), [u][j]? = some y → W.cell? ((⟨N, 0, none⟩ : Addr).add j) = some y := by
  intro j y hj
  match j, hj with
  | 0, hj => simp at hj; subst hj; exact h

theorem pushed_mk {base : Nat} {w W w' : World} {v' v0 : Value} {n : Nat} {xs : List Value} {u : Value} {st st' : List (List El × Int)} {x : El} (hW : Below base w W) (hB : base ≤ W.heap.size) (h0 : W.ownsRow base 52 1 v0 n xs)
    (hg : W.grownBy w' v0.ownBlock) (h1 : w'.ownsRow base 52 1 v' (n + 1) (xs ++ [u])) (hp : PushR st x st') (hn : NVals st' (xs ++ [u])) : Pushed base w w' (.returned v') st x := by
  have hl := h1.1
  rw [Nat.mul_one] at hl
  refine ⟨v', xs ++ [u], st', rfl, by rw [hl]; exact h1, hp, hn, hW.grown hg hB (fun k hk => ?_)⟩
  exact (h0.lt k hk).1

set_option maxHeartbeats 1000000 in
set_option maxRecDepth 100000 in
theorem push_e_nil (base : Nat) (w : World) (hown : w.ownsRow base 52 1 (.slice none 0 0) 0 []) (hbase : base ≤ w.heap.size) (a : Option Addr) (cp : Nat) :
    Calls Tryd.prog 60 #[.slice none 0 0, .agg #[.int .i64 0, .slice a 0 cp, .int .i64 0, .int .i64 0]] w fun e w' => Pushed base w w' e [] ⟨0, [], 0, 0⟩ := by
  obtain ⟨i0, hi, hz0, hz1, hz2⟩ := info_parts Tryd.info52
  have Hown := hide hown
  clear hown
  go_enter Tryd.func60, Tryd.ntmps60
  go_wp2_with (first | (go_at_call 59; refine (oc _ 0 rfl _).mono ?_; rintro e w1 ⟨rfl, hw3⟩; subst hw3) | (at_builtin; refine wpList_append_own _ rfl _ _ 101 rfl base 52 i0 .nilIface 1 16 Tryd.underlying101 hi hz0 hz1 hz2 rfl (by decide) _ _ _ rfl (((unhide Hown).alloc _).alloc _) ⟨w.heap.size + 1, 0, none⟩ 1 1 [.iface 115 (.agg #[])] rfl rfl ?c1 ?c2 ?c3 ?c4 ?c5 ?_))
  case c1 => exact cell_one (by simp)
  case c2 => intro u hu; simp at hu; subst hu; rfl
  case c3 => unfold maxLen; simp
  case c4 => simp
  case c5 => simp only [sz_alloc]; omega
  intro v' w' h1 hg _
  have hfin := hide (pushed_mk ((below2 w _ _).mono hbase) (by simp only [sz_alloc]; omega) (((unhide Hown).alloc _).alloc _) hg h1 (st := []) (x := ⟨0, [], 0, 0⟩) (Or.inl ⟨Or.inl rfl, rfl⟩) ⟨SzV.e, trivial⟩)
  clear hg h1
  go_wp2
  go_ret
  exact unhide hfin

set_option maxHeartbeats 1000000 in
set_option maxRecDepth 100000 in
theorem push_e (base : Nat) (g cap : Nat) (vals : List Value) (st : List (List El × Int)) (w : World) (hown : w.ownsRow base 52 1 (.slice (some ⟨g, 0, none⟩) vals.length cap) vals.length vals) (hst : NVals st vals) (hbase : base ≤ w.heap.size) (hlen : vals.length ≤ 3000) (hnc : vals.length ≤ cap) (a : Option Addr) (cp : Nat) :
    Calls Tryd.prog 60 #[.slice (some ⟨g, 0, none⟩) vals.length cap, .agg #[.int .i64 0, .slice a 0 cp, .int .i64 0, .int .i64 0]] w fun e w' => Pushed base w w' e st ⟨0, [], 0, 0⟩ := by
  obtain ⟨i0, hi, hz0, hz1, hz2⟩ := info_parts Tryd.info52
  have Hown := hide hown
  clear hown
  have hnc' : (vals.length : Int) ≤ (cap : Int) := by omega
  go_enter Tryd.func60, Tryd.ntmps60
  go_wp2_with (first | (go_at_call 59; refine (oc _ 0 rfl _).mono ?_; rintro e w1 ⟨rfl, hw3⟩; subst hw3) | (at_builtin; refine wpList_append_own _ rfl _ _ 101 rfl base 52 i0 .nilIface 1 16 Tryd.underlying101 hi hz0 hz1 hz2 rfl (by decide) _ _ _ rfl (((unhide Hown).alloc _).alloc _) ⟨w.heap.size + 1, 0, none⟩ 1 1 [.iface 115 (.agg #[])] rfl rfl ?_ ?_ ?_ ?_ ?_ ?_))
  · exact cell_one (by simp)
  · intro u hu; simp at hu; subst hu; rfl
  · unfold maxLen; omega
  · omega
  · simp only [sz_alloc]; omega
  all_goals
    intro v' w' h1 hg _
    have hfin := hide (pushed_mk (v0 := .slice (some ⟨g, 0, none⟩) vals.length cap) (x := ⟨0, [], 0, 0⟩) ((below2 w _ _).mono hbase) (by simp only [sz_alloc]; omega) (((unhide Hown).alloc _).alloc _) hg h1 (Or.inl ⟨Or.inl rfl, rfl⟩) (hst.append ⟨SzV.e, trivial⟩))
    clear hg h1
    go_wp2
    go_ret
    exact unhide hfin

theorem grown_of_below {m : Nat} {w w' : World} (h : Below m w w') (hm : w.heap.size ≤ m) : w.grownBy w' none := ⟨h.os, h.tape, h.output, h.size, fun k hk _ => h.block k (by omega)⟩

theorem own_below {base n m : Nat} {w w' : World} {v : Value} {xs : List Value} (h : w.ownsRow base 52 1 v n xs) (hb : Below m w w') (hm : w.heap.size ≤ m) : w'.ownsRow base 52 1 v n xs :=
  h.kept (grown_of_below hb hm) (by cases v.ownBlock <;> simp)

set_option maxHeartbeats 1000000 in
set_option maxRecDepth 100000 in
theorem push_s_nil (base : Nat) (sv : Value) (xs : List Int) (w : World) (hown : w.ownsRow base 52 1 (.slice none 0 0) 0 []) (hbase : base ≤ w.heap.size) (hv : IntsAt 0 w.heap.size w sv xs) (hcn : Canon xs) :
    Calls Tryd.prog 60 #[.slice none 0 0, .agg #[.int .i64 1, sv, .int .i64 0, .int .i64 0]] w fun e w' => Pushed base w w' e [] ⟨1, xs, 0, 0⟩ := by
  obtain ⟨i0, hi, hz0, hz1, hz2⟩ := info_parts Tryd.info52
  obtain ⟨a, cp, rfl, -, -, -⟩ := id hv
  have Hown := hide hown
  have Hv := hide hv
  clear hown hv
  go_enter Tryd.func60, Tryd.ntmps60
  go_wp2_with (first | (go_at_call 59; refine (oc _ 0 rfl _).mono ?_; rintro e w1 ⟨rfl, hw3⟩; subst hw3))
  refine (setOf_any _ xs _ (by exact (unhide Hv).below (below1 w _) (Nat.le_refl _)) hcn).mono ?_
  rintro e w1 ⟨⟨a', b', c', d', rfl⟩, hb1⟩
  have hB : Below w.heap.size w w1 := (below1 w _).trans (hb1.mono (by rw [sz_alloc]; omega))
  have Hown1 := hide (own_below (unhide Hown) hB (Nat.le_refl _))
  have hsz := hB.size
  clear hb1
  go_wp2_with (at_builtin; refine wpList_append_own _ rfl _ _ 101 rfl base 52 i0 .nilIface 1 16 Tryd.underlying101 hi hz0 hz1 hz2 rfl (by decide) _ _ _ rfl ((unhide Hown1).alloc _) ⟨w1.heap.size, 0, none⟩ 1 1 [.iface 87 (.agg #[.int .u64 a', .int .u64 b', .int .u64 c', .int .u64 d'])] rfl rfl ?_ ?_ ?_ ?_ ?_ ?_)
  · exact cell_one (by simp)
  · intro u hu; simp at hu; subst hu; rfl
  · unfold maxLen; simp
  · simp
  · simp only [sz_alloc]; omega
  all_goals
    intro v' w' h1 hg _
    have hfin := hide (pushed_mk (v0 := .slice none 0 0) (st := []) (x := ⟨1, xs, 0, 0⟩) (((hB.mono hbase)).alloc (by omega) _) (by simp only [sz_alloc]; omega) ((unhide Hown1).alloc _) hg h1 (Or.inl ⟨Or.inr rfl, rfl⟩) ⟨SzV.s a' b' c' d', trivial⟩)
    clear hg h1
    go_wp2
    go_ret
    exact unhide hfin

set_option maxHeartbeats 1000000 in
set_option maxRecDepth 100000 in
theorem push_s (base : Nat) (g cap : Nat) (vals : List Value) (st : List (List El × Int)) (sv : Value) (xs : List Int) (w : World) (hown : w.ownsRow base 52 1 (.slice (some ⟨g, 0, none⟩) vals.length cap) vals.length vals) (hst : NVals st vals) (hbase : base ≤ w.heap.size) (hlen : vals.length ≤ 3000) (hnc : vals.length ≤ cap) (hcm : cap ≤ maxLen) (hv : IntsAt 0 w.heap.size w sv xs) (hcn : Canon xs) :
    Calls Tryd.prog 60 #[.slice (some ⟨g, 0, none⟩) vals.length cap, .agg #[.int .i64 1, sv, .int .i64 0, .int .i64 0]] w fun e w' => Pushed base w w' e st ⟨1, xs, 0, 0⟩ := by
  obtain ⟨i0, hi, hz0, hz1, hz2⟩ := info_parts Tryd.info52
  obtain ⟨a, cp, rfl, -, -, -⟩ := id hv
  have Hown := hide hown
  have Hv := hide hv
  clear hown hv
  unfold maxLen at hcm
  rcases Nat.lt_or_eq_of_le hnc with hlt | rfl
  all_goals
    go_enter Tryd.func60, Tryd.ntmps60
    go_wp2_with (first | (go_at_call 59; refine (oc _ 0 rfl _).mono ?_; rintro e w1 ⟨rfl, hw3⟩; subst hw3))
    refine (setOf_any _ xs _ (by exact (unhide Hv).below (below1 w _) (Nat.le_refl _)) hcn).mono ?_
    rintro e w1 ⟨⟨a', b', c', d', rfl⟩, hb1⟩
    have hB : Below w.heap.size w w1 := (below1 w _).trans (hb1.mono (by rw [sz_alloc]; omega))
    have Hown1 := hide (own_below (unhide Hown) hB (Nat.le_refl _))
    have hsz := hB.size
    clear hb1
    go_wp2_with (at_builtin; refine wpList_append_own _ rfl _ _ 101 rfl base 52 i0 .nilIface 1 16 Tryd.underlying101 hi hz0 hz1 hz2 rfl (by decide) _ _ _ rfl ((unhide Hown1).alloc _) ⟨w1.heap.size, 0, none⟩ 1 1 [.iface 87 (.agg #[.int .u64 a', .int .u64 b', .int .u64 c', .int .u64 d'])] rfl rfl ?_ ?_ ?_ ?_ ?_ ?_)
    · exact cell_one (by simp)
    · intro u hu; simp at hu; subst hu; rfl
    · unfold maxLen; omega
    · omega
    · simp only [sz_alloc]; omega
    intro v' w' h1 hg _
    have hfin := hide (pushed_mk (v0 := _) (x := ⟨1, xs, 0, 0⟩) (((hB.mono hbase)).alloc (by omega) _) (by simp only [sz_alloc]; omega) ((unhide Hown1).alloc _) hg h1 (Or.inl ⟨Or.inr rfl, rfl⟩) (hst.append ⟨SzV.s a' b' c' d', trivial⟩))
    clear hg h1
    go_wp2
    go_ret
    exact unhide hfin

end Go.Proofs.YtijejbdpagbmpaaDoor

namespace Go.Proofs.YtijejbdpagbmpaaDoor
open Go.RowKit

theorem drew_own {base n : Nat} {w : World} {v : Value} {xs : List Value} {q : Nat} (h : w.ownsRow base 52 1 v n xs) : (w.drewN q).ownsRow base 52 1 v n xs := h

theorem sz_drewN (w : World) (q : Nat) : (w.drewN q).heap.size = w.heap.size := rfl

set_option maxHeartbeats 1000000 in
set_option maxRecDepth 100000 in
theorem push_rep (base : Nat) (g cap : Nat) (vals : List Value) (T : TypeId) (y : Value) (st : List (List El × Int)) (o : List El × Int) (mn mx : Int) (w : World)
    (hown : w.ownsRow base 52 1 (.slice (some ⟨g, 0, none⟩) (vals.length + 1) cap) (vals.length + 1) (vals ++ [.iface T y])) (hst : NVals st vals) (ho : SzV (.iface T y) o.2) (o2 : 0 ≤ mn) (o3 : mn ≤ 250) (o4 : mx = -1 ∨ (mn ≤ mx ∧ mx ≤ 250)) (hbase : base ≤ w.heap.size) (hlen : vals.length + 1 ≤ 3000) (hnc : vals.length + 1 ≤ cap) (a : Option Addr) (cp : Nat) :
    Calls Tryd.prog 60 #[.slice (some ⟨g, 0, none⟩) (vals.length + 1) cap, .agg #[.int .i64 4, .slice a 0 cp, .int .i64 mn, .int .i64 mx]] w fun e w' => Pushed base w w' e (st ++ [o]) ⟨4, [], mn, mx⟩ := by
  obtain ⟨i0, hi, hz0, hz1, hz2⟩ := info_parts Tryd.info52
  have hgl : g < w.heap.size := (hown.lt g rfl).2
  have hcell : w.cell? ⟨g, vals.length, none⟩ = some (.iface T y) := by rw [hown.cellAt vals.length (by omega)]; simp
  have Hpop := hide (ownsRow_pop (by omega) hown)
  clear hown
  have hnc' : (vals.length : Int) + 1 ≤ (cap : Int) := by omega
  go_enter Tryd.func60, Tryd.ntmps60
  go_wp2_with (first | (go_at_call 59; refine (oc _ 1 rfl _).mono ?_; rintro e w1 ⟨rfl, hw3⟩; subst hw3))
  go_quiet (fail)
  go_wp2_with (at_builtin; refine wpList_append_own _ rfl _ _ 101 rfl base 52 i0 .nilIface 1 16 Tryd.underlying101 hi hz0 hz1 hz2 rfl (by decide) _ _ _ rfl ((drew_own ((unhide Hpop).alloc _)).alloc _) ⟨w.heap.size + 1, 0, none⟩ 1 1 [.iface 89 (.agg #[.iface T y, .int .i64 mn, .int .i64 mx])] rfl rfl ?_ ?_ ?_ ?_ ?_ ?_)
  · refine cell_one ?_
    rw [World.cell?_alloc_at _ _ _ _ (by rw [sz_drewN, sz_alloc])]
    rfl
  · intro u hu; simp at hu; subst hu; rfl
  · unfold maxLen; omega
  · omega
  · simp only [sz_alloc, sz_drewN]; omega
  intro v' w' h1 hg _
  have hfin := hide (pushed_mk (st := st ++ [o]) (x := ⟨4, [], mn, mx⟩) ((below_drewN ((below1 w _).mono hbase) nq).alloc (by simp only [sz_alloc, sz_drewN]; omega) _) (by simp only [sz_alloc, sz_drewN]; omega) ((drew_own ((unhide Hpop).alloc _)).alloc _) hg h1 (Or.inr (Or.inr ⟨rfl, st, o, rfl, rfl⟩)) (hst.append ⟨SzV.rep ho o2 o3 o4, trivial⟩))
  clear hg h1
  go_wp2
  go_ret
  exact unhide hfin

set_option maxHeartbeats 1000000 in
set_option maxRecDepth 100000 in
theorem push_cat (base : Nat) (g cap : Nat) (vals : List Value) (T T' : TypeId) (y y' : Value) (st : List (List El × Int)) (l r : List El × Int) (w : World)
    (hown : w.ownsRow base 52 1 (.slice (some ⟨g, 0, none⟩) (vals.length + 2) cap) (vals.length + 2) (vals ++ [.iface T y, .iface T' y'])) (hst : NVals st vals) (hl : SzV (.iface T y) l.2) (hr : SzV (.iface T' y') r.2) (hbase : base ≤ w.heap.size) (hlen : vals.length + 2 ≤ 3000) (hnc : vals.length + 2 ≤ cap) (a : Option Addr) (cp : Nat) :
    Calls Tryd.prog 60 #[.slice (some ⟨g, 0, none⟩) (vals.length + 2) cap, .agg #[.int .i64 2, .slice a 0 cp, .int .i64 0, .int .i64 0]] w fun e w' => Pushed base w w' e (st ++ [l, r]) ⟨2, [], 0, 0⟩ := by
  obtain ⟨i0, hi, hz0, hz1, hz2⟩ := info_parts Tryd.info52
  have hgl : g < w.heap.size := (hown.lt g rfl).2
  have hcell : w.cell? ⟨g, vals.length, none⟩ = some (.iface T y) := by rw [hown.cellAt vals.length (by omega)]; simp
  have hcell2 : w.cell? ⟨g, vals.length + 1, none⟩ = some (.iface T' y') := by rw [hown.cellAt (vals.length + 1) (by omega)]; simp
  have hown1 : w.ownsRow base 52 1 (.slice (some ⟨g, 0, none⟩) (vals.length + 1) cap) (vals.length + 1) (vals ++ [.iface T y]) := ownsRow_pop (n := vals.length + 1) (last := [.iface T' y']) (by simp) (by rw [List.append_assoc]; exact hown)
  have Hpop := hide (ownsRow_pop (by omega) hown1)
  clear hown hown1
  have hnc' : (vals.length : Int) + 2 ≤ (cap : Int) := by omega
  go_enter Tryd.func60, Tryd.ntmps60
  go_wp2_with (first | (go_at_call 59; refine (oc _ 2 rfl _).mono ?_; rintro e w1 ⟨rfl, hw3⟩; subst hw3))
  go_quiet (fail)
  go_wp2_with (at_builtin; refine wpList_append_own _ rfl _ _ 101 rfl base 52 i0 .nilIface 1 16 Tryd.underlying101 hi hz0 hz1 hz2 rfl (by decide) _ _ _ rfl ((drew_own ((unhide Hpop).alloc _)).alloc _) ⟨w.heap.size + 1, 0, none⟩ 1 1 [.iface 91 (.agg #[.iface T y, .iface T' y'])] rfl rfl ?_ ?_ ?_ ?_ ?_ ?_)
  · refine cell_one ?_
    rw [World.cell?_alloc_at _ _ _ _ (by rw [sz_drewN, sz_alloc])]
    rfl
  · intro u hu; simp at hu; subst hu; rfl
  · unfold maxLen; omega
  · omega
  · simp only [sz_alloc, sz_drewN]; omega
  intro v' w' h1 hg _
  have hfin := hide (pushed_mk (st := st ++ [l, r]) (x := ⟨2, [], 0, 0⟩) ((below_drewN ((below1 w _).mono hbase) nq).alloc (by simp only [sz_alloc, sz_drewN]; omega) _) (by simp only [sz_alloc, sz_drewN]; omega) ((drew_own ((unhide Hpop).alloc _)).alloc _) hg h1 (Or.inr (Or.inl ⟨Or.inl rfl, st, l, r, rfl, rfl⟩)) (hst.append ⟨SzV.cat hl hr, trivial⟩))
  clear hg h1
  go_wp2
  go_ret
  exact unhide hfin

set_option maxHeartbeats 1000000 in
set_option maxRecDepth 100000 in
theorem push_alt (base : Nat) (g cap : Nat) (vals : List Value) (T T' : TypeId) (y y' : Value) (st : List (List El × Int)) (l r : List El × Int) (w : World)
    (hown : w.ownsRow base 52 1 (.slice (some ⟨g, 0, none⟩) (vals.length + 2) cap) (vals.length + 2) (vals ++ [.iface T y, .iface T' y'])) (hst : NVals st vals) (hl : SzV (.iface T y) l.2) (hr : SzV (.iface T' y') r.2) (hbase : base ≤ w.heap.size) (hlen : vals.length + 2 ≤ 3000) (hnc : vals.length + 2 ≤ cap) (a : Option Addr) (cp : Nat) :
    Calls Tryd.prog 60 #[.slice (some ⟨g, 0, none⟩) (vals.length + 2) cap, .agg #[.int .i64 3, .slice a 0 cp, .int .i64 0, .int .i64 0]] w fun e w' => Pushed base w w' e (st ++ [l, r]) ⟨3, [], 0, 0⟩ := by
  obtain ⟨i0, hi, hz0, hz1, hz2⟩ := info_parts Tryd.info52
  have hgl : g < w.heap.size := (hown.lt g rfl).2
  have hcell : w.cell? ⟨g, vals.length, none⟩ = some (.iface T y) := by rw [hown.cellAt vals.length (by omega)]; simp
  have hcell2 : w.cell? ⟨g, vals.length + 1, none⟩ = some (.iface T' y') := by rw [hown.cellAt (vals.length + 1) (by omega)]; simp
  have hown1 : w.ownsRow base 52 1 (.slice (some ⟨g, 0, none⟩) (vals.length + 1) cap) (vals.length + 1) (vals ++ [.iface T y]) := ownsRow_pop (n := vals.length + 1) (last := [.iface T' y']) (by simp) (by rw [List.append_assoc]; exact hown)
  have Hpop := hide (ownsRow_pop (by omega) hown1)
  clear hown hown1
  have hnc' : (vals.length : Int) + 2 ≤ (cap : Int) := by omega
  go_enter Tryd.func60, Tryd.ntmps60
  go_wp2_with (first | (go_at_call 59; refine (oc _ 2 rfl _).mono ?_; rintro e w1 ⟨rfl, hw3⟩; subst hw3))
  go_quiet (fail)
  go_wp2_with (at_builtin; refine wpList_append_own _ rfl _ _ 101 rfl base 52 i0 .nilIface 1 16 Tryd.underlying101 hi hz0 hz1 hz2 rfl (by decide) _ _ _ rfl ((drew_own ((unhide Hpop).alloc _)).alloc _) ⟨w.heap.size + 1, 0, none⟩ 1 1 [.iface 105 (.agg #[.iface T y, .iface T' y'])] rfl rfl ?_ ?_ ?_ ?_ ?_ ?_)
  · refine cell_one ?_
    rw [World.cell?_alloc_at _ _ _ _ (by rw [sz_drewN, sz_alloc])]
    rfl
  · intro u hu; simp at hu; subst hu; rfl
  · unfold maxLen; omega
  · omega
  · simp only [sz_alloc, sz_drewN]; omega
  intro v' w' h1 hg _
  have hfin := hide (pushed_mk (st := st ++ [l, r]) (x := ⟨3, [], 0, 0⟩) ((below_drewN ((below1 w _).mono hbase) nq).alloc (by simp only [sz_alloc, sz_drewN]; omega) _) (by simp only [sz_alloc, sz_drewN]; omega) ((drew_own ((unhide Hpop).alloc _)).alloc _) hg h1 (Or.inr (Or.inl ⟨Or.inr rfl, st, l, r, rfl, rfl⟩)) (hst.append ⟨SzV.alt hl hr, trivial⟩))
  clear hg h1
  go_wp2
  go_ret
  exact unhide hfin

end Go.Proofs.YtijejbdpagbmpaaDoor
