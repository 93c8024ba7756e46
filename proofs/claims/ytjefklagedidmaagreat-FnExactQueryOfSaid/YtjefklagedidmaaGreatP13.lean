import Derived.Test.YtjefklagedidmaaGreatP12
import Derived.Test.YtjefklagedidmaaGreatP11
import Derived.Laws.AppendOwnNone
import Derived.Deep.AppendLies
import Derived.Deep.RegionLaw
import Derived.BigRegion
namespace Go.Proofs.YtjefklagedidmaaGreat
open Go.RowKit

set_option maxHeartbeats 1000000 in
theorem l1start_any (v : Value) (xs : List El) (lo en : Nat) (w : World) (hv : ElsAt 0 w.heap.size w v xs) (hlen : xs.length ≤ 1048576) (hle : lo < en) (hen : en ≤ xs.length)
    (h1 : wsum ((xs.take en).drop lo) = 1) (h2 : ∀ k : Nat, lo < k → k ≤ en → wsum ((xs.take en).drop k) ≤ 0) :
    Calls Tryz.prog 59 #[v, .int .i64 (en : Int)] w fun e w' => e = .returned (.int .i64 (lo : Int)) ∧ w' = w := by
  obtain ⟨a, cap, rfl, hl, hc⟩ := hv
  have H2 := hide h2
  have H1 := hide h1
  clear h1 h2
  have hE : (xs.take en).length = en := by rw [List.length_take]; omega
  go_enter Tryz.func59, Tryz.ntmps59
  go_wp2
  go_loop [5, 6] (fun n i => ∃ k : Nat, lo ≤ k ∧ k ≤ en ∧ i = .int .i64 (k : Int) ∧ n = .int .i64 (1 - wsum ((xs.take en).drop k))) (fun _ i => (intOf i).toNat)
  case atStart => exact ⟨en, by omega, Nat.le_refl _, rfl, by rw [List.drop_eq_nil_of_le (by omega)]; rfl⟩
  case round =>
    obtain ⟨k, hk, hk2, rfl, rfl⟩ := hrel
    by_cases hgt : lo < k
    · cases k with
      | zero => omega
      | succ k =>
        obtain ⟨b, off, rfl, -, hbn, hel⟩ := hc (by omega)
        obtain ⟨i1, i2, i3, v, c0, c1, c2, c3, hints⟩ := hel k (by omega)
        have hws := wsum_drop (xs := xs.take en) (k := k) (by omega)
        have hbd := wsum_bd ((xs.take en).drop (k + 1))
        rw [List.length_drop, hE] at hbd
        rw [List.getElem?_take_of_lt (by omega)] at hws
        have hs0 := unhide H2 (k + 1) hgt hk2
        have hkk : (k : Int) < (xs.length : Int) := by omega
        clear hE
        generalize hS : wsum ((xs.take en).drop (k + 1)) = s at *
        generalize xs[k]?.getD dE = x at *
        have Hws := hide hws
        have HS := hide hS
        clear hws hS hints i2 i3 c1 c2 c3
        have hwt : wt x = if x.kind = 0 ∨ x.kind = 1 then 1 else if x.kind = 2 ∨ x.kind = 3 then -1 else 0 := rfl
        generalize wt x = t at *
        generalize x.kind = q at *
        have Hwt := hide hwt
        clear hwt
        by_cases q0 : q = 0
        · subst q0
          have ht : t = 1 := unhide Hwt
          go_wp2
          go_round
          case rel => exact ⟨k, by omega, by omega, by congr 1, by have := unhide Hws; congr 1; omega⟩
          case measure => simp [intOf]
        · by_cases q1 : q = 1
          · subst q1
            have ht : t = 1 := unhide Hwt
            go_wp2
            go_round
            case rel => exact ⟨k, by omega, by omega, by congr 1, by have := unhide Hws; congr 1; omega⟩
            case measure => simp [intOf]
          · by_cases q2 : q = 2
            · subst q2
              have ht : t = -1 := unhide Hwt
              go_wp2
              go_round
              case rel => exact ⟨k, by omega, by omega, by congr 1, by have := unhide Hws; congr 1; omega⟩
              case measure => simp [intOf]
            · by_cases q3 : q = 3
              · subst q3
                have ht : t = -1 := unhide Hwt
                go_wp2
                go_round
                case rel => exact ⟨k, by omega, by omega, by congr 1, by have := unhide Hws; congr 1; omega⟩
                case measure => simp [intOf]
              · have ht : t = 0 := by rw [unhide Hwt, if_neg (by omega), if_neg (by omega)]
                have b0 : (q == 0) = false := by simp [q0]
                have b1 : (q == 1) = false := by simp [q1]
                have b2 : (q == 2) = false := by simp [q2]
                have b3 : (q == 3) = false := by simp [q3]
                go_wp2
                go_round
                case rel => exact ⟨k, by omega, by omega, by congr 1, by have := unhide Hws; congr 1; omega⟩
                case measure => simp [intOf]
    · obtain rfl : k = lo := by omega
      rw [unhide H1]
      by_cases hk0 : 0 < k
      · have hk0' : 0 < (k : Int) := by omega
        go_wp2
        go_ret
        exact ⟨rfl, rfl⟩
      · have hk0' : ¬ 0 < (k : Int) := by omega
        go_wp2
        go_ret
        exact ⟨rfl, rfl⟩

end Go.Proofs.YtjefklagedidmaaGreat

namespace Go.Proofs.YtjefklagedidmaaGreat
open Go.RowKit

theorem ElsAt.pre {lo n : Nat} {w : World} {a : Option Addr} {len cap : Nat} {p q : List El} (h : ElsAt lo n w (.slice a len cap) (p ++ q)) : ElsAt lo n w (.slice a p.length cap) p := by
  obtain ⟨a', cap', e, hl, hc⟩ := h
  simp only [Value.slice.injEq] at e
  obtain ⟨rfl, -, rfl⟩ := e
  rw [List.length_append] at hl hc
  refine ⟨a, cap, rfl, ⟨by omega, hl.2⟩, fun hp => ?_⟩
  obtain ⟨b, off, rfl, h1, h2, h3⟩ := hc (by omega)
  exact ⟨b, off, rfl, h1, h2, fun i hi => by have := h3 i (by omega); rwa [List.getElem?_append_left hi] at this⟩

theorem ElsAt.mid {lo n : Nat} {w : World} {b off len cap cap' : Nat} {p q r : List El} (h : ElsAt lo n w (.slice (some ⟨b, off, none⟩) len cap) (p ++ q ++ r)) (hcap : q.length ≤ cap' ∧ cap' ≤ maxLen) : ElsAt lo n w (.slice (some ⟨b, off + p.length * 4, none⟩) q.length cap') q := by
  obtain ⟨a', cap'', e, hl, hc⟩ := h
  simp only [Value.slice.injEq] at e
  obtain ⟨rfl, -, rfl⟩ := e
  rw [List.length_append, List.length_append] at hl hc
  refine ⟨_, cap', rfl, hcap, fun hp => ?_⟩
  obtain ⟨b', off', e2, h1, h2, h3⟩ := hc (by omega)
  simp only [Option.some.injEq, Addr.mk.injEq, and_true] at e2
  obtain ⟨rfl, rfl⟩ := e2
  refine ⟨b, _, rfl, h1, h2, fun i hi => ?_⟩
  have := h3 (p.length + i) (by omega)
  rw [List.append_assoc, List.getElem?_append_right (by omega), show p.length + i - p.length = i by omega, List.getElem?_append_left hi] at this
  rwa [show off + p.length * 4 + i * 4 = off + (p.length + i) * 4 by omega]

theorem ElsAt.last {lo n : Nat} {w : World} {a : Option Addr} {len cap : Nat} {p : List El} {x : El} (h : ElsAt lo n w (.slice a len cap) (p ++ [x])) :
    len = p.length + 1 ∧ (len ≤ cap ∧ cap ≤ maxLen) ∧ ∃ b off, a = some ⟨b, off, none⟩ ∧ b < n ∧ ElAt lo n w b (off + p.length * 4) x := by
  obtain ⟨a', cap', e, hl, hc⟩ := h
  simp only [Value.slice.injEq] at e
  obtain ⟨rfl, e1, rfl⟩ := e
  rw [List.length_append] at e1 hl hc
  simp only [List.length_singleton] at e1 hl hc
  obtain ⟨b, off, rfl, h1, h2, h3⟩ := hc (by omega)
  have := h3 p.length (by omega)
  exact ⟨e1, ⟨by omega, hl.2⟩, b, off, rfl, h2, by simpa using this⟩

theorem l1start_bin (v : Value) (l r : List El) (cr : Int) (x : El) (z : Int) (w : World) (sr : SegM r cr) (hv : ElsAt 0 w.heap.size w v (l ++ r ++ [x])) (hlen : l.length + r.length + 1 ≤ 1048576) (hz : z = l.length + r.length) :
    Calls Tryz.prog 59 #[v, .int .i64 z] w fun e w' => e = .returned (.int .i64 (l.length : Int)) ∧ w' = w := by
  subst hz
  have pr := sr.ne
  have h := l1start_any v (l ++ r ++ [x]) l.length (l.length + r.length) w hv (by simp; omega) (by omega) (by simp) ?_ ?_
  · rwa [Int.natCast_add] at h
  · rw [show l.length + r.length = (l ++ r).length by simp, List.take_left' rfl, List.drop_left' rfl]
    exact sr.ws
  · intro k h1 h2
    rw [show l.length + r.length = (l ++ r).length by simp, List.take_left' rfl, List.drop_append, List.drop_eq_nil_of_le (by omega), List.nil_append]
    exact sr.tl _ (by omega) (by omega)

/-- The model counts the size of this list as c. -/
def SzS (l : List El) (c : Int) : Prop := ∀ (v : Value) (w : World), ElsAt 0 w.heap.size w v l → l.length ≤ 1048576 → Calls Tryz.prog 85 #[v] w fun e w' => e = .returned (.int .i64 c) ∧ Below w.heap.size w w'

set_option maxHeartbeats 2000000 in
theorem l1size_bin (k : Int) (hk : k = 2 ∨ k = 3) (l r : List El) (cl cr : Int) (sl : SegM l cl) (sr : SegM r cr) (Hl : SzS l cl) (Hr : SzS r cr)
    (v : Value) (w : World) (hv : ElsAt 0 w.heap.size w v (l ++ r ++ [⟨k, [], 0, 0⟩])) (hlen : (l ++ r ++ [(⟨k, [], 0, 0⟩ : El)]).length ≤ 1048576) :
    Calls Tryz.prog 85 #[v] w fun e w' => e = .returned (.int .i64 (cap (cl + cr))) ∧ Below w.heap.size w w' := by
  have hv0 := hv
  obtain ⟨a, cp, rfl, -, -⟩ := id hv
  obtain ⟨hlen2, hcap, b, off, rfl, hbn, hel⟩ := hv.last
  rw [hlen2] at hv hv0 hcap ⊢
  simp only [List.length_append, List.length_singleton] at hv hv0 hlen hlen2 hel hcap ⊢
  unfold maxLen at hcap
  obtain ⟨i1, i2, i3, sv, c0, c1, c2, c3, hints⟩ := hel
  obtain ⟨sa, sc, rfl, -, -, -⟩ := id hints
  simp only at c0 c2 c3
  clear hlen2 i1 i2 i3 hints
  have e1 : (((l.length + r.length + 1 : Nat) : Int) - 1) = ((l.length + r.length : Nat) : Int) := by omega
  have bl := sl.bd
  have br := sr.bd
  have pl := sl.ne
  have pr := sr.ne
  have hvL : ElsAt 0 w.heap.size w (.slice (some ⟨b, off, none⟩) l.length cp) (l) := by rw [List.append_assoc] at hv0; exact hv0.pre
  have hvR := hv0.mid (cap' := cp - l.length) (by unfold maxLen; omega)
  have HvL := hide hvL
  have HvR := hide hvR
  have Hv0 := hide hv0
  clear hvL hvR hv hv0
  rcases hk with rfl | rfl
  all_goals
    go_enter Tryz.func85, Tryz.ntmps85
    go_wp2_with fail
    refine (l1start_bin _ l r cr _ _ _ sr (by exact (unhide Hv0).below (below1 w _) (Nat.le_refl _)) hlen rfl).mono ?_
    rintro e w1 ⟨rfl, rfl⟩
    go_wp2_with fail
    refine (Hl _ _ (by exact (unhide HvL).below (below1 w _) (Nat.le_refl _)) (by omega)).mono ?_
    rintro e w1 ⟨rfl, hb1⟩
    have hB1 : Below w.heap.size w w1 := (below1 w _).trans (hb1.mono (by rw [sz_alloc]; omega))
    clear hb1
    go_wp2_with fail
    refine (Hr _ _ (by exact (unhide HvR).below hB1 (Nat.le_refl _)) (by omega)).mono ?_
    rintro e w2 ⟨rfl, hb2⟩
    have hB2 : Below w.heap.size w w2 := hB1.trans (hb2.mono hB1.size)
    clear hb2
    by_cases hc5 : 500 < cl + cr
    · go_wp2
      go_ret
      exact ⟨ret_int (by unfold cap; rw [if_pos hc5]), hB2⟩
    · go_wp2
      go_ret
      exact ⟨ret_int (by unfold cap; rw [if_neg (by omega)]), hB2⟩

theorem cap_gt {n : Int} (h : 500 < n) : cap n = 501 := by unfold cap; rw [if_pos h]
theorem cap_le {n : Int} (h : ¬ 500 < n) : cap n = n := by unfold cap; rw [if_neg h]
theorem repSize_a {c mn : Int} (h : mn < 1) : repSize c mn (-1) = c + 1 := by unfold repSize; rw [if_pos rfl, if_pos h]; omega
theorem repSize_b {c mn : Int} (h : ¬ mn < 1) : repSize c mn (-1) = mn * c + 1 := by unfold repSize; rw [if_pos rfl, if_neg h]
theorem repSize_c {c mn : Int} : repSize c mn 0 = c := by unfold repSize; rw [if_neg (by omega), if_pos rfl]
theorem repSize_d {c mn mx : Int} (h1 : mx ≠ -1) (h2 : mx ≠ 0) : repSize c mn mx = mn * c + (mx - mn) * (c + 1) := by unfold repSize; rw [if_neg h1, if_neg h2]

set_option maxHeartbeats 2000000 in
theorem l1size_rep (mn mx : Int) (x : List El) (c : Int) (sx : SegM x c) (o2 : 0 ≤ mn) (o3 : mn ≤ 250) (o4 : mx = -1 ∨ (mn ≤ mx ∧ mx ≤ 250)) (Hx : SzS x c)
    (v : Value) (w : World) (hv : ElsAt 0 w.heap.size w v (x ++ [⟨4, [], mn, mx⟩])) (hlen : (x ++ [(⟨4, [], mn, mx⟩ : El)]).length ≤ 1048576) :
    Calls Tryz.prog 85 #[v] w fun e w' => e = .returned (.int .i64 (cap (repSize c mn mx))) ∧ Below w.heap.size w w' := by
  obtain ⟨a, cp, rfl, -, -⟩ := id hv
  obtain ⟨hlen2, hcap, b, off, rfl, hbn, hel⟩ := hv.last
  rw [hlen2] at hv hcap ⊢
  simp only [List.length_append, List.length_singleton] at hv hlen hlen2 hel hcap ⊢
  unfold maxLen at hcap
  obtain ⟨i1, i2, i3, sv, c0, c1, c2, c3, hints⟩ := hel
  obtain ⟨sa, sc, rfl, -, -, -⟩ := id hints
  simp only at c0 c2 c3
  clear hlen2 i1 i2 i3 hints
  have bx := sx.bd
  have px := sx.ne
  have HvX := hide hv.pre
  clear hv
  have m1 : mn * c ≤ 250 * 501 := Int.mul_le_mul o3 bx.2 bx.1 (by omega)
  have m0 : 0 ≤ mn * c := Int.mul_nonneg o2 bx.1
  rcases o4 with rfl | ⟨o4, o5⟩
  · by_cases hm1 : mn < 1
    · rw [repSize_a hm1]
      by_cases hc5 : 500 < c + 1
      · rw [cap_gt hc5]
        go_enter Tryz.func85, Tryz.ntmps85
        go_wp2_with fail
        refine (Hx _ _ (by exact (unhide HvX).below (below1 w _) (Nat.le_refl _)) (by omega)).mono ?_
        rintro e w1 ⟨rfl, hb1⟩
        obtain ⟨hc1, hf1⟩ := bcell hb1
        simp only [sz_alloc] at hc1 hf1
        have hB1 : Below w.heap.size w w1 := (below1 w _).trans (hb1.mono (by rw [sz_alloc]; omega))
        clear hb1
        go_wp2
        go_ret
        exact ⟨rfl, hB1⟩
      · rw [cap_le hc5]
        go_enter Tryz.func85, Tryz.ntmps85
        go_wp2_with fail
        refine (Hx _ _ (by exact (unhide HvX).below (below1 w _) (Nat.le_refl _)) (by omega)).mono ?_
        rintro e w1 ⟨rfl, hb1⟩
        obtain ⟨hc1, hf1⟩ := bcell hb1
        simp only [sz_alloc] at hc1 hf1
        have hB1 : Below w.heap.size w w1 := (below1 w _).trans (hb1.mono (by rw [sz_alloc]; omega))
        clear hb1
        go_wp2
        go_ret
        exact ⟨rfl, hB1⟩
    · rw [repSize_b hm1]
      by_cases hc5 : 500 < mn * c + 1
      · rw [cap_gt hc5]
        go_enter Tryz.func85, Tryz.ntmps85
        go_wp2_with fail
        refine (Hx _ _ (by exact (unhide HvX).below (below1 w _) (Nat.le_refl _)) (by omega)).mono ?_
        rintro e w1 ⟨rfl, hb1⟩
        obtain ⟨hc1, hf1⟩ := bcell hb1
        simp only [sz_alloc] at hc1 hf1
        have hB1 : Below w.heap.size w w1 := (below1 w _).trans (hb1.mono (by rw [sz_alloc]; omega))
        clear hb1
        go_wp2
        go_ret
        exact ⟨rfl, hB1⟩
      · rw [cap_le hc5]
        go_enter Tryz.func85, Tryz.ntmps85
        go_wp2_with fail
        refine (Hx _ _ (by exact (unhide HvX).below (below1 w _) (Nat.le_refl _)) (by omega)).mono ?_
        rintro e w1 ⟨rfl, hb1⟩
        obtain ⟨hc1, hf1⟩ := bcell hb1
        simp only [sz_alloc] at hc1 hf1
        have hB1 : Below w.heap.size w w1 := (below1 w _).trans (hb1.mono (by rw [sz_alloc]; omega))
        clear hb1
        go_wp2
        go_ret
        exact ⟨rfl, hB1⟩
  · by_cases hx0 : mx = 0
    · subst hx0
      rw [repSize_c]
      by_cases hc5 : 500 < c
      · rw [cap_gt hc5]
        go_enter Tryz.func85, Tryz.ntmps85
        go_wp2_with fail
        refine (Hx _ _ (by exact (unhide HvX).below (below1 w _) (Nat.le_refl _)) (by omega)).mono ?_
        rintro e w1 ⟨rfl, hb1⟩
        obtain ⟨hc1, hf1⟩ := bcell hb1
        simp only [sz_alloc] at hc1 hf1
        have hB1 : Below w.heap.size w w1 := (below1 w _).trans (hb1.mono (by rw [sz_alloc]; omega))
        clear hb1
        go_wp2
        go_ret
        exact ⟨rfl, hB1⟩
      · rw [cap_le hc5]
        go_enter Tryz.func85, Tryz.ntmps85
        go_wp2_with fail
        refine (Hx _ _ (by exact (unhide HvX).below (below1 w _) (Nat.le_refl _)) (by omega)).mono ?_
        rintro e w1 ⟨rfl, hb1⟩
        obtain ⟨hc1, hf1⟩ := bcell hb1
        simp only [sz_alloc] at hc1 hf1
        have hB1 : Below w.heap.size w w1 := (below1 w _).trans (hb1.mono (by rw [sz_alloc]; omega))
        clear hb1
        go_wp2
        go_ret
        exact ⟨rfl, hB1⟩
    · rw [repSize_d (by omega) hx0]
      have hx1 : (mx == -1) = false := by simp; omega
      have hx2 : (mx == 0) = false := by simp [hx0]
      have m2 : (mx - mn) * (c + 1) ≤ 250 * 502 := Int.mul_le_mul (by omega) (by omega) (by omega) (by omega)
      have m3 : 0 ≤ (mx - mn) * (c + 1) := Int.mul_nonneg (by omega) (by omega)
      by_cases hc5 : 500 < mn * c + (mx - mn) * (c + 1)
      · rw [cap_gt hc5]
        go_enter Tryz.func85, Tryz.ntmps85
        go_wp2_with fail
        refine (Hx _ _ (by exact (unhide HvX).below (below1 w _) (Nat.le_refl _)) (by omega)).mono ?_
        rintro e w1 ⟨rfl, hb1⟩
        obtain ⟨hc1, hf1⟩ := bcell hb1
        simp only [sz_alloc] at hc1 hf1
        have hB1 : Below w.heap.size w w1 := (below1 w _).trans (hb1.mono (by rw [sz_alloc]; omega))
        clear hb1
        go_wp2
        go_ret
        exact ⟨rfl, hB1⟩
      · rw [cap_le hc5]
        go_enter Tryz.func85, Tryz.ntmps85
        go_wp2_with fail
        refine (Hx _ _ (by exact (unhide HvX).below (below1 w _) (Nat.le_refl _)) (by omega)).mono ?_
        rintro e w1 ⟨rfl, hb1⟩
        obtain ⟨hc1, hf1⟩ := bcell hb1
        simp only [sz_alloc] at hc1 hf1
        have hB1 : Below w.heap.size w w1 := (below1 w _).trans (hb1.mono (by rw [sz_alloc]; omega))
        clear hb1
        go_wp2
        go_ret
        exact ⟨rfl, hB1⟩

set_option maxHeartbeats 2000000 in
theorem l1size_leaf (k : Int) (hk : k = 0 ∨ k = 1) (st : List Int) (v : Value) (w : World) (hv : ElsAt 0 w.heap.size w v [⟨k, st, 0, 0⟩]) :
    Calls Tryz.prog 85 #[v] w fun e w' => e = .returned (.int .i64 1) ∧ Below w.heap.size w w' := by
  obtain ⟨a, cp, rfl, -, hc⟩ := hv
  obtain ⟨b, off, rfl, -, hbn, hel⟩ := hc (by simp)
  obtain ⟨i1, i2, i3, sv, c0, c1, c2, c3, hints⟩ := hel 0 (by simp)
  obtain ⟨sa, sc, rfl, -, -, -⟩ := id hints
  simp only [List.getElem?_cons_zero, Option.getD_some, Nat.zero_mul, Nat.add_zero] at c0 c1 c2 c3
  clear hel hc hints i1 i2 i3
  rcases hk with rfl | rfl
  all_goals
    go_enter Tryz.func85, Tryz.ntmps85
    go_wp2
    go_ret
    exact ⟨rfl, below1 w _⟩

theorem PushR.szs {st st' : List (List El × Int)} {x : El} (h : PushR st x st') (ok : ElOk x) (hs : ∀ s ∈ st, SegM s.1 s.2 ∧ SzS s.1 s.2) : ∀ s ∈ st', SegM s.1 s.2 ∧ SzS s.1 s.2 := by
  have hseg := h.seg ok (fun s hs' => (hs s hs').1)
  refine fun s hm => ⟨hseg s hm, ?_⟩
  obtain ⟨k, xs, mn, mx⟩ := x
  rcases h with ⟨hk, rfl⟩ | ⟨hk, b, l, r, rfl, rfl⟩ | ⟨hk, b, o, rfl, rfl⟩
  · simp only [List.mem_append, List.mem_singleton] at hm; rcases hm with hm | rfl
    · exact (hs s hm).2
    · intro v w hv _
      rcases ok with ⟨q1, q2, q3, q4⟩ | ⟨q1, q2, q3, q4⟩ | ⟨q1, q2, q3, q4, q5⟩ <;> simp only at hk q1 q2 q3 q4
      · subst q3 q4; exact l1size_leaf k hk xs v w hv
      · subst q3 q4; exact l1size_leaf k hk xs v w hv
      · omega
  · simp only [List.mem_append, List.mem_singleton] at hm; rcases hm with hm | rfl
    · exact (hs s (by simp [hm])).2
    · rcases ok with ⟨q1, q2, q3, q4⟩ | ⟨q1, q2, q3, q4⟩ | ⟨q1, q2, q3, q4, q5⟩ <;> simp only at hk q1 q2 q3 q4
      · omega
      · subst q3 q4
        obtain rfl := List.eq_nil_of_length_eq_zero q2
        exact fun v w hv hlen => l1size_bin k hk l.1 r.1 l.2 r.2 (hs l (by simp)).1 (hs r (by simp)).1 (hs l (by simp)).2 (hs r (by simp)).2 v w hv hlen
      · omega
  · simp only [List.mem_append, List.mem_singleton] at hm; rcases hm with hm | rfl
    · exact (hs s (by simp [hm])).2
    · rcases ok with ⟨q1, q2, q3, q4⟩ | ⟨q1, q2, q3, q4⟩ | ⟨q1, q2, q3, q4, q5⟩ <;> simp only at hk q1 q2 q3 q4
      · omega
      · omega
      · subst hk
        obtain rfl := List.eq_nil_of_length_eq_zero q2
        exact fun v w hv hlen => l1size_rep mn mx o.1 o.2 (hs o (by simp)).1 q3 q4 q5 (hs o (by simp)).2 v w hv hlen

/-- A list of good elements in the right shape is a tree, and the model counts its size. -/
theorem exists_seg {xs : List El} (ok : ∀ i : Nat, i < xs.length → ElOk (xs[i]?.getD dE)) (sh : Shape xs) : ∃ c, SegM xs c ∧ SzS xs c := by
  have key : ∀ k : Nat, k ≤ xs.length → ∃ st, flats st = xs.take k ∧ ∀ s ∈ st, SegM s.1 s.2 ∧ SzS s.1 s.2 := by
    intro k
    induction k with
    | zero => intro _; exact ⟨[], by simp [flats], by simp⟩
    | succ k ih =>
      intro hk
      obtain ⟨st, hst, hok⟩ := ih (by omega)
      have hx := ok k (by omega)
      have h1 : wsum (xs.take (k + 1)) + wsum (xs.drop (k + 1)) = 1 := by rw [← wsum_append, List.take_append_drop]; exact sh.1
      have h2 := sh.2 (k + 1) (by omega) hk
      have h3 := wsum_flats (fun s hs => (hok s hs).1.ws)
      rw [hst] at h3
      rw [take_next (by omega), wsum_append, h3] at h1
      simp only [wsum] at h1
      obtain ⟨st', hp⟩ := PushR.ex (st := st) hx (by omega)
      exact ⟨st', by rw [hp.flats, hst, take_next (by omega)], hp.szs hx hok⟩
  obtain ⟨st, hst, hok⟩ := key xs.length (Nat.le_refl _)
  rw [List.take_length] at hst
  have h3 := wsum_flats (fun s hs => (hok s hs).1.ws)
  rw [hst, sh.1] at h3
  obtain ⟨t, rfl⟩ := List.length_eq_one_iff.1 (show st.length = 1 by omega)
  obtain ⟨a, b⟩ := hok t (by simp)
  rw [flats_one] at hst
  rw [hst] at a b
  exact ⟨t.2, a, b⟩

end Go.Proofs.YtjefklagedidmaaGreat

namespace Go.Proofs.YtjefklagedidmaaGreat
open Go.RowKit

theorem Tryz.zinOp : (Tryz.prog.info? 59).map (fun i => (i.zero, i.size, i.bytes)) = some (some (.agg #[.int .i64 0, .slice none 0 0, .int .i64 0, .int .i64 0]), 4, 48) := by kernel_rfl

theorem GrowP.app1 {base : Nat} {wr w1 W w' : World} {v v' : Value} {ps : List Pc} {x : El} {s : Value} {T : Nat → Prop} {o : Obj} (h : GrowP base wr v ps) (hbase : base ≤ wr.heap.size) (hb : Below wr.heap.size wr w1) (hs : SlF mI 0 T w1 s x.set) (hT : ∀ k, T k → wr.heap.size ≤ k ∧ k < w1.heap.size) (hP : Pushd w1 W o)
    (h1 : w'.ownsRow base 59 4 v' (ps.length + 1) (cellsP ps ++ cell4 x s)) (hg : W.grownBy w' v.ownBlock) (ho : v'.ownBlock = v.ownBlock ∨ v'.ownBlock = some W.heap.size) : GrowP base w' v' (ps ++ [⟨x, s, T⟩]) ∧ Below base wr w' := by
  have hB : Below wr.heap.size wr W := hb.trans (hP.below.mono hb.size)
  refine ⟨h.app (qs := [⟨x, s, T⟩]) hbase hB (fun p hp => ?_) (fun p hp k hk => ?_) (List.pairwise_singleton _ _) (by simpa [cellsP] using h1) hg ho, (hB.mono hbase).grown hg (by have := hB.size; omega) (fun k hk => (h.own.lt k hk).1)⟩
  · obtain rfl := List.mem_singleton.1 hp
    exact hs.same (fun k hk => hP.old (hT k hk).2)
  · obtain rfl := List.mem_singleton.1 hp
    have := hT k hk
    have := hP.size
    exact ⟨(hT k hk).1, by omega⟩

set_option maxHeartbeats 2000000 in
set_option maxRecDepth 100000 in
theorem l1copy_w (v : Value) (xs : List El) (w : World) (hv : ElsAt 0 w.heap.size w v xs) (hlen : xs.length ≤ 1048576) (hset : ∀ i : Nat, (xs[i]?.getD dE).set.length ≤ 1048576) :
    Calls Tryz.prog 60 #[v] w fun e w' => ∃ v', e = .returned v' ∧ GrowE w.heap.size w' v' xs ∧ Below w.heap.size w w' := by
  obtain ⟨a, cap, rfl, hl, hc⟩ := hv
  obtain ⟨i0, hi, hz0, hz1, hz2⟩ := info_parts Tryz.zinInt
  obtain ⟨j0, hj, hy0, hy1, hy2⟩ := info_parts Tryz.zinOp
  have Hset := hide hset
  clear hset
  go_enter Tryz.func60, Tryz.ntmps60
  go_wp2
  go_loopw [3, 4] (fun ov i wr => ∃ k : Nat, k ≤ xs.length ∧ i = .int .i64 k ∧ GrowE w.heap.size wr ov (xs.take k) ∧ Below w.heap.size w wr) (fun _ i _ => xs.length - (intOf i).toNat)
  case atStart => exact ⟨0, Nat.zero_le _, rfl, GrowE.nil _ _, Below.refl _ _⟩
  case round =>
    obtain ⟨k, hk, rfl, hgr, hb⟩ := hrel
    have hszr := hb.size
    by_cases hlt : k < xs.length
    · obtain ⟨b, off, rfl, -, hbn, hel⟩ := hc (by omega)
      obtain ⟨i1, i2, i3, sv, c0, c1, c2, c3, hints⟩ := (hel k hlt).same (Same.of_below hb (Nat.le_refl _)) (Nat.zero_le _) hbn
      have hsk := unhide Hset k
      have Htk := hide (take_next hlt)
      have Hsv := hide (ints_sl (hints.mono (Nat.le_refl _) hb.size))
      generalize xs[k]?.getD dE = x at *
      obtain ⟨sa, sc, rfl, -, -, -⟩ := id hints
      obtain ⟨ps, hps, hgp⟩ := hgr
      have Hps := hide hps
      have Hgp := hide hgp
      have hpl : ps.length = k := by
        have := congrArg List.length hps
        rw [List.length_map, List.length_take] at this
        omega
      subst hpl
      obtain ⟨oa, oc, rfl⟩ := own_is hgp.own
      have hlt' : (ps.length : Int) < (xs.length : Int) := by omega
      have hbw : b < wr.heap.size := by omega
      clear hel hc hints i1 i2 i3 hps hgp
      go_wp2_with (at_builtin; refine app_ints rfl _ _ rfl rfl _ rfl x.set (unhide Hsv) hsk ?_)
      intro sv' w1 hb1 hsl h1c
      have d0 : w1.cell? ⟨b, off + ps.length * 4, none⟩ = some (.int .i64 x.kind) := by rw [hb1.cell (p := ⟨b, off + ps.length * 4, none⟩) hbw]; exact c0
      have d2 : w1.cell? ⟨b, off + ps.length * 4 + 2, none⟩ = some (.int .i64 x.mn) := by rw [hb1.cell (p := ⟨b, off + ps.length * 4 + 2, none⟩) hbw]; exact c2
      have d3 : w1.cell? ⟨b, off + ps.length * 4 + 3, none⟩ = some (.int .i64 x.mx) := by rw [hb1.cell (p := ⟨b, off + ps.length * 4 + 3, none⟩) hbw]; exact c3
      have Hsl := hide hsl
      obtain ⟨sa', sc', rfl⟩ : ∃ a c, sv' = .slice a x.set.length c := by obtain ⟨a, c, e, -⟩ := hsl; exact ⟨a, c, e⟩
      clear hsl c0 c1 c2 c3
      have Hown1 := hide (own_keep (unhide Hgp).own hb1 (Nat.le_refl _))
      have hsz1 := hb1.size
      have hst : Hid (∀ (W w' : World) (v' : Value) (o : Obj), Pushd w1 W o → w'.ownsRow w.heap.size 59 4 v' (ps.length + 1) (cellsP ps ++ cell4 x (.slice sa' x.set.length sc')) → W.grownBy w' (Value.slice oa ps.length oc).ownBlock → (v'.ownBlock = (Value.slice oa ps.length oc).ownBlock ∨ v'.ownBlock = some W.heap.size) → GrowE w.heap.size w' v' (xs.take (ps.length + 1)) ∧ Below w.heap.size wr w') := fun W w' v' o hP q1 q2 q3 => by
        obtain ⟨r1, r2⟩ := (unhide Hgp).app1 (T := Rng wr.heap.size w1.heap.size) hszr hb1 (unhide Hsl).foot (fun k hk => hk) hP q1 q2 q3
        exact ⟨⟨_, by rw [List.map_append, unhide Hps, unhide Htk]; rfl, r1⟩, r2⟩
      have hone : Hid (∀ u ∈ cell4 x (.slice sa' x.set.length sc'), u.oneCell' = true) := fun u hu => by
        simp only [cell4, List.mem_cons, List.not_mem_nil, or_false] at hu
        rcases hu with rfl | rfl | rfl | rfl <;> rfl
      go_wp2
      go_region_law (refine step_append_lies _ rfl (.tmp 19) (.tmp 37) 30 rfl w.heap.size 59 j0 (.agg #[.int .i64 0, .slice none 0 0, .int .i64 0, .int .i64 0]) 4 48 Tryz.underlying30 hj hy0 hy1 hy2 rfl (by decide) (.slice oa ps.length oc) ps.length (cellsP ps) (by simp [Act.eval]) (by refine Pushd.own (w := w1) (o := .cells #[.int .i64 x.kind, .slice sa' x.set.length sc', .int .i64 x.mn, .int .i64 x.mx] 59) ?_ (unhide Hown1); exact ⟨rfl, rfl, rfl, rfl⟩) ⟨w1.heap.size, 0, none⟩ 1 1 (cell4 x (.slice sa' x.set.length sc')) (by simp [Act.eval]) rfl (by refine Pushd.news (w := w1) (cs := #[.int .i64 x.kind, .slice sa' x.set.length sc', .int .i64 x.mn, .int .i64 x.mx]) (t := 59) ?_; exact ⟨rfl, rfl, rfl, rfl⟩) (unhide hone) (by decide) (by unfold maxLen; omega) (by omega) (by show w.heap.size ≤ (w1.alloc _).heap.size; rw [sz_alloc]; omega) (w1.heap.size + 1) (sz_alloc w1 _) (fun g cap' w' q1 q2 q3 q4 => ?_); have hs := hide (unhide hst _ w' (.slice (some ⟨g, 0, none⟩) (ps.length + 1) cap') (.cells #[.int .i64 x.kind, .slice sa' x.set.length sc', .int .i64 x.mn, .int .i64 x.mx] 59) (by exact ⟨rfl, rfl, rfl, rfl⟩) q1 q2 (q3.elim (fun e => Or.inl e.symm) (fun e => Or.inr (by subst e; simp [Value.ownBlock])))); clear q1 q2 q3 q4)
      all_goals
        go_wp2
        exact ⟨⟨ps.length + 1, by omega, by go_num, (unhide hs).1, hb.trans (unhide hs).2⟩, by simp [intOf]; omega⟩
    · obtain rfl : k = xs.length := by omega
      rw [List.take_length] at hgr
      have Hgr := hide hgr
      clear hc hgr
      go_wp2
      go_ret
      exact ⟨_, rfl, unhide Hgr, hb⟩

end Go.Proofs.YtjefklagedidmaaGreat

namespace Go.Proofs.YtjefklagedidmaaGreat
open Go.RowKit

theorem SlF.none (w : World) : SlF mI 0 (fun _ => False) w (.slice none 0 0) [] := ⟨0, 0, ⟨.none, 0, rfl, Nat.zero_le _, fun h => absurd h (by simp)⟩, fun k h1 h2 => by omega⟩

/-- One element more. -/
theorem app_op {base : Nat} {wr w1 W : World} {ops : Array Oper} {rest : List Oper} {o : Oper} {a : Act} {Q : Exit → Act → World → Prop} {v : Value} {ps : List Pc} (x : El) (sv : Value) (T : Nat → Prop) (hgd : o.guard = none) (s y : Operand)
    (ho : o.op = .call { callee := .builtin .append, args := #[s, y], argTypes := #[30, 30] }) (hs : a.eval s = v) (hy : a.eval y = .slice (some ⟨w1.heap.size, 0, none⟩) 1 1)
    (h : GrowP base wr v ps) (hbase : base ≤ wr.heap.size) (hb : Below wr.heap.size wr w1) (hsl : SlF mI 0 T w1 sv x.set) (hT : ∀ k, T k → wr.heap.size ≤ k ∧ k < w1.heap.size) (h1c : sv.oneCell' = true)
    (hP : Pushd w1 W (.cells #[.int .i64 x.kind, sv, .int .i64 x.mn, .int .i64 x.mx] 59)) (hlen : ps.length ≤ 16777216)
    (K : ∀ v' w', GrowP base w' v' (ps ++ [⟨x, sv, T⟩]) → Below base wr w' → wpList Tryz.prog ops Q rest (a.put o.dst v') w') : wpList Tryz.prog ops Q (o :: rest) a W := by
  obtain ⟨j0, hj, hy0, hy1, hy2⟩ := info_parts Tryz.zinOp
  have hown := hP.own (own_keep h.own hb (Nat.le_refl _))
  refine wpList_append_own_at W hgd s y 30 ho base 59 j0 (.agg #[.int .i64 0, .slice none 0 0, .int .i64 0, .int .i64 0]) 4 48 Tryz.underlying30 hj hy0 hy1 hy2 rfl (by decide) v ps.length (cellsP ps) hs hown ⟨w1.heap.size, 0, none⟩ 1 1 (cell4 x sv) hy rfl ?_ ?_ ?_ ?_ ?_ ?_
  · exact Pushd.news hP
  · intro u hu
    simp only [cell4, List.mem_cons, List.not_mem_nil, or_false] at hu
    rcases hu with rfl | rfl | rfl | rfl
    · rfl
    · exact h1c
    · rfl
    · rfl
  · unfold maxLen; omega
  · omega
  · have := hP.size; have := hb.size; omega
  · intro v' w' q1 q2 _ q3
    obtain ⟨r1, r2⟩ := h.app1 hbase hb hsl hT hP q1 q2 q3
    exact K v' w' r1 r2

/-- All of another list's elements more. -/
theorem app_ops {base : Nat} {wr W : World} {ops : Array Oper} {rest : List Oper} {o : Oper} {a : Act} {Q : Exit → Act → World → Prop} {v u : Value} {ps qs : List Pc} (hgd : o.guard = none) (s y : Operand)
    (ho : o.op = .call { callee := .builtin .append, args := #[s, y], argTypes := #[30, 30] }) (hs : a.eval s = v) (hy : a.eval y = u)
    (h : GrowP base wr v ps) (hbase : base ≤ wr.heap.size) (hb : Below wr.heap.size wr W) (hq : GrowP wr.heap.size W u qs) (hq1 : ∀ p ∈ qs, p.s.oneCell' = true) (hlen : ps.length ≤ 16777216) (hlen2 : qs.length ≤ 16777216)
    (K : ∀ v' w', GrowP base w' v' (ps ++ qs) → Below base wr w' → wpList Tryz.prog ops Q rest (a.put o.dst v') w') : wpList Tryz.prog ops Q (o :: rest) a W := by
  obtain ⟨j0, hj, hy0, hy1, hy2⟩ := info_parts Tryz.zinOp
  have hown := own_keep h.own hb (Nat.le_refl _)
  rcases hq.own.2 with ⟨rfl, hz⟩ | ⟨g, cap, cur, rfl, hbg, hgc, hnc, hcm, hcs, htake⟩
  · obtain rfl : qs = [] := List.eq_nil_of_length_eq_zero hz
    refine wpList_append_none_c hgd s y 30 ho base 59 j0 4 Tryz.underlying30 hj v ps.length (cellsP ps) hs hown 0 hy (K v W ?_ (hb.mono hbase))
    rw [List.append_nil]
    exact h.keep hb (Nat.le_refl _)
  · refine wpList_append_own_at W hgd s y 30 ho base 59 j0 (.agg #[.int .i64 0, .slice none 0 0, .int .i64 0, .int .i64 0]) 4 48 Tryz.underlying30 hj hy0 hy1 hy2 rfl (by decide) v ps.length (cellsP ps) hs hown ⟨g, 0, none⟩ qs.length cap (cellsP qs) hy (cellsP_len qs) ?_ (cellsP_one qs hq1) ?_ ?_ ?_ ?_
    · intro j y hj2
      have e3 : (⟨g, 0, none⟩ : Addr).add j = ⟨g, j, none⟩ := by cases j <;> simp [Addr.add]
      rw [e3, hq.own.cellAt j (by have := (List.getElem?_eq_some_iff.1 hj2).1; rw [cellsP_len] at this; exact this)]
      exact hj2
    · unfold maxLen; omega
    · omega
    · have := hb.size; omega
    · intro v' w' q1 q2 _ q3
      exact K v' w' (h.app hbase hb hq.set (fun p hp k hk => ⟨(hq.blk p hp k hk).1, (hq.blk p hp k hk).2.1⟩) hq.dis q1 q2 q3) ((hb.mono hbase).grown q2 (by have := hb.size; omega) (fun k hk => (h.own.lt k hk).1))

theorem Pc.one {w : World} {p : Pc} (h : SlF mI 0 p.T w p.s p.x.set) : p.s.oneCell' = true := by
  obtain ⟨a, c, e⟩ := h.val
  rw [e]; rfl

set_option maxHeartbeats 2000000 in
theorem l1bin_w (k : Int) (vx vy : Value) (xs ys : List El) (w : World) (hx : ElsAt 0 w.heap.size w vx xs) (hy : ElsAt 0 w.heap.size w vy ys) (hlx : xs.length ≤ 1048576) (hly : ys.length ≤ 1048576) (hsx : ∀ i : Nat, (xs[i]?.getD dE).set.length ≤ 1048576) (hsy : ∀ i : Nat, (ys[i]?.getD dE).set.length ≤ 1048576) :
    Calls Tryz.prog 61 #[.int .i64 k, vx, vy] w fun e w' => ∃ v', e = .returned v' ∧ GrowE w.heap.size w' v' (xs ++ ys ++ [⟨k, [], 0, 0⟩]) ∧ Below w.heap.size w w' := by
  obtain ⟨a1, c1, rfl, -, -⟩ := id hx
  obtain ⟨a2, c2, rfl, -, -⟩ := id hy
  have Hx := hide hx
  have Hy := hide hy
  have Sx := hide hsx
  have Sy := hide hsy
  clear hx hy hsx hsy
  go_enter Tryz.func61, Tryz.ntmps61
  go_wp2_with fail
  refine (l1copy_w _ xs _ (unhide Hx) hlx (unhide Sx)).mono ?_
  rintro e w1 ⟨v1, rfl, hg1, hb1⟩
  obtain ⟨o1, d1, rfl⟩ := hg1.form
  obtain ⟨ps, hps, hg1⟩ := hg1
  have hpl : ps.length = xs.length := by rw [← hps, List.length_map]
  have Hg1 := hide hg1
  have Hps := hide hps
  have hz1 := hb1.size
  clear hg1 hps
  go_wp2_with fail
  refine (l1copy_w _ ys _ (by exact (unhide Hy).below hb1 (Nat.le_refl _)) hly (unhide Sy)).mono ?_
  rintro e w2 ⟨v2, rfl, hg2, hb2⟩
  obtain ⟨o2, d2, rfl⟩ := hg2.form
  obtain ⟨qs, hqs, hg2⟩ := hg2
  have hql : qs.length = ys.length := by rw [← hqs, List.length_map]
  have Hg2 := hide hg2
  have Hqs := hide hqs
  clear hg2 hqs
  go_wp2_with (at_builtin; refine app_ops rfl _ _ rfl rfl rfl (unhide Hg1) hz1 hb2 (unhide Hg2) (fun p hp => Pc.one ((unhide Hg2).set p hp)) (by omega) (by omega) ?_)
  intro v3 w3 hg3 hb3
  obtain ⟨o3, d3, rfl⟩ := own_is hg3.own
  have Hg3 := hide hg3
  have hB3 : Below w.heap.size w w3 := hb1.trans hb3
  have hz3 := hB3.size
  clear hg3
  go_wp2_with (at_builtin; refine app_op ⟨k, [], 0, 0⟩ (.slice none 0 0) (fun _ => False) rfl _ _ rfl rfl rfl (unhide Hg3) hz3 (Below.refl _ _) (SlF.none _) (fun k hk => hk.elim) rfl ⟨rfl, rfl, rfl, rfl⟩ (by rw [List.length_append]; omega) ?_)
  intro v4 w4 hg4 hb4
  have hfin : Hid (GrowE w.heap.size w4 v4 (xs ++ ys ++ [⟨k, [], 0, 0⟩])) := ⟨_, by simp [unhide Hps, unhide Hqs], hg4⟩
  clear hg4
  go_wp2
  go_ret
  exact ⟨_, rfl, unhide hfin, hB3.trans hb4⟩

set_option maxHeartbeats 2000000 in
theorem l1alt_w (vx vy : Value) (xs ys : List El) (w : World) (hx : ElsAt 0 w.heap.size w vx xs) (hy : ElsAt 0 w.heap.size w vy ys) (hlx : xs.length ≤ 1048576) (hly : ys.length ≤ 1048576) (hsx : ∀ i : Nat, (xs[i]?.getD dE).set.length ≤ 1048576) (hsy : ∀ i : Nat, (ys[i]?.getD dE).set.length ≤ 1048576) :
    Calls Tryz.prog 64 #[vx, vy] w fun e w' => ∃ v', e = .returned v' ∧ GrowE w.heap.size w' v' (xs ++ ys ++ [⟨3, [], 0, 0⟩]) ∧ Below w.heap.size w w' := by
  obtain ⟨a1, c1, rfl, -, -⟩ := id hx
  obtain ⟨a2, c2, rfl, -, -⟩ := id hy
  have Hx := hide hx
  have Hy := hide hy
  have Sx := hide hsx
  have Sy := hide hsy
  clear hx hy hsx hsy
  go_enter Tryz.func64, Tryz.ntmps64
  go_wp2_with fail
  refine (l1bin_w 3 _ _ xs ys _ (unhide Hx) (unhide Hy) hlx hly (unhide Sx) (unhide Sy)).mono ?_
  rintro e w1 ⟨v1, rfl, hg1, hb1⟩
  have Hg1 := hide hg1
  clear hg1
  go_wp2
  go_ret
  exact ⟨_, rfl, unhide Hg1, hb1⟩

set_option maxHeartbeats 2000000 in
theorem l1rep_w (lo hi : Int) (vx : Value) (xs : List El) (w : World) (hx : ElsAt 0 w.heap.size w vx xs) (hlx : xs.length ≤ 1048576) (hsx : ∀ i : Nat, (xs[i]?.getD dE).set.length ≤ 1048576) :
    Calls Tryz.prog 63 #[vx, .int .i64 lo, .int .i64 hi] w fun e w' => ∃ v', e = .returned v' ∧ GrowE w.heap.size w' v' (xs ++ [⟨4, [], lo, hi⟩]) ∧ Below w.heap.size w w' := by
  obtain ⟨a1, c1, rfl, -, -⟩ := id hx
  have Hx := hide hx
  have Sx := hide hsx
  clear hx hsx
  go_enter Tryz.func63, Tryz.ntmps63
  go_wp2_with fail
  refine (l1copy_w _ xs _ (unhide Hx) hlx (unhide Sx)).mono ?_
  rintro e w1 ⟨v1, rfl, hg1, hb1⟩
  obtain ⟨o1, d1, rfl⟩ := hg1.form
  obtain ⟨ps, hps, hg1⟩ := hg1
  have hpl : ps.length = xs.length := by rw [← hps, List.length_map]
  have Hg1 := hide hg1
  have Hps := hide hps
  have hz1 := hb1.size
  clear hg1 hps
  go_wp2_with (at_builtin; refine app_op ⟨4, [], lo, hi⟩ (.slice none 0 0) (fun _ => False) rfl _ _ rfl rfl rfl (unhide Hg1) hz1 (Below.refl _ _) (SlF.none _) (fun k hk => hk.elim) rfl ⟨rfl, rfl, rfl, rfl⟩ (by omega) ?_)
  intro v4 w4 hg4 hb4
  have hfin : Hid (GrowE w.heap.size w4 v4 (xs ++ [⟨4, [], lo, hi⟩])) := ⟨_, by simp [unhide Hps], hg4⟩
  clear hg4
  go_wp2
  go_ret
  exact ⟨_, rfl, unhide hfin, hb1.trans hb4⟩

theorem GrowE.lit (w : World) : GrowE w.heap.size (w.alloc (.cells #[.int .i64 0, .slice none 0 0, .int .i64 0, .int .i64 0] 59)) (.slice (some ⟨w.heap.size, 0, none⟩) 1 1) [⟨0, [], 0, 0⟩] := by
  refine ⟨[⟨⟨0, [], 0, 0⟩, .slice none 0 0, fun _ => False⟩], rfl, World.ownsRow_lit w _ 1 (Nat.le_refl _) (by unfold maxLen; omega) rfl, fun p hp => ?_, fun p hp k hk => ?_, List.pairwise_singleton _ _⟩
  · obtain rfl := List.mem_singleton.1 hp
    exact SlF.none _
  · obtain rfl := List.mem_singleton.1 hp
    exact hk.elim

set_option maxHeartbeats 2000000 in
theorem l1empty_w (w : World) : Calls Tryz.prog 62 #[] w fun e w' => ∃ v', e = .returned v' ∧ GrowE w.heap.size w' v' [⟨0, [], 0, 0⟩] ∧ Below w.heap.size w w' := by
  have hl := hide (GrowE.lit w)
  go_enter Tryz.func62, Tryz.ntmps62
  go_wp2
  go_ret
  exact ⟨_, rfl, unhide hl, below1 w _⟩

end Go.Proofs.YtjefklagedidmaaGreat

namespace Go.Proofs.YtjefklagedidmaaGreat
open Go.RowKit

/-- Lists of elements whose numbers lie within 64 bits, with sets of a bounded length. -/
structure Nice (xs : List El) : Prop where
  num : Num xs
  len : ∀ i : Nat, (xs[i]?.getD dE).set.length ≤ 1048576
theorem Nice.nil : Nice [] := ⟨fun i => by simp [dE, In64], fun i => by simp [dE]⟩
theorem Nice.app {a b : List El} (ha : Nice a) (hb : Nice b) : Nice (a ++ b) := by
  refine ⟨fun i => ?_, fun i => ?_⟩
  · by_cases h : i < a.length
    · rw [List.getElem?_append_left h]; exact ha.num i
    · rw [List.getElem?_append_right (by omega)]; exact hb.num _
  · by_cases h : i < a.length
    · rw [List.getElem?_append_left h]; exact ha.len i
    · rw [List.getElem?_append_right (by omega)]; exact hb.len _
theorem Nice.op (k mn mx : Int) (h1 : In64 k) (h2 : In64 mn) (h3 : In64 mx) : Nice [⟨k, [], mn, mx⟩] := by
  refine ⟨fun i => ?_, fun i => ?_⟩
  · cases i with
    | zero => exact ⟨h1, h2, h3, fun j => by simp [In64]⟩
    | succ i => simp [dE, In64]
  · cases i with
    | zero => simp
    | succ i => simp [dE]
theorem GrowE.els {base : Nat} {w : World} {v : Value} {xs : List El} (h : GrowE base w v xs) (hn : Nice xs) : ElsAt 0 w.heap.size w v xs := h.foot.at (fun _ hk => hk.2) hn.num

/-- The model expands this list to that. -/
def XpS (l L : List El) : Prop := ∀ (v : Value) (w : World), ElsAt 0 w.heap.size w v l → l.length ≤ 3000 → Calls Tryz.prog 30 #[v] w fun e w' => ∃ v', e = .returned v' ∧ GrowE w.heap.size w' v' L ∧ Below w.heap.size w w'

set_option maxHeartbeats 2000000 in
theorem xpS_leaf (x : El) (hk : x.kind = 0 ∨ x.kind = 1) (hs : x.set.length ≤ 1048576) : XpS [x] [x] := by
  intro v w hv hlen
  have hv0 := hv
  obtain ⟨a, cp, rfl, -, -⟩ := id hv
  obtain ⟨hlen2, hcap, b, off, rfl, hbn, hel⟩ := ElsAt.last (p := []) hv
  simp only [List.length_singleton, List.length_nil, Nat.zero_mul, Nat.add_zero] at hel hv hv0 ⊢
  obtain ⟨i1, i2, i3, sv, c0, c1, c2, c3, hints⟩ := hel
  obtain ⟨sa, sc, rfl, -, -, -⟩ := id hints
  have Hv := hide (hv.below (below1 w (.cells #[.int .i64 x.kind, .slice sa x.set.length sc, .int .i64 x.mn, .int .i64 x.mx] 59)) (Nat.le_refl _))
  have Hs : Hid (∀ i : Nat, (([x] : List El)[i]?.getD dE).set.length ≤ 1048576) := fun i => by
    cases i with
    | zero => exact hs
    | succ i => simp [dE]
  clear hv hv0 hints i1 i2 i3
  rcases hk with hk | hk
  · rw [hk] at c0
    have Hk := hide hk
    rw [hk] at Hv
    clear hk
    go_enter Tryz.func30, Tryz.ntmps30
    go_wp2_with fail
    refine (l1copy_w _ [x] _ (unhide Hv) (by simp) (unhide Hs)).mono ?_
    rintro e w1 ⟨v1, rfl, hg1, hb1⟩
    have hB : Below w.heap.size w w1 := (below1 w _).trans (hb1.mono (by rw [sz_alloc]; omega))
    have Hg1 : Hid (GrowE w.heap.size w1 v1 [x]) := hg1.base (by rw [sz_alloc]; omega)
    clear hg1
    go_wp2
    go_ret
    exact ⟨_, rfl, unhide Hg1, hB⟩
  · rw [hk] at c0
    have Hk := hide hk
    rw [hk] at Hv
    clear hk
    go_enter Tryz.func30, Tryz.ntmps30
    go_wp2_with fail
    refine (l1copy_w _ [x] _ (unhide Hv) (by simp) (unhide Hs)).mono ?_
    rintro e w1 ⟨v1, rfl, hg1, hb1⟩
    have hB : Below w.heap.size w w1 := (below1 w _).trans (hb1.mono (by rw [sz_alloc]; omega))
    have Hg1 : Hid (GrowE w.heap.size w1 v1 [x]) := hg1.base (by rw [sz_alloc]; omega)
    clear hg1
    go_wp2
    go_ret
    exact ⟨_, rfl, unhide Hg1, hB⟩

set_option maxHeartbeats 2000000 in
theorem xpS_bin (k : Int) (hk : k = 2 ∨ k = 3) (l r L R : List El) (cl cr : Int) (sl : SegM l cl) (sr : SegM r cr) (Hl : XpS l L) (Hr : XpS r R) (nl : Nice L) (nr : Nice R) (ll : L.length ≤ 3000) (lr : R.length ≤ 3000) : XpS (l ++ r ++ [⟨k, [], 0, 0⟩]) (L ++ R ++ [⟨k, [], 0, 0⟩]) := by
  intro v w hv hlen
  have hv0 := hv
  obtain ⟨a, cp, rfl, -, -⟩ := id hv
  obtain ⟨hlen2, hcap, b, off, rfl, hbn, hel⟩ := hv.last
  rw [hlen2] at hv hv0 hcap ⊢
  simp only [List.length_append, List.length_singleton] at hv hv0 hlen hlen2 hel hcap ⊢
  unfold maxLen at hcap
  obtain ⟨i1, i2, i3, sv, c0, c1, c2, c3, hints⟩ := hel
  obtain ⟨sa, sc, rfl, -, -, -⟩ := id hints
  simp only at c0 c2 c3
  clear hlen2 i1 i2 i3 hints
  have e1 : (((l.length + r.length + 1 : Nat) : Int) - 1) = ((l.length + r.length : Nat) : Int) := by omega
  have pl := sl.ne
  have pr := sr.ne
  have hvL : ElsAt 0 w.heap.size w (.slice (some ⟨b, off, none⟩) l.length cp) (l) := by rw [List.append_assoc] at hv0; exact hv0.pre
  have hvR := hv0.mid (cap' := cp - l.length) (by unfold maxLen; omega)
  have HvL := hide hvL
  have HvR := hide hvR
  have Hv0 := hide hv0
  have NL := hide nl
  have NR := hide nr
  clear hvL hvR hv hv0 nl nr
  rcases hk with rfl | rfl
  all_goals
    go_enter Tryz.func30, Tryz.ntmps30
    go_wp2_with fail
    refine (l1start_bin _ l r cr _ _ _ sr (by exact (unhide Hv0).below (below1 w _) (Nat.le_refl _)) (by omega) rfl).mono ?_
    rintro e w1 ⟨rfl, rfl⟩
    go_wp2_with fail
    refine (Hl _ _ (by exact (unhide HvL).below (below1 w _) (Nat.le_refl _)) (by omega)).mono ?_
    rintro e w1 ⟨v1, rfl, hg1, hb1⟩
    obtain ⟨o1, d1, rfl⟩ := hg1.form
    have hB1 : Below w.heap.size w w1 := (below1 w _).trans (hb1.mono (by rw [sz_alloc]; omega))
    have Hg1 := hide hg1
    have Hb1 := hide hb1
    clear hb1 hg1
    go_wp2_with fail
    refine (Hr _ _ (by exact (unhide HvR).below hB1 (Nat.le_refl _)) (by omega)).mono ?_
    rintro e w2 ⟨v2, rfl, hg2, hb2⟩
    obtain ⟨o2, d2, rfl⟩ := hg2.form
    have hB2 : Below w.heap.size w w2 := hB1.trans (hb2.mono hB1.size)
    have hX := hide (((unhide Hg1).keep hb2 (Nat.le_refl _)).els (unhide NL))
    have hY := hide (hg2.els (unhide NR))
    have hz1 := (unhide Hb1).size
    obtain ⟨hcc, -⟩ := bcell ((unhide Hb1).trans (hb2.mono hz1))
    simp only [sz_alloc] at hcc
    clear hb2 hg2 hz1
    go_wp2_with fail
    refine (l1bin_w _ _ _ L R _ (unhide hX) (unhide hY) (by omega) (by omega) (unhide NL).len (unhide NR).len).mono ?_
    rintro e w3 ⟨v3, rfl, hg3, hb3⟩
    have Hg3 := hide (hg3.base hB2.size)
    have hB3 : Below w.heap.size w w3 := hB2.trans (hb3.mono hB2.size)
    clear hg3 hb3 hcc
    go_wp2
    go_ret
    exact ⟨_, rfl, unhide Hg3, hB3⟩

end Go.Proofs.YtjefklagedidmaaGreat
