import Derived.Test.YtkajdhliejjohaaP8
import Derived.Test.YtkajdhliejjohaaP2
import Derived.Test.YtkajdhliejjohaaP1
namespace Go.Proofs.Ytkajdhliejjohaa
open Go.RowKit

theorem equal_yes' (u v : Value) (xs ys : List Int) (N : Nat) (w : World) (hu : SlAt mI 0 0 N w u xs) (hv : SlAt mI 0 0 N w v ys) (hN : N ≤ w.heap.size) (h : xs = ys) :
    Calls Try.prog 47 #[u, v] w fun e w' => e = .returned (.bool true) ∧ ∃ q, w' = w.drewN q :=
  (equal_any u v xs ys w (hu.mono (Nat.le_refl _) hN) (hv.mono (Nat.le_refl _) hN)).mono (fun e w' ⟨h1, h2⟩ => by
    rcases h1.cases with ⟨h', -⟩ | ⟨-, h'⟩
    · exact ⟨h', h2⟩
    · exact absurd h h')
theorem equal_no' (u v : Value) (xs ys : List Int) (N : Nat) (w : World) (hu : SlAt mI 0 0 N w u xs) (hv : SlAt mI 0 0 N w v ys) (hN : N ≤ w.heap.size) (h : ¬ xs = ys) :
    Calls Try.prog 47 #[u, v] w fun e w' => e = .returned (.bool false) ∧ ∃ q, w' = w.drewN q :=
  (equal_any u v xs ys w (hu.mono (Nat.le_refl _) hN) (hv.mono (Nat.le_refl _) hN)).mono (fun e w' ⟨h1, h2⟩ => by
    rcases h1.cases with ⟨-, h'⟩ | ⟨h', -⟩
    · exact absurd h' h
    · exact ⟨h', h2⟩)

set_option maxHeartbeats 2000000 in
set_option maxRecDepth 100000 in
theorem equalFunc_any (u v : Value) (pss pss' : List (List Int)) (w : World) (hu : SsAt mI 0 w.heap.size w u pss) (hv : SsAt mI 0 w.heap.size w v pss') :
    Calls Try.prog 48 #[u, v, .func (.func 47) #[] #[]] w fun e w' => RetB e (pss = pss') ∧ ∃ q, w' = w.drewN q := by
  have HU := hide hu
  have HV := hide hv
  obtain ⟨a, cap, rfl, hl, -⟩ := hu
  obtain ⟨a2, cap2, rfl, hl2, -⟩ := hv
  unfold maxLen at hl hl2
  by_cases hn : pss.length = pss'.length
  · have hn' : ((pss.length : Int) != (pss'.length : Int)) = false := by simp [hn]
    have HN := hide hn
    have hle1 : pss.length ≤ pss'.length := by omega
    clear hn
    go_enter Try.func48, Try.ntmps48
    go_wp2_with fail
    go_loopw [17] (fun iv wr => (∃ k : Nat, k ≤ pss.length ∧ iv = .int .i64 k ∧ ∀ j : Nat, j < k → pss[j]?.getD [] = pss'[j]?.getD []) ∧ ∃ q, wr = w.drewN q) (fun iv _ => pss.length - (intOf iv).toNat)
    case atStart => exact ⟨⟨0, Nat.zero_le _, rfl, fun j hj => absurd hj (Nat.not_lt_zero _)⟩, 0, rfl⟩
    case round =>
      obtain ⟨⟨k, hk, rfl, hp⟩, q2, rfl⟩ := hrel
      have Hp := hide hp
      clear hp
      by_cases hlt : k < pss.length
      · have hlt' : (k : Int) < (pss.length : Int) := by omega
        have hlt2 : (k : Int) < (pss'.length : Int) := by omega
        obtain ⟨_, _, e1, -, hc⟩ := unhide HU
        cases e1
        obtain ⟨_, _, e2, -, hc'⟩ := unhide HV
        cases e2
        obtain ⟨b, off, rfl, -, hcell⟩ := hc (by omega)
        obtain ⟨s, hx, hs, -⟩ := hcell k hlt
        obtain ⟨b', off', rfl, -, hcell'⟩ := hc' (by omega)
        obtain ⟨s', hx', hs', -⟩ := hcell' k (by omega)
        have Hs := hide hs
        have Hs' := hide hs'
        obtain ⟨sa, sc, rfl, -, -⟩ := hs
        obtain ⟨sa', sc', rfl, -, -⟩ := hs'
        have Hyes : Hid (pss[k]?.getD [] = pss'[k]?.getD [] → ∀ j : Nat, j < k + 1 → pss[j]?.getD [] = pss'[j]?.getD []) := fun h j hj => by
          by_cases e : j = k
          · subst e; exact h
          · exact unhide Hp j (by omega)
        have Hno : Hid (pss[k]?.getD [] ≠ pss'[k]?.getD [] → ¬ pss = pss') := fun h e => h (by rw [e])
        clear hcell hcell' hc hc' Hp
        generalize pss[k]?.getD [] = x at *
        generalize pss'[k]?.getD [] = y at *
        by_cases hxy : x = y
        · have HE := hide hxy
          have HN2 := hide (unhide Hyes hxy)
          clear hxy Hyes Hno
          go_wp2_with fail
          refine (equal_yes' _ _ x y w.heap.size (w.drewN q2) ((unhide Hs).drewN q2) ((unhide Hs').drewN q2) (Nat.le_refl _) (unhide HE)).mono ?_
          rintro e w1 ⟨rfl, q3, rfl⟩
          go_wp2
          go_roundw
          case rel => exact ⟨⟨k + 1, by omega, by go_num, unhide HN2⟩, q2 + q3, rfl⟩
          case measure => simp [intOf]; omega
        · have HE := hide hxy
          have HN2 := hide (unhide Hno hxy)
          clear hxy Hyes Hno
          go_wp2_with fail
          refine (equal_no' _ _ x y w.heap.size (w.drewN q2) ((unhide Hs).drewN q2) ((unhide Hs').drewN q2) (Nat.le_refl _) (unhide HE)).mono ?_
          rintro e w1 ⟨rfl, q3, rfl⟩
          go_wp2
          go_ret
          exact ⟨RetB.no (unhide HN2), q2 + q3, rfl⟩
      · obtain rfl : k = pss.length := by omega
        have HY : Hid (pss = pss') := List.ext_getElem (unhide HN) (fun j h1 h2 => by
          have := unhide Hp j h1
          rwa [List.getElem?_eq_getElem h1, List.getElem?_eq_getElem h2] at this)
        go_wp2
        go_ret
        exact ⟨RetB.yes (unhide HY), q2, rfl⟩
  · have hn' : ((pss.length : Int) != (pss'.length : Int)) = true := by simp; omega
    go_enter Try.func48, Try.ntmps48
    go_wp2
    go_ret
    exact ⟨RetB.no (fun h => hn (by rw [h])), 0, rfl⟩

end Go.Proofs.Ytkajdhliejjohaa
