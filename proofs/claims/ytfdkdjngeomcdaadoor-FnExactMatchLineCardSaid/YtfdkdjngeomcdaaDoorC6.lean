import Derived.Test.YtfdkdjngeomcdaaDoorP5
namespace Go.Proofs.YtfdkdjngeomcdaaDoor
open Go.RowKit

set_option maxHeartbeats 2000000 in
theorem l1treeOK_any (v : Value) (xs : List El) (w : World) (hv : ElsAt 0 w.heap.size w v xs) :
    Calls Tryd.prog 21 #[v] w fun e w' => RetB e (ValidT xs) ∧ Below w.heap.size w w' := by
  have hv0 := hv
  obtain ⟨a, cp, rfl, hl, hc⟩ := hv
  unfold maxLen at hl
  by_cases n1 : xs.length < 1
  · have n1' : (xs.length : Int) < 1 := by omega
    go_enter Tryd.func21, Tryd.ntmps21
    go_wp2
    go_ret
    exact ⟨RetB.no (fun h => by have := h.1; omega), Below.refl _ _⟩
  · have n1' : ¬ (xs.length : Int) < 1 := by omega
    by_cases n2 : 3000 < xs.length
    · have n2' : 3000 < (xs.length : Int) := by omega
      go_enter Tryd.func21, Tryd.ntmps21
      go_wp2
      go_ret
      exact ⟨RetB.no (fun h => by have := h.1; omega), Below.refl _ _⟩
    · have n2' : ¬ 3000 < (xs.length : Int) := by omega
      have Hv0 := hide hv0
      clear hv0
      go_enter Tryd.func21, Tryd.ntmps21
      go_wp2
      go_loopw [3] (fun i wr => ∃ k : Nat, k ≤ xs.length ∧ i = .int .i64 k ∧ (∀ j : Nat, j < k → ElOk (xs[j]?.getD dE)) ∧ Below w.heap.size w wr) (fun i _ => xs.length - (intOf i).toNat)
      case atStart => exact ⟨0, Nat.zero_le _, rfl, fun j hj => absurd hj (Nat.not_lt_zero _), Below.refl _ _⟩
      case round =>
        obtain ⟨k, hk, rfl, hok, hb⟩ := hrel
        have Hok := hide hok
        clear hok
        by_cases hlt : k < xs.length
        · obtain ⟨b, off, rfl, -, hbn, hel⟩ := hc (by omega)
          obtain ⟨i1, i2, i3, v, c0, c1, c2, c3, hints⟩ := (hel k hlt).same (Same.of_below hb (Nat.le_refl _)) (Nat.zero_le _) hbn
          have hlt' : (k : Int) < (xs.length : Int) := by omega
          generalize hX : xs[k]?.getD dE = x at *
          have HX := hide hX
          clear hX hel
          obtain ⟨a', cap', rfl, -, -, -⟩ := id hints
          go_wp2_with fail
          refine (l1opOK_any _ x _ (hints.mono (Nat.le_refl _) hb.size)).mono ?_
          rintro e w1 ⟨hret, hb1⟩
          have hB1 := hb.trans (hb1.mono hb.size)
          rcases hret.cases with ⟨rfl, hgood⟩ | ⟨rfl, hbad⟩
          · have Hgood := hide hgood
            clear hgood hb1
            go_wp2
            go_roundw
            case rel => exact ⟨k + 1, by omega, by go_num, fun j hj => by
              by_cases e : j = k
              · subst e; rw [unhide HX]; exact unhide Hgood
              · exact unhide Hok j (by omega), hB1⟩
            case measure => simp [intOf]; omega
          · have Hbad := hide hbad
            clear hbad hb1
            go_wp2
            go_ret
            exact ⟨RetB.no (fun h => by have := h.2.1 k hlt; rw [unhide HX] at this; exact unhide Hbad this), hB1⟩
        · obtain rfl : k = xs.length := by omega
          have hv1 := (unhide Hv0).below hb (Nat.le_refl _)
          go_wp2_with fail
          refine (l1shape_any _ xs _ hv1 (by omega)).mono ?_
          rintro e w1 ⟨hret, rfl⟩
          rcases hret.cases with ⟨rfl, hgood⟩ | ⟨rfl, hbad⟩
          · obtain ⟨c, hseg, hsz⟩ := exists_seg (unhide Hok) hgood
            have Hgood := hide hgood
            have Hrun := hide (hseg.run [])
            have hts := hseg.bd
            clear hgood hseg
            go_wp2_with fail
            refine (hsz _ _ hv1 (by omega)).mono ?_
            rintro e w2 ⟨rfl, hb2⟩
            have hB2 := hb.trans (hb2.mono hb.size)
            clear hb2 hv1 hsz
            go_wp2
            go_ret
            refine ⟨RetB.of ?_, hB2⟩
            rw [decide_eq_true_iff]
            exact ⟨fun h => ⟨⟨by omega, by omega⟩, unhide Hok, unhide Hgood, c, unhide Hrun, h⟩, fun ⟨_, _, _, u, hu, hus⟩ => by rw [unhide Hrun] at hu; simp only [List.cons.injEq, and_true] at hu; omega⟩
          · have Hbad := hide hbad
            clear hbad hv1
            go_wp2
            go_ret
            exact ⟨RetB.no (fun h => unhide Hbad h.2.2.1), hb⟩

set_option maxHeartbeats 400000 in
theorem specValid_any (l r : Bool) (v : Value) (xs : List El) (w : World) (hv : ElsAt 0 w.heap.size w v xs) :
    Calls Tryd.prog 12 #[.agg #[.bool l, .bool r, v]] w fun e w' => RetB e (ValidT xs) ∧ Below w.heap.size w w' := by
  obtain ⟨a, cp, rfl, -, -⟩ := id hv
  have Hv := hide hv
  clear hv
  go_enter Tryd.func12, Tryd.ntmps12
  go_wp2_with fail
  refine (l1treeOK_any _ xs _ (by exact (unhide Hv).below (below1 w _) (Nat.le_refl _))).mono ?_
  rintro e w1 ⟨hret, hb1⟩
  have hB1 : Below w.heap.size w w1 := (below1 w _).trans (hb1.mono (by rw [sz_alloc]; omega))
  rcases hret.cases with ⟨rfl, hgood⟩ | ⟨rfl, hbad⟩
  · have Hgood := hide hgood
    clear hgood hb1
    go_wp2
    go_ret
    exact ⟨RetB.yes (unhide Hgood), hB1⟩
  · have Hbad := hide hbad
    clear hbad hb1
    go_wp2
    go_ret
    exact ⟨RetB.no (unhide Hbad), hB1⟩

end Go.Proofs.YtfdkdjngeomcdaaDoor
