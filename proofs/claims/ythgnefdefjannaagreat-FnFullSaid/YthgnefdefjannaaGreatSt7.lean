import Derived.Test.YthgnefdefjannaaGreatSt5
import Derived.Test.YthgnefdefjannaaGreatSt6
import Derived.Deep.RegionHeld3
namespace Go.Proofs.YthgnefdefjannaaGreat
open Go.RowKit

theorem Mv.put {lo D o : Nat} {w w' : World} {u : Value} (h : Mv lo D w w') : Mv lo D w (w'.setCell ⟨D, o, none⟩ u) :=
  h.trans ⟨rfl, rfl, rfl, by simp [World.setCell], fun k _ hk => Below.heap_setCell _ _ _ _ (by exact hk)⟩
theorem Mv.drewN {lo D : Nat} {w w' : World} (h : Mv lo D w w') (q : Nat) : Mv lo D w (w'.drewN q) := ⟨h.os, h.tape, h.output, h.size, h.block⟩

theorem holds_yes (v : Value) (x : List Int) (N : Nat) (w : World) (hv : SlAt mB 0 0 N w v x) (hb : Bytes x) (h : 10 ∈ x) :
    Calls Tryz.prog 51 #[v] w fun e w' => e = .returned (.bool true) ∧ w' = w :=
  (holdsNewline_any v x N w hv hb).mono (fun e w' ⟨h1, h2⟩ => ⟨by rw [h1, decide_eq_true]; by_cases q : ix x < 0; exact absurd h ((ix_iff x).1 q); omega, h2⟩)
theorem holds_no (v : Value) (x : List Int) (N : Nat) (w : World) (hv : SlAt mB 0 0 N w v x) (hb : Bytes x) (h : 10 ∉ x) :
    Calls Tryz.prog 51 #[v] w fun e w' => e = .returned (.bool false) ∧ w' = w :=
  (holdsNewline_any v x N w hv hb).mono (fun e w' ⟨h1, h2⟩ => ⟨by rw [h1, decide_eq_false]; have := (ix_iff x).2 h; omega, h2⟩)

/-- A line that holds a newline, if there is one. -/
def IxR (e : Ending) (oss : List (List Int)) : Prop := (Plain oss ∧ e = .returned (.int .i64 (-1))) ∨ (¬ Plain oss ∧ ∃ i : Nat, i ≤ 1048576 ∧ e = .returned (.int .i64 i))

set_option maxHeartbeats 2000000 in
set_option maxRecDepth 100000 in
theorem indexFunc_any (v : Value) (oss : List (List Int)) (w : World) (hv : SsAt mB 0 w.heap.size w v oss) (hb : ∀ x ∈ oss, Bytes x) (hL : oss.length ≤ 1048576) :
    Calls Tryz.prog 63 #[v, .func (.func 51) #[] #[]] w fun e w' => IxR e oss ∧ w' = w := by
  obtain ⟨a, cap, rfl, hl, hc⟩ := hv
  unfold maxLen at hl
  have HB := hide hb
  clear hb
  go_enter Tryz.func63, Tryz.ntmps63
  go_wp2_with fail
  go_loop [8] (fun iv => ∃ k : Nat, k ≤ oss.length ∧ iv = .int .i64 k ∧ ∀ i : Nat, i < k → ∀ j : Nat, j < (oss[i]?.getD []).length → (oss[i]?.getD [])[j]?.getD 0 ≠ 10) (fun iv => oss.length - (intOf iv).toNat)
  case atStart => exact ⟨0, Nat.zero_le _, rfl, fun i hi => absurd hi (Nat.not_lt_zero _)⟩
  case round =>
    obtain ⟨k, hk, rfl, hp⟩ := hrel
    have Hp := hide hp
    clear hp
    by_cases hlt : k < oss.length
    · have hlt' : (k : Int) < (oss.length : Int) := by omega
      obtain ⟨b, off, rfl, hbn, hcell⟩ := hc (by omega)
      obtain ⟨s, hx, hs, -⟩ := hcell k hlt
      have Hs := hide hs
      obtain ⟨sa, sc, rfl, -, -⟩ := hs
      have Hb := hide (unhide HB (oss[k]?.getD []) (by rw [List.getElem?_eq_getElem hlt]; exact List.getElem_mem _))
      have Hno : Hid (10 ∈ (oss[k]?.getD []) → ¬ Plain oss) := fun h hpl => by
        obtain ⟨j, hj, e⟩ := mem_get.1 h
        exact hpl k hlt j hj e
      have Hyes : Hid (10 ∉ (oss[k]?.getD []) → ∀ i : Nat, i < k + 1 → ∀ j : Nat, j < (oss[i]?.getD []).length → (oss[i]?.getD [])[j]?.getD 0 ≠ 10) := fun h i hi => by
        by_cases e : i = k
        · subst e; exact not_mem_get h
        · exact unhide Hp i (by omega)
      clear hcell hc Hp
      generalize oss[k]?.getD [] = x at *
      by_cases h10 : 10 ∈ x
      · have HN := hide (unhide Hno h10)
        have H10 := hide h10
        clear h10 Hno Hyes
        go_wp2_with fail
        refine (holds_yes _ x _ _ (unhide Hs) (unhide Hb) (unhide H10)).mono ?_
        rintro e w2 ⟨rfl, rfl⟩
        go_wp2
        go_ret
        exact ⟨Or.inr ⟨unhide HN, k, by omega, rfl⟩, rfl⟩
      · have HN := hide (unhide Hyes h10)
        have H10 := hide h10
        clear h10 Hno Hyes
        go_wp2_with fail
        refine (holds_no _ x _ _ (unhide Hs) (unhide Hb) (unhide H10)).mono ?_
        rintro e w2 ⟨rfl, rfl⟩
        go_wp2
        go_round
        case rel => exact ⟨k + 1, by omega, by go_num, unhide HN⟩
        case measure => simp [intOf]; omega
    · obtain rfl : k = oss.length := by omega
      clear hc
      go_wp2
      go_ret
      exact ⟨Or.inl ⟨unhide Hp, rfl⟩, rfl⟩

set_option maxRecDepth 100000 in
theorem containsFunc_any (v : Value) (oss : List (List Int)) (w : World) (hv : SsAt mB 0 w.heap.size w v oss) (hb : ∀ x ∈ oss, Bytes x) (hL : oss.length ≤ 1048576) :
    Calls Tryz.prog 50 #[v, .func (.func 51) #[] #[]] w fun e w' => RetB e (¬ Plain oss) ∧ w' = w := by
  have HV := hide hv
  obtain ⟨a, cap, rfl, -, -⟩ := hv
  have HB := hide hb
  clear hb
  go_enter Tryz.func50, Tryz.ntmps50
  go_wp2_with fail
  refine (indexFunc_any _ oss w (unhide HV) (unhide HB) hL).mono ?_
  rintro e w1 ⟨hr, rfl⟩
  rcases hr with ⟨hp, rfl⟩ | ⟨hp, i, hi, rfl⟩
  · have HP := hide hp
    clear hp
    go_wp2
    go_ret
    exact ⟨RetB.no (fun h => h (unhide HP)), rfl⟩
  · have HP := hide hp
    clear hp
    have hi0 : (0 : Int) ≤ (i : Int) := by omega
    go_wp2
    go_ret
    exact ⟨RetB.yes (unhide HP), rfl⟩

end Go.Proofs.YthgnefdefjannaaGreat
