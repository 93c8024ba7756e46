import Derived.Test.YtfjnhmgmcldidaaCa3
namespace Go.Proofs.Ytfjnhmgmcldidaa
open Go.RowKit

/-- All lists are short. -/
def ShrtS (pss : List (List Int)) (m : Nat) : Prop := ∀ i : Nat, i < pss.length → (pss[i]?.getD []).length ≤ m

set_option maxHeartbeats 1000000 in
theorem longer1_any (sa : Option Addr) (z sc lb m : Nat) (w : World) (hl : w.cell? ⟨lb, 0, none⟩ = some (.int .i64 (m : Nat))) :
    Calls Try.prog 45 #[.slice sa z sc, .pointer (some ⟨lb, 0, none⟩)] w fun e w' => e = .returned (.bool (decide (m < z))) ∧ w' = w := by
  by_cases h : m < z
  · have h' : (m : Int) < (z : Int) := by omega
    have hd : decide (m < z) = true := decide_eq_true h
    rw [hd]
    clear hd
    go_enter Try.func45, Try.ntmps45
    go_wp2
    go_ret
    exact ⟨rfl, rfl⟩
  · have h' : ¬ (m : Int) < (z : Int) := by omega
    have hd : decide (m < z) = false := decide_eq_false h
    rw [hd]
    clear hd
    go_enter Try.func45, Try.ntmps45
    go_wp2
    go_ret
    exact ⟨rfl, rfl⟩

/-- The place of a list that is too long, if there is one. -/
def IxL (e : Ending) (pss : List (List Int)) (m : Nat) : Prop := (ShrtS pss m ∧ e = .returned (.int .i64 (-1))) ∨ (¬ ShrtS pss m ∧ ∃ i : Nat, e = .returned (.int .i64 i))

set_option maxHeartbeats 4000000 in
set_option maxRecDepth 100000 in
theorem indexLong_any (v : Value) (pss : List (List Int)) (lb m : Nat) (w : World) (hv : SsAt mI 0 w.heap.size w v pss) (hl : w.cell? ⟨lb, 0, none⟩ = some (.int .i64 (m : Nat))) :
    Calls Try.prog 46 #[v, .func (.func 45) #[] #[.pointer (some ⟨lb, 0, none⟩)]] w fun e w' => IxL e pss m ∧ w' = w := by
  obtain ⟨a, cap, rfl, hpl, hps⟩ := ss_at hv
  have HPS := hide hps
  have HL := hide hl
  clear hv hps hl
  go_enter Try.func46, Try.ntmps46
  go_wp2_with fail
  go_loop [8] (fun iv => ∃ k : Nat, k ≤ pss.length ∧ iv = .int .i64 (k : Nat) ∧ ∀ i : Nat, i < k → (pss[i]?.getD []).length ≤ m) (fun iv => pss.length - (intOf iv).toNat)
  case atStart => exact ⟨0, Nat.zero_le _, rfl, fun i hi => absurd hi (Nat.not_lt_zero _)⟩
  case round =>
    obtain ⟨k, hk, rfl, hp⟩ := hrel
    have Hp := hide hp
    clear hp
    by_cases hlt : k < pss.length
    · have hlt' : (k : Int) < (pss.length : Int) := by omega
      obtain ⟨b, off, sa, sc, rfl, hb, hcell, -, -⟩ := unhide HPS k hlt
      obtain ⟨z, hz⟩ : ∃ z, z = (pss[k]?.getD []).length := ⟨_, rfl⟩
      rw [← hz] at hcell
      have HCL := hide (longer1_any sa z sc lb m w (unhide HL))
      have HZ := hide hz
      clear hz
      go_wp2_with fail
      refine (unhide HCL).mono ?_
      rintro e w2 ⟨rfl, rfl⟩
      by_cases hg : m < z
      · have HX : Hid (¬ ShrtS pss m) := fun h => by have := h k hlt; rw [← unhide HZ] at this; omega
        rw [decide_eq_true hg]
        clear hg
        go_wp2
        go_ret
        exact ⟨.inr ⟨unhide HX, k, rfl⟩, rfl⟩
      · have HX : Hid (∀ i : Nat, i < k + 1 → (pss[i]?.getD []).length ≤ m) := fun i hi => by
          by_cases e : i = k
          · subst e; rw [← unhide HZ]; omega
          · exact unhide Hp i (by omega)
        rw [decide_eq_false hg]
        clear hg
        go_wp2
        go_round
        case rel => exact ⟨k + 1, by omega, by go_num, unhide HX⟩
        case measure => simp [intOf]; omega
    · obtain rfl : k = pss.length := by omega
      go_wp2
      go_ret
      exact ⟨.inl ⟨unhide Hp, rfl⟩, rfl⟩

set_option maxHeartbeats 2000000 in
set_option maxRecDepth 100000 in
theorem containsLong_any (v : Value) (pss : List (List Int)) (lb m : Nat) (w : World) (hv : SsAt mI 0 w.heap.size w v pss) (hl : w.cell? ⟨lb, 0, none⟩ = some (.int .i64 (m : Nat))) :
    Calls Try.prog 44 #[v, .func (.func 45) #[] #[.pointer (some ⟨lb, 0, none⟩)]] w fun e w' => RetB e (¬ ShrtS pss m) ∧ w' = w := by
  have HI := hide (indexLong_any v pss lb m w hv hl)
  obtain ⟨a, cap, rfl, -, -⟩ := hv
  clear hl
  go_enter Try.func44, Try.ntmps44
  go_wp2_with fail
  refine (unhide HI).mono ?_
  rintro e w2 ⟨⟨h, rfl⟩ | ⟨h, i, rfl⟩, rfl⟩
  · have HX : Hid (RetB (.returned (.bool false)) (¬ ShrtS pss m)) := RetB.no (fun q => q h)
    clear h HI
    go_wp2
    go_ret
    exact ⟨unhide HX, rfl⟩
  · have HX : Hid (RetB (.returned (.bool true)) (¬ ShrtS pss m)) := RetB.yes h
    have hi : (0 : Int) ≤ (i : Int) := by omega
    clear h HI
    go_wp2
    go_ret
    exact ⟨unhide HX, rfl⟩

set_option maxHeartbeats 2000000 in
set_option maxRecDepth 100000 in
theorem noneLonger_any (v : Value) (pss : List (List Int)) (m : Nat) (w : World) (hv : SsAt mI 0 w.heap.size w v pss) :
    Calls Try.prog 39 #[v, .int .i64 (m : Nat)] w fun e w' => RetB e (ShrtS pss m) ∧ Below w.heap.size w w' := by
  obtain ⟨W1, hW1⟩ : ∃ W1, W1 = w.alloc (.cells #[.int .i64 (m : Nat)] 3) := ⟨_, rfl⟩
  have hB1 : Below w.heap.size w W1 := by rw [hW1]; exact below1 w _
  have hl : W1.cell? ⟨w.heap.size, 0, none⟩ = some (.int .i64 (m : Nat)) := by rw [hW1]; exact (pushd_al w _).news 0 _ rfl
  have HC := hide (containsLong_any v pss w.heap.size m W1 (hv.below hB1 (Nat.le_refl _)) hl)
  obtain ⟨a, cap, rfl, -, -⟩ := hv
  have HW1 := hide hW1
  clear hW1 hl
  go_enter Try.func39, Try.ntmps39
  go_wp2_with fail
  rw [← unhide HW1]
  refine (unhide HC).mono ?_
  rintro e w2 ⟨hret, rfl⟩
  rcases hret.cases with ⟨rfl, h⟩ | ⟨rfl, h⟩
  · have HX : Hid (RetB (.returned (.bool false)) (ShrtS pss m)) := RetB.no h
    clear h HC hret
    go_wp2
    go_ret
    exact ⟨unhide HX, hB1⟩
  · have HX : Hid (RetB (.returned (.bool true)) (ShrtS pss m)) := RetB.yes (Classical.not_not.1 h)
    clear h HC hret
    go_wp2
    go_ret
    exact ⟨unhide HX, hB1⟩

end Go.Proofs.Ytfjnhmgmcldidaa
