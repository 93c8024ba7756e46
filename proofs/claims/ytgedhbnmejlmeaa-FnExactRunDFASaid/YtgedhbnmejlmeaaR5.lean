import Derived.Test.YtgedhbnmejlmeaaR3
import Derived.OwnWalk
namespace Go.Proofs.Ytgedhbnmejlmeaa
open Go.RowKit

structure ClsOk (xs : List Int) (nc : Int) : Prop where
  cl : xs.length = 256
  up : ∀ b : Nat, b < 256 → 0 ≤ xs[b]?.getD 0 ∧ xs[b]?.getD 0 ≤ top xs b + 1
  tp : top xs 256 = nc - 1

theorem ClsOk.hn {xs : List Int} {nc : Int} (h : ClsOk xs nc) : 1 ≤ nc ∧ nc ≤ 256 := by
  have h1 := top_bd xs 256 h.up
  have h2 := h.up 0 (by omega)
  have h3 := top_ge xs 0
  have h4 := top_mono xs 1 256 (by omega)
  have h5 := h.tp
  have e0 : top xs 0 = -1 := rfl
  have e1 : top xs (0 + 1) = top xs 1 := rfl
  omega

theorem tab_of {xs ys : List Int} {zs : List Bool} {nc : Int} : TabOk xs ys zs nc ↔ (1 ≤ zs.length ∧ zs.length ≤ 1024) ∧ ClsOk xs nc ∧ (ys.length : Int) = zs.length * nc ∧ ∀ i : Nat, i < ys.length → 0 ≤ ys[i]?.getD 0 ∧ ys[i]?.getD 0 < zs.length :=
  ⟨fun h => ⟨h.st, ⟨h.cl, h.up, h.tp⟩, h.nx, h.to⟩, fun h => ⟨h.1, h.2.1.hn, h.2.1.cl, h.2.1.up, h.2.1.tp, h.2.2.1, h.2.2.2⟩⟩

set_option maxHeartbeats 2000000 in
set_option maxRecDepth 100000 in
theorem classes_any (cl : Value) (xs : List Int) (nc : Int) (w : World) (h1 : SlAt mI 0 0 w.heap.size w cl xs) :
    Calls Try.prog 59 #[cl, .int .i64 nc] w fun e w' => RetB e (ClsOk xs nc) ∧ w' = w := by
  obtain ⟨a1, c1, rfl, l1, hc1⟩ := h1
  unfold maxLen at l1
  by_cases m3 : xs.length = 256
  · have m3' : ((xs.length : Int) != 256) = false := by simp; omega
    have M3 := hide m3
    have m3n : 256 ≤ xs.length := by omega
    have m3m : xs.length ≤ 256 := by omega
    clear m3
    go_enter Try.func59, Try.ntmps59
    go_wp2
    go_loop [5, 13] (fun t i => ∃ b : Nat, b ≤ 256 ∧ i = .int .i64 b ∧ t = .int .i64 (top xs b + 1) ∧ ∀ j : Nat, j < b → 0 ≤ xs[j]?.getD 0 ∧ xs[j]?.getD 0 ≤ top xs j + 1) (fun _ i => 256 - (intOf i).toNat)
    case atStart => exact ⟨0, Nat.zero_le _, rfl, rfl, fun j hj => absurd hj (Nat.not_lt_zero _)⟩
    case round =>
      obtain ⟨b, hb, rfl, rfl, hup⟩ := hrel
      have htb := top_bd xs b hup
      have Hup := hide hup
      clear hup
      by_cases hlt : b < 256
      · obtain ⟨q, off, rfl, -, hqn, hcell⟩ := hc1 (by omega)
        have hx : w.cell? ⟨q, off + b, none⟩ = some (.int .i64 (xs[b]?.getD 0)) := hcell b (by omega)
        have hbl : (b : Int) < (xs.length : Int) := by omega
        have hts : Hid (top xs (b + 1) = if top xs b < xs[b]?.getD 0 then xs[b]?.getD 0 else top xs b) := rfl
        have hP : Hid (∀ h : ClsOk xs nc, 0 ≤ xs[b]?.getD 0 ∧ xs[b]?.getD 0 ≤ top xs b + 1) := fun h => h.up b hlt
        have hnext : Hid (0 ≤ xs[b]?.getD 0 ∧ xs[b]?.getD 0 ≤ top xs b + 1 → ∀ j : Nat, j < b + 1 → 0 ≤ xs[j]?.getD 0 ∧ xs[j]?.getD 0 ≤ top xs j + 1) := fun hq j hj => by
          by_cases e : j = b
          · subst e; exact hq
          · exact unhide Hup j (by omega)
        clear hcell Hup hc1
        generalize xs[b]?.getD 0 = x at *
        generalize top xs b = t at *
        by_cases g1 : x < 0
        · go_wp2
          go_ret
          exact ⟨RetB.no (fun h => by have := unhide hP h; omega), rfl⟩
        · by_cases g2 : t + 1 < x
          · go_wp2
            go_ret
            exact ⟨RetB.no (fun h => by have := unhide hP h; omega), rfl⟩
          · by_cases g3 : t < x
            · have g4 : (x == t + 1) = true := by simp; omega
              have g4' : x = t + 1 := by omega
              subst g4'
              go_wp2
              go_round
              case rel => exact ⟨b + 1, by omega, by go_num, by rw [unhide hts, if_pos g3], unhide hnext ⟨by omega, by omega⟩⟩
              case measure => simp [intOf]; omega
            · have g4 : (x == t + 1) = false := by simp; omega
              go_wp2
              go_round
              case rel => exact ⟨b + 1, by omega, by go_num, by rw [unhide hts, if_neg (by omega)], unhide hnext ⟨by omega, by omega⟩⟩
              case measure => simp [intOf]; omega
      · obtain rfl : b = 256 := by omega
        have hbl : ¬ (256 : Int) < (xs.length : Int) := by omega
        have Htop := hide (show ClsOk xs nc ↔ top xs 256 = nc - 1 from ⟨fun h => h.tp, fun h => ⟨unhide M3, unhide Hup, h⟩⟩)
        clear hc1
        generalize top xs 256 = t at *
        by_cases g1 : t + 1 = nc
        · subst g1
          go_wp2
          go_ret
          exact ⟨RetB.yes ((unhide Htop).2 (by omega)), rfl⟩
        · have g1' : (t + 1 == nc) = false := by simp; omega
          go_wp2
          go_ret
          exact ⟨RetB.no (fun h => by have := (unhide Htop).1 h; omega), rfl⟩
  · have m3' : ((xs.length : Int) != 256) = true := by simp; omega
    go_enter Try.func59, Try.ntmps59
    go_wp2
    go_ret
    exact ⟨RetB.no (fun h => m3 h.cl), rfl⟩

end Go.Proofs.Ytgedhbnmejlmeaa
