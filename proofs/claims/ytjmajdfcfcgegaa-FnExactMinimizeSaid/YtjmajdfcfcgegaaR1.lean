import Derived.Test.YtjmajdfcfcgegaaS5
namespace Go.Proofs.Ytjmajdfcfcgegaa
open Go.RowKit

/-- The greatest class of the first b bytes, -1 if there is none. -/
def top (xs : List Int) : Nat → Int
  | 0 => -1
  | b + 1 => if top xs b < xs[b]?.getD 0 then xs[b]?.getD 0 else top xs b

structure TabOk (xs ys : List Int) (zs : List Bool) (nc : Int) : Prop where
  st : 1 ≤ zs.length ∧ zs.length ≤ 1024
  hn : 1 ≤ nc ∧ nc ≤ 256
  cl : xs.length = 256
  up : ∀ b : Nat, b < 256 → 0 ≤ xs[b]?.getD 0 ∧ xs[b]?.getD 0 ≤ top xs b + 1
  tp : top xs 256 = nc - 1
  nx : (ys.length : Int) = zs.length * nc
  to : ∀ i : Nat, i < ys.length → 0 ≤ ys[i]?.getD 0 ∧ ys[i]?.getD 0 < zs.length

theorem top_bd (xs : List Int) : ∀ b : Nat, (∀ j : Nat, j < b → 0 ≤ xs[j]?.getD 0 ∧ xs[j]?.getD 0 ≤ top xs j + 1) → -1 ≤ top xs b ∧ top xs b < b := by
  intro b
  induction b with
  | zero => intro _; simp [top]
  | succ b ih =>
    intro h
    have h1 := ih (fun j hj => h j (by omega))
    have h2 := h b (by omega)
    simp only [top]
    split <;> omega

theorem top_mono (xs : List Int) (a : Nat) : ∀ b : Nat, a ≤ b → top xs a ≤ top xs b := by
  intro b
  induction b with
  | zero => intro h; obtain rfl : a = 0 := by omega
            exact Int.le_refl _
  | succ b ih =>
    intro h
    by_cases e : a = b + 1
    · subst e; exact Int.le_refl _
    · have h1 := ih (by omega)
      simp only [top]
      split <;> omega

theorem top_ge (xs : List Int) (b : Nat) : xs[b]?.getD 0 ≤ top xs (b + 1) := by simp only [top]; split <;> omega

theorem TabOk.cls {xs ys : List Int} {zs : List Bool} {nc : Int} (h : TabOk xs ys zs nc) {b : Nat} (hb : b < 256) : 0 ≤ xs[b]?.getD 0 ∧ xs[b]?.getD 0 < nc := by
  have h1 := top_ge xs b
  have h2 := top_mono xs (b + 1) 256 (by omega)
  have h3 := h.tp
  have h4 := h.up b hb
  omega

theorem w64 {n : Int} (h0 : 0 ≤ n) (h1 : n ≤ 1000000) : wrap64 n = n := by unfold wrap64; omega

set_option maxHeartbeats 2000000 in
set_option maxRecDepth 100000 in
theorem tableOK_any (cl nx ac : Value) (xs ys : List Int) (zs : List Bool) (nc : Int) (w : World) (h1 : SlAt mI 0 0 w.heap.size w cl xs) (h2 : SlAt mI 0 0 w.heap.size w nx ys) (h3 : SlAt mT false 0 w.heap.size w ac zs) :
    Calls Try.prog 13 #[.agg #[cl, .int .i64 nc, nx, ac]] w fun e w' => RetB e (TabOk xs ys zs nc) ∧ Below w.heap.size w w' := by
  obtain ⟨a1, c1, rfl, l1, hc1⟩ := h1
  obtain ⟨a2, c2, rfl, l2, hc2⟩ := h2
  obtain ⟨a3, c3, rfl, l3, -⟩ := h3
  unfold maxLen at l1 l2 l3
  by_cases n1 : zs.length < 1
  · have n1' : (zs.length : Int) < 1 := by omega
    go_enter Try.func13, Try.ntmps13
    go_wp2
    go_ret
    exact ⟨RetB.no (fun h => by have := h.st; omega), below1 w _⟩
  · have n1' : ¬ (zs.length : Int) < 1 := by omega
    by_cases n2 : 1024 < zs.length
    · have n2' : 1024 < (zs.length : Int) := by omega
      go_enter Try.func13, Try.ntmps13
      go_wp2
      go_ret
      exact ⟨RetB.no (fun h => by have := h.st; omega), below1 w _⟩
    · have n2' : ¬ 1024 < (zs.length : Int) := by omega
      by_cases m1 : nc < 1
      · go_enter Try.func13, Try.ntmps13
        go_wp2
        go_ret
        exact ⟨RetB.no (fun h => by have := h.hn; omega), below1 w _⟩
      · by_cases m2 : 256 < nc
        · go_enter Try.func13, Try.ntmps13
          go_wp2
          go_ret
          exact ⟨RetB.no (fun h => by have := h.hn; omega), below1 w _⟩
        · by_cases m3 : xs.length = 256
          · have m3' : ((xs.length : Int) != 256) = false := by simp; omega
            have M3 := hide m3
            have m3n : 256 ≤ xs.length := by omega
            clear m3
            go_enter Try.func13, Try.ntmps13
            go_wp2
            go_loop [4, 5] (fun t i => ∃ b : Nat, b ≤ 256 ∧ i = .int .i64 b ∧ t = .int .i64 (top xs b) ∧ ∀ j : Nat, j < b → 0 ≤ xs[j]?.getD 0 ∧ xs[j]?.getD 0 ≤ top xs j + 1) (fun _ i => 256 - (intOf i).toNat)
            case atStart => exact ⟨0, Nat.zero_le _, rfl, rfl, fun j hj => absurd hj (Nat.not_lt_zero _)⟩
            case round =>
              obtain ⟨b, hb, rfl, rfl, hup⟩ := hrel
              have htb := top_bd xs b hup
              have Hup := hide hup
              clear hup
              by_cases hlt : b < 256
              · obtain ⟨q, off, rfl, -, hqn, hcell⟩ := hc1 (by omega)
                have hx : w.cell? ⟨q, off + b, none⟩ = some (.int .i64 (xs[b]?.getD 0)) := hcell b (by omega)
                have hlt' : (b : Int) < 256 := by omega
                have hbl : (b : Int) < (xs.length : Int) := by omega
                have hts : Hid (top xs (b + 1) = if top xs b < xs[b]?.getD 0 then xs[b]?.getD 0 else top xs b) := rfl
                have hP : Hid (∀ h : TabOk xs ys zs nc, 0 ≤ xs[b]?.getD 0 ∧ xs[b]?.getD 0 ≤ top xs b + 1) := fun h => h.up b hlt
                have hnext : Hid (0 ≤ xs[b]?.getD 0 ∧ xs[b]?.getD 0 ≤ top xs b + 1 → ∀ j : Nat, j < b + 1 → 0 ≤ xs[j]?.getD 0 ∧ xs[j]?.getD 0 ≤ top xs j + 1) := fun hq j hj => by
                  by_cases e : j = b
                  · subst e; exact hq
                  · exact unhide Hup j (by omega)
                clear hcell Hup
                generalize xs[b]?.getD 0 = x at *
                generalize top xs b = t at *
                by_cases g1 : x < 0
                · go_wp2
                  go_ret
                  exact ⟨RetB.no (fun h => by have := unhide hP h; omega), below1 w _⟩
                · by_cases g2 : t + 1 < x
                  · go_wp2
                    go_ret
                    exact ⟨RetB.no (fun h => by have := unhide hP h; omega), below1 w _⟩
                  · by_cases g3 : t < x
                    · go_wp2
                      go_round
                      case rel => exact ⟨b + 1, by omega, by go_num, by rw [unhide hts, if_pos g3], unhide hnext ⟨by omega, by omega⟩⟩
                      case measure => simp [intOf]; omega
                    · go_wp2
                      go_round
                      case rel => exact ⟨b + 1, by omega, by go_num, by rw [unhide hts, if_neg (by omega)], unhide hnext ⟨by omega, by omega⟩⟩
                      case measure => simp [intOf]; omega
              · obtain rfl : b = 256 := by omega
                have Htop := hide (show ∀ h : TabOk xs ys zs nc, top xs 256 = nc - 1 from fun h => h.tp)
                generalize hT : top xs 256 = t at *
                have HT := hide hT
                clear hT
                have p1 : 0 ≤ (zs.length : Int) * nc := Int.mul_nonneg (by omega) (by omega)
                have p2 : (zs.length : Int) * nc ≤ 1024 * 256 := Int.mul_le_mul (by omega) (by omega) (by omega) (by omega)
                have p3 : wrap64 ((zs.length : Int) * nc) = (zs.length : Int) * nc := w64 p1 (by omega)
                by_cases g1 : t = nc - 1
                · have g1' : (t != nc - 1) = false := by simp [g1]
                  have G1 := hide g1
                  clear g1
                  by_cases g2 : (ys.length : Int) = (zs.length : Int) * nc
                  · have g2' : ((ys.length : Int) != (zs.length : Int) * nc) = false := by simp [g2]
                    have G2 := hide g2
                    clear g2
                    go_wp2
                    go_loop [6] (fun i => ∃ k : Nat, k ≤ ys.length ∧ i = .int .i64 k ∧ ∀ j : Nat, j < k → 0 ≤ ys[j]?.getD 0 ∧ ys[j]?.getD 0 < zs.length) (fun i => ys.length - (intOf i).toNat)
                    case atStart => exact ⟨0, Nat.zero_le _, rfl, fun j hj => absurd hj (Nat.not_lt_zero _)⟩
                    case round =>
                      obtain ⟨k, hk, rfl, hin⟩ := hrel
                      have Hin := hide hin
                      clear hin
                      by_cases hlt : k < ys.length
                      · obtain ⟨q, off, rfl, -, hqn, hcell⟩ := hc2 (by omega)
                        have hx : w.cell? ⟨q, off + k, none⟩ = some (.int .i64 (ys[k]?.getD 0)) := hcell k (by omega)
                        have hlt' : (k : Int) < (ys.length : Int) := by omega
                        clear hcell
                        generalize hX : ys[k]?.getD 0 = x at *
                        have HX := hide hX
                        clear hX
                        by_cases f1 : x < 0
                        · go_wp2
                          go_ret
                          exact ⟨RetB.no (fun h => by have := h.to k hlt; rw [unhide HX] at this; omega), below1 w _⟩
                        · by_cases f2 : (zs.length : Int) ≤ x
                          · go_wp2
                            go_ret
                            exact ⟨RetB.no (fun h => by have := h.to k hlt; rw [unhide HX] at this; omega), below1 w _⟩
                          · go_wp2
                            go_round
                            case rel => exact ⟨k + 1, by omega, by go_num, fun j hj => by
                              by_cases e : j = k
                              · subst e; rw [unhide HX]; omega
                              · exact unhide Hin j (by omega)⟩
                            case measure => simp [intOf]; omega
                      · obtain rfl : k = ys.length := by omega
                        go_wp2
                        go_ret
                        exact ⟨RetB.yes ⟨⟨by omega, by omega⟩, ⟨by omega, by omega⟩, unhide M3, unhide Hup, by rw [unhide HT]; exact unhide G1, unhide G2, unhide Hin⟩, below1 w _⟩
                  · have g2' : ((ys.length : Int) != (zs.length : Int) * nc) = true := by simp [g2]
                    go_wp2
                    go_ret
                    exact ⟨RetB.no (fun h => g2 h.nx), below1 w _⟩
                · have g1' : (t != nc - 1) = true := by simp [g1]
                  go_wp2
                  go_ret
                  exact ⟨RetB.no (fun h => g1 (unhide Htop h)), below1 w _⟩
          · have m3' : ((xs.length : Int) != 256) = true := by simp; omega
            go_enter Try.func13, Try.ntmps13
            go_wp2
            go_ret
            exact ⟨RetB.no (fun h => m3 h.cl), below1 w _⟩

end Go.Proofs.Ytjmajdfcfcgegaa
