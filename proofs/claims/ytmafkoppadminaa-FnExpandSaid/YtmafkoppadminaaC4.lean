import Derived.Test.YtmafkoppadminaaC3
namespace Go.Proofs.Ytmafkoppadminaa
open Go.RowKit
set_option maxHeartbeats 1000000 in
theorem l1start_any (v : Value) (xs : List El) (lo en : Nat) (w : World) (hv : ElsAt 0 w.heap.size w v xs) (hlen : xs.length ≤ 1048576) (hle : lo < en) (hen : en ≤ xs.length)
    (h1 : wsum ((xs.take en).drop lo) = 1) (h2 : ∀ k : Nat, lo < k → k ≤ en → wsum ((xs.take en).drop k) ≤ 0) :
    Calls Try.prog 41 #[v, .int .i64 (en : Int)] w fun e w' => e = .returned (.int .i64 (lo : Int)) ∧ w' = w := by
  obtain ⟨a, cap, rfl, hl, hc⟩ := hv
  have H2 := hide h2
  have H1 := hide h1
  clear h1 h2
  have hE : (xs.take en).length = en := by rw [List.length_take]; omega
  go_enter Try.func41, Try.ntmps41
  go_wp2
  go_loop [5, 6] (fun n i => ∃ k : Nat, lo ≤ k ∧ k ≤ en ∧ i = .int .i64 (k : Int) ∧ n = .int .i64 (1 - wsum ((xs.take en).drop k))) (fun _ i => (intOf i).toNat)
  case atStart => exact ⟨en, by omega, Nat.le_refl _, rfl, by rw [List.drop_eq_nil_of_le (by omega)]; rfl⟩
  case round =>
    obtain ⟨k, hk, hk2, rfl, rfl⟩ := hrel
    by_cases hgt : lo < k
    · cases k with
      | zero => omega
      | succ k =>
        obtain ⟨b, off, rfl, -, hbn, hel⟩ := hc (by omega)
        obtain ⟨i1, i2, i3, v, c0, c1, c2, c3, hints⟩ := hel k (by omega)
        have hws := wsum_drop (xs := xs.take en) (k := k) (by omega)
        have hbd := wsum_bd ((xs.take en).drop (k + 1))
        rw [List.length_drop, hE] at hbd
        rw [List.getElem?_take_of_lt (by omega)] at hws
        have hs0 := unhide H2 (k + 1) hgt hk2
        have hkk : (k : Int) < (xs.length : Int) := by omega
        clear hE
        generalize hS : wsum ((xs.take en).drop (k + 1)) = s at *
        generalize xs[k]?.getD dE = x at *
        have Hws := hide hws
        have HS := hide hS
        clear hws hS hints i2 i3 c1 c2 c3
        have hwt : wt x = if x.kind = 0 ∨ x.kind = 1 then 1 else if x.kind = 2 ∨ x.kind = 3 then -1 else 0 := rfl
        generalize wt x = t at *
        generalize x.kind = q at *
        have Hwt := hide hwt
        clear hwt
        by_cases q0 : q = 0
        · subst q0
          have ht : t = 1 := unhide Hwt
          go_wp2
          go_round
          case rel => exact ⟨k, by omega, by omega, by congr 1, by have := unhide Hws; congr 1; omega⟩
          case measure => simp [intOf]
        · by_cases q1 : q = 1
          · subst q1
            have ht : t = 1 := unhide Hwt
            go_wp2
            go_round
            case rel => exact ⟨k, by omega, by omega, by congr 1, by have := unhide Hws; congr 1; omega⟩
            case measure => simp [intOf]
          · by_cases q2 : q = 2
            · subst q2
              have ht : t = -1 := unhide Hwt
              go_wp2
              go_round
              case rel => exact ⟨k, by omega, by omega, by congr 1, by have := unhide Hws; congr 1; omega⟩
              case measure => simp [intOf]
            · by_cases q3 : q = 3
              · subst q3
                have ht : t = -1 := unhide Hwt
                go_wp2
                go_round
                case rel => exact ⟨k, by omega, by omega, by congr 1, by have := unhide Hws; congr 1; omega⟩
                case measure => simp [intOf]
              · have ht : t = 0 := by rw [unhide Hwt, if_neg (by omega), if_neg (by omega)]
                have b0 : (q == 0) = false := by simp [q0]
                have b1 : (q == 1) = false := by simp [q1]
                have b2 : (q == 2) = false := by simp [q2]
                have b3 : (q == 3) = false := by simp [q3]
                go_wp2
                go_round
                case rel => exact ⟨k, by omega, by omega, by congr 1, by have := unhide Hws; congr 1; omega⟩
                case measure => simp [intOf]
    · obtain rfl : k = lo := by omega
      rw [unhide H1]
      by_cases hk0 : 0 < k
      · have hk0' : 0 < (k : Int) := by omega
        go_wp2
        go_ret
        exact ⟨rfl, rfl⟩
      · have hk0' : ¬ 0 < (k : Int) := by omega
        go_wp2
        go_ret
        exact ⟨rfl, rfl⟩
end Go.Proofs.Ytmafkoppadminaa
