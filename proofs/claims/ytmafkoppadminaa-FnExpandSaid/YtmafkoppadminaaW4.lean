import Derived.Test.YtmafkoppadminaaW3
import Derived.Test.YtmafkoppadminaaPk3
namespace Go.Proofs.Ytmafkoppadminaa
open Go.RowKit
set_option maxHeartbeats 1000000 in
theorem has_w (g : Nat → Nat) (b : Nat) (w : World) (hg : Fit g) (hb : b < 256) :
    Calls Try.prog 82 #[ws4 g, .int .i64 b] w fun e w' => e = .returned (.bool (Bt g b)) ∧ Below w.heap.size w w' := by
  unfold ws4
  have hbt : Hid ((bits .and .u64 ((g (b / 64) : Int) / 2 ^ (b % 64)) 1 == 1) = Bt g b) := shr_bit _ _ (hg _)
  have hrow := four_row w 81 g
  have hq : b / 64 < 4 := by omega
  have c0 := hrow.cell hq
  have hq2 : (b : Int) / 64 < 4 := by omega
  have hq3 : 0 ≤ (b : Int) / 64 := by omega
  clear hrow hg
  go_enter Try.func82, Try.ntmps82
  go_wp2
  go_ret
  exact ⟨ret_bool (unhide hbt), below1 w _⟩
theorem canon_ge {xs : List Int} (h : Canon xs) : ∀ j : Nat, 2 * j < xs.length → 2 * (j : Int) ≤ xs[2 * j]?.getD 0 := by
  intro j
  induction j with
  | zero => intro hlt; have := (h.2.1 0 hlt).1; simpa using this
  | succ j ih =>
    intro hlt
    have h1 := ih (by omega)
    have h2 := (h.2.2 j (by omega)).1
    have h3 := canon_mono h j 0 (by omega)
    rw [show j + 0 + 1 = j + 1 by omega] at h3
    omega
theorem Cut.bd {xs : List Int} {m b : Nat} (hcn : Canon xs) (h : Cut xs m b) (hb : b ≤ 256) : m ≤ 129 := by
  by_cases hm : 0 < m
  · have h1 := h.lo hm
    have h2 := canon_ge hcn (m - 1) (by have := h.le; omega)
    omega
  · omega
theorem cell_2 {W : World} {N : Nat} {u v : Value} (h : W.cell? ⟨N, 0, none⟩ = some u) (h' : W.cell? ⟨N, 1, none⟩ = some v) : ∀ (j : Nat) (y : Value), [u, v][j]? = some y → W.cell? ((⟨N, 0, none⟩ : Addr).add j) = some y := by
  intro j y hj
  match j, hj with
  | 0, hj => simp at hj; subst hj; exact h
  | 1, hj => simp at hj; subst hj; exact h'
set_option maxHeartbeats 2000000 in
set_option maxRecDepth 100000 in
theorem pairs_w (g : Nat → Nat) (xs : List Int) (w : World) (hg : WordsOf xs g) (hcn : Canon xs) :
    Calls Try.prog 85 #[ws4 g] w fun e w' => ∃ v, e = .returned v ∧ SlW mI 0 w.heap.size w'.heap.size w' v xs ∧ Below w.heap.size w w' := by
  unfold ws4
  obtain ⟨hfit, hbt⟩ := hg
  obtain ⟨i0, hi, hz0, hz1, hz2⟩ := info_parts Try.zinInt
  have Hrow := hide (four_row w 81 g)
  have Hfit := hide hfit
  have Hbt := hide hbt
  have Hcn := hide hcn
  clear hfit hbt hcn
  go_enter Try.func85, Try.ntmps85
  go_wp2
  obtain ⟨W0, hW⟩ : ∃ W0, W0 = w.alloc (.cells #[.int .u64 (g 0 : Nat), .int .u64 (g 1 : Nat), .int .u64 (g 2 : Nat), .int .u64 (g 3 : Nat)] 81) := ⟨_, rfl⟩
  have hB0 : Below w.heap.size w W0 := by rw [hW]; exact below1 w _
  have hS0 : W0.heap.size = w.heap.size + 1 := by rw [hW, sz_alloc]
  rw [← hW] at Hrow ⊢
  clear hW
  go_loopw [3, 6] (fun ov i wr => ∃ b m : Nat, b ≤ 256 ∧ i = .int .i64 b ∧ Cut xs m b ∧ wr.ownsRow W0.heap.size 3 1 ov (2 * m) ((cut xs m b).map mI) ∧ Below W0.heap.size W0 wr) (fun _ i _ => 256 - (intOf i).toNat)
  case atStart => exact ⟨0, 0, Nat.zero_le _, rfl, ⟨Nat.zero_le _, fun h => absurd h (by omega), fun h => ((unhide Hcn).2.1 0 (by omega)).1⟩, World.ownsRow_nil _ _ _ _, Below.refl _ _⟩
  case round =>
    obtain ⟨b, m, hb256, rfl, hcut, hown, hbel⟩ := hrel
    have hszr := hbel.size
    have hle := hcut.le
    have hm129 := Cut.bd (unhide Hcn) hcut hb256
    have Hcut := hide hcut
    have Hown := hide hown
    by_cases hlt : b < 256
    · have hlt' : (b : Int) < 256 := by omega
      have hrw := (unhide Hrow).of_block (hbel.block _ (by omega))
      have c0 := hrw.cell (i := 0) (by omega)
      have c1 := hrw.cell (i := 1) (by omega)
      have c2 := hrw.cell (i := 2) (by omega)
      have c3 := hrw.cell (i := 3) (by omega)
      clear hrw hown hcut
      obtain ⟨oa, oc, rfl⟩ := own_is (unhide Hown)
      go_wp2_with fail
      refine (has_w g b _ (unhide Hfit) hlt).mono ?_
      rintro e w1 ⟨rfl, hb1⟩
      have Hown1 := hide (own_keep (unhide Hown) hb1 (Nat.le_refl _))
      have hB1 : Below W0.heap.size W0 w1 := hbel.trans (hb1.mono hbel.size)
      have hsz1 := hB1.size
      clear hb1 c0 c1 c2 c3
      have hbv := unhide Hbt b
      rcases cut_step (unhide Hcn) (unhide Hcut) with ⟨q1, q2, q3⟩ | ⟨q1, q2, q3, q4, q5⟩ | ⟨q1, q2, q3, q4⟩
      · rw [q1] at hbv
        rw [hbv]
        clear hbv
        go_wp2
        go_roundw
        case rel => exact ⟨b + 1, m, by omega, by go_num, q2, by rw [q3]; exact unhide Hown1, hB1⟩
        case measure => simp [intOf]; omega
      · rw [q1] at hbv
        rw [hbv]
        clear hbv
        obtain ⟨K, hK⟩ : ∃ K, 2 * m = K + 1 := ⟨2 * m - 1, by omega⟩
        have Q4 := hide q4
        have Q5 := hide q5
        have hlen := hide (cut_len xs m b hle)
        rw [hK] at Hown1 q3 Q5 ⊢
        rw [show K + 1 - 1 = K by omega] at q3 Q5
        obtain ⟨gb, cap, ev, hcell⟩ := own_at (unhide Hown1) (by omega)
        simp only [Value.slice.injEq, true_and] at ev
        obtain ⟨rfl, rfl⟩ := ev
        have hx : w1.cell? ⟨gb, K, none⟩ = some (.int .i64 ((b : Int) - 1)) := by
          rw [hcell K (by omega), List.getElem?_map, getD_of_lt (by rw [unhide hlen]; omega), q3]; rfl
        have hf := (unhide Hown1).frozenAt K
        have hst := (unhide Hown1).stored K (.int .i64 b)
        have Hst := hide hst
        have hgb := ((unhide Hown1).lt gb rfl).1
        have hK0 : (0 : Int) < (K : Int) := by omega
        have hKc : (K : Int) < ((K + 1 : Nat) : Int) := by omega
        have y1 : (((K + 1 : Nat) : Int) - 1) = (K : Int) := by omega
        clear hcell q4 q5 hst
        go_wp2
        exact ⟨⟨b + 1, m, by omega, by go_num, unhide Q4, by rw [hK, unhide Q5, List.map_set]; exact (unhide Hst).1, bput hB1 hgb _⟩, by simp [intOf]; omega⟩
      · rw [q1] at hbv
        rw [hbv]
        clear hbv
        have Q3 := hide q3
        have Q4 := hide q4
        have hlen := hide (cut_len xs m b hle)
        clear q3 q4
        by_cases hm0 : m = 0
        · subst hm0
          go_wp2_with (at_builtin; refine wpList_append_own _ rfl _ _ 30 rfl W0.heap.size 3 i0 (.int .i64 0) 1 8 Try.underlying30 hi hz0 hz1 hz2 rfl (by decide) _ _ _ rfl ((unhide Hown1).alloc _) ⟨w1.heap.size, 0, none⟩ 2 2 [.int .i64 b, .int .i64 b] rfl rfl ?_ ?_ ?_ ?_ ?_ ?_)
          · exact cell_2 (by simp) (by simp)
          · intro u hu; simp at hu; subst hu; rfl
          · unfold maxLen; omega
          · omega
          · rw [sz_alloc]; omega
          intro v' w2 h5 hg5 _
          have hst := hide (show w2.ownsRow W0.heap.size 3 1 v' 2 ((cut xs 1 (b + 1)).map mI) from by rw [unhide Q4, List.map_append, hS0]; exact h5)
          have hB2 := (hB1.alloc hsz1 (.cells #[.int .i64 b, .int .i64 b] 3)).grown hg5 (by rw [sz_alloc]; omega) (fun k hk => ((unhide Hown1).lt k hk).1)
          clear h5 hg5
          go_wp2
          go_roundw
          case rel => exact ⟨b + 1, 1, by omega, by go_num, unhide Q3, unhide hst, hB2⟩
          case measure => simp [intOf]; omega
        · obtain ⟨K, hK⟩ : ∃ K, 2 * m = K + 1 := ⟨2 * m - 1, by omega⟩
          have q5 := q2 (by omega)
          clear q2
          rw [hK] at Hown1 q5 ⊢
          rw [show K + 1 - 1 = K by omega] at q5
          obtain ⟨gb, cap, ev, hcell⟩ := own_at (unhide Hown1) (by omega)
          simp only [Value.slice.injEq, true_and] at ev
          obtain ⟨rfl, rfl⟩ := ev
          have hx : w1.cell? ⟨gb, K, none⟩ = some (.int .i64 ((cut xs m b)[K]?.getD 0)) := by
            rw [hcell K (by omega), List.getElem?_map, getD_of_lt (by rw [unhide hlen]; omega)]; rfl
          have hne : ((cut xs m b)[K]?.getD 0 == (b : Int) - 1) = false := by simp [q5]
          generalize (cut xs m b)[K]?.getD 0 = z at *
          have hK0 : (0 : Int) < (K : Int) := by omega
          have y1 : (((K + 1 : Nat) : Int) - 1) = (K : Int) := by omega
          clear hcell q5
          go_wp2_with (at_builtin; refine wpList_append_own _ rfl _ _ 30 rfl W0.heap.size 3 i0 (.int .i64 0) 1 8 Try.underlying30 hi hz0 hz1 hz2 rfl (by decide) _ _ _ rfl ((unhide Hown1).alloc _) ⟨w1.heap.size, 0, none⟩ 2 2 [.int .i64 b, .int .i64 b] rfl rfl ?_ ?_ ?_ ?_ ?_ ?_)
          · exact cell_2 (by simp) (by simp)
          · intro u hu; simp at hu; subst hu; rfl
          · unfold maxLen; omega
          · omega
          · rw [sz_alloc]; omega
          intro v' w2 h5 hg5 _
          have hst := hide (show w2.ownsRow W0.heap.size 3 1 v' (2 * (m + 1)) ((cut xs (m + 1) (b + 1)).map mI) from by rw [unhide Q4, List.map_append, show 2 * (m + 1) = K + 1 + 2 by omega, hS0]; exact h5)
          have hB2 := (hB1.alloc hsz1 (.cells #[.int .i64 b, .int .i64 b] 3)).grown hg5 (by rw [sz_alloc]; omega) (fun k hk => ((unhide Hown1).lt k hk).1)
          clear h5 hg5
          go_wp2
          go_roundw
          case rel => exact ⟨b + 1, m + 1, by omega, by go_num, unhide Q3, unhide hst, hB2⟩
          case measure => simp [intOf]; omega
    · obtain rfl : b = 256 := by omega
      have hfin := cut_all (unhide Hcn) hcut
      rw [hfin] at Hown
      have hlen : xs.length = 2 * m := by rw [← cut_len xs m 256 hle, hfin]
      have hslw := hide (own_slw (lo := w.heap.size) (unhide Hown) (by omega) (by unfold maxLen; omega))
      clear hown hcut
      go_wp2
      go_ret
      exact ⟨_, rfl, unhide hslw, hB0.trans (hbel.mono (by omega))⟩
end Go.Proofs.Ytmafkoppadminaa
