import Derived.Test.YtjoaapoppcibdaaP13
import Derived.Test.YtjoaapoppcibdaaP11
namespace Go.Proofs.Ytjoaapoppcibdaa
open Go.RowKit

theorem bt_in {set : List Int} {g : Nat → Nat} (hg : WordsOf set g) (n : Nat) : Bt g n = true ↔ inPs set (n : Int) := by rw [inPs_iff, hg.2]

set_option maxHeartbeats 2000000 in
set_option maxRecDepth 100000 in
theorem members_any (g : Nat → Nat) (set : List Int) (w : World) (hg : WordsOf set g) :
    Calls Try.prog 65 #[ws4 g] w fun e w' => ∃ v, e = .returned v ∧ w'.ownsRow (w.heap.size + 1) 3 1 v (bytesOf set 256).length ((bytesOf set 256).map mI) ∧ Below w.heap.size w w' := by
  obtain ⟨i0, hi, hz0, hz1, hz2⟩ := info_parts Try.zinInt
  have HG := hide hg
  have Hrow := hide (four_row w 81 g)
  clear hg
  unfold ws4
  go_enter Try.func65, Try.ntmps65
  go_wp2_with fail
  have hB0 := below1 w (.cells #[.int .u64 (g 0 : Nat), .int .u64 (g 1 : Nat), .int .u64 (g 2 : Nat), .int .u64 (g 3 : Nat)] 81)
  have hzW : (w.alloc (.cells #[.int .u64 (g 0 : Nat), .int .u64 (g 1 : Nat), .int .u64 (g 2 : Nat), .int .u64 (g 3 : Nat)] 81)).heap.size = w.heap.size + 1 := sz_alloc _ _
  generalize (w.alloc (.cells #[.int .u64 (g 0 : Nat), .int .u64 (g 1 : Nat), .int .u64 (g 2 : Nat), .int .u64 (g 3 : Nat)] 81)) = W0 at *
  have hzW' : w.heap.size + 1 ≤ W0.heap.size := by omega
  clear hzW
  go_loopw [3, 5] (fun bv iv wr => ∃ n : Nat, n ≤ 256 ∧ iv = .int .i64 n ∧ wr.ownsRow W0.heap.size 3 1 bv (bytesOf set n).length ((bytesOf set n).map mI) ∧ Below W0.heap.size W0 wr) (fun _ iv _ => 256 - (intOf iv).toNat)
  case atStart => exact ⟨0, Nat.zero_le _, rfl, World.ownsRow_nil _ _ _ _, Below.refl _ _⟩
  case round =>
    obtain ⟨n, hn, rfl, hown, hbw⟩ := hrel
    have hszr := hbw.size
    have hbl := bytes_len set n
    have Hown := hide hown
    obtain ⟨oa, oc, rfl⟩ := own_is hown
    clear hown
    by_cases hlt : n < 256
    · have hlt' : (n : Int) < 256 := by omega
      have hrw := (unhide Hrow).of_block (hbw.block _ (by omega))
      have c0 := hrw.cell (i := 0) (by omega)
      have c1 := hrw.cell (i := 1) (by omega)
      have c2 := hrw.cell (i := 2) (by omega)
      have c3 := hrw.cell (i := 3) (by omega)
      clear hrw
      go_wp2_with fail
      refine (has_w g n _ (unhide HG).1 hlt).mono ?_
      rintro e w1 ⟨rfl, hb1⟩
      have Hown1 := hide (own_keep (unhide Hown) hb1 (Nat.le_refl _))
      have hB1 : Below W0.heap.size W0 w1 := hbw.trans (hb1.mono hbw.size)
      have hsz1 := hB1.size
      clear hb1 c0 c1 c2 c3
      have hbi := bt_in (unhide HG) n
      cases hbv : Bt g n with
      | true =>
        have HN := hide (bytes_in (hbi.1 hbv))
        clear hbi hbv
        generalize bytesOf set n = bs at *
        go_wp2_with (at_builtin; refine wpList_append_own _ rfl _ _ 52 rfl W0.heap.size 3 i0 (.int .i64 0) 1 8 Try.underlying52 hi hz0 hz1 hz2 rfl (by decide) _ _ _ rfl (World.ownsRow.alloc (w := w1) (unhide Hown1) _) ⟨w1.heap.size, 0, none⟩ 1 1 [.int .i64 n] rfl rfl (cell_1 (by simp)) (fun u' hu => by simp at hu; subst hu; rfl) (by unfold maxLen; omega) (by omega) (by rw [sz_alloc]; omega) ?_)
        intro v' w3 h5 hg5 _
        have hst := hide (grow_int (unhide Hown1) hsz1 (pushd_alloc w1 _) h5 hg5)
        clear h5 hg5
        go_wp2
        go_roundw
        case rel => exact ⟨n + 1, by omega, by go_num, by rw [unhide HN]; exact (unhide hst).1, hB1.trans (unhide hst).2⟩
        case measure => simp [intOf]; omega
      | false =>
        have HN := hide (bytes_out (fun h => by rw [hbi.2 h] at hbv; cases hbv))
        clear hbi hbv
        go_wp2
        go_roundw
        case rel => exact ⟨n + 1, by omega, by go_num, by rw [unhide HN]; exact unhide Hown1, hB1⟩
        case measure => simp [intOf]; omega
    · obtain rfl : n = 256 := by omega
      have hB1 : Below w.heap.size w wr := hB0.trans (hbw.mono (by omega))
      have hO := hide (own_low (unhide Hown) hzW')
      go_wp2
      go_ret
      exact ⟨_, rfl, unhide hO, hB1⟩

set_option maxHeartbeats 2000000 in
set_option maxRecDepth 100000 in
theorem leafSk_any (g : Nat → Nat) (set : List Int) (w : World) (hg : WordsOf set g) :
    Calls Try.prog 48 #[ws4 g] w fun e w' => ∃ v ps, e = .returned v ∧ LL mI 0 3 52 w.heap.size w' v ps ∧ ps.map Cl.xs = leafS set ∧ Below w.heap.size w w' := by
  obtain ⟨i1', hi', hz0', hz1', hz2'⟩ := info_parts Try.zinIntS
  have HM := hide (fun w => members_any g set w hg)
  have hrow := four_row w 81 g
  have c0 := hrow.cell (i := 0) (by omega)
  have c1 := hrow.cell (i := 1) (by omega)
  have c2 := hrow.cell (i := 2) (by omega)
  have c3 := hrow.cell (i := 3) (by omega)
  clear hrow hg
  unfold ws4 at HM ⊢
  go_enter Try.func48, Try.ntmps48
  go_wp2_with fail
  refine (unhide HM _).mono ?_
  rintro e V ⟨mv, rfl, hown, hbV⟩
  have hB1 : Below w.heap.size w V := (below1 w _).trans (hbV.mono (by rw [sz_alloc]; omega))
  have hszV := hB1.size
  have hbl := bytes_len set 256
  have Hown := hide hown
  obtain ⟨ma, mc, rfl⟩ := own_is hown
  clear hown hbV c0 c1 c2 c3
  by_cases h8 : 8 < (bytesOf set 256).length
  · have h8' : (8 : Int) < ((bytesOf set 256).length : Int) := by omega
    have HL : Hid (leafS set = [[256]]) := if_pos h8
    have hbA := below2 V (.cells #[.int .i64 256] 3) (.cells #[.slice (some ⟨V.heap.size, 0, none⟩) 1 1] 52)
    have hl1 : ((V.alloc (.cells #[.int .i64 256] 3)).alloc (.cells #[.slice (some ⟨V.heap.size, 0, none⟩) 1 1] 52)).heap[V.heap.size]? = some (.cells #[.int .i64 256] 3 (0, 0)) := by
      show ((V.heap.push _).push _)[V.heap.size]? = _
      rw [Array.getElem?_push_lt (by simp)]
      simp
    have hl2 : ((V.alloc (.cells #[.int .i64 256] 3)).alloc (.cells #[.slice (some ⟨V.heap.size, 0, none⟩) 1 1] 52)).heap[V.heap.size + 1]? = some (.cells #[.slice (some ⟨V.heap.size, 0, none⟩) 1 1] 52 (0, 0)) := by
      show ((V.heap.push _).push _)[V.heap.size + 1]? = _
      rw [Array.getElem?_push, if_pos (by simp)]
    have HR := hide (gap_row (base := w.heap.size) hl1 hl2 (by omega))
    have HBA := hide (hB1.trans (hbA.mono hszV))
    clear hl1 hl2 hbA
    go_wp2
    go_ret
    exact ⟨_, _, rfl, unhide HR, by rw [unhide HL]; rfl, unhide HBA⟩
  · have h8' : ¬ (8 : Int) < ((bytesOf set 256).length : Int) := by omega
    have HL : Hid (leafS set = (bytesOf set 256).map (fun b => [b])) := if_neg h8
    have Hb := hide (own_slw (lo := 0) (unhide Hown) (Nat.zero_le _) (by unfold maxLen; omega)).at
    generalize bytesOf set 256 = bs at *
    go_wp2_with fail
    go_loopw [4, 16] (fun ov iv wr => ∃ (i : Nat) (os : List (Cl Int)), i ≤ bs.length ∧ iv = .int .i64 i ∧ os.map Cl.xs = (bs.take i).map (fun b => [b]) ∧ LL mI 0 3 52 V.heap.size wr ov os ∧ Below V.heap.size V wr) (fun _ iv _ => bs.length - (intOf iv).toNat)
    case atStart => exact ⟨0, [], Nat.zero_le _, rfl, rfl, LL.nil, Below.refl _ _⟩
    case round =>
      obtain ⟨i, os, hil, rfl, hos, hlr, hbr⟩ := hrel
      have hsz2 := hbr.size
      have hol : os.length ≤ i := by
        have := congrArg List.length hos
        simp at this
        omega
      have Hos := hide hos
      have Hlr := hide hlr
      obtain ⟨ta, tc, rfl⟩ := own_is hlr.own
      clear hos hlr
      by_cases hlt2 : i < bs.length
      · have hlt2' : (i : Int) < (bs.length : Int) := by omega
        obtain ⟨_, _, e, -, hcb⟩ := (unhide Hb).below hbr (Nat.le_refl _)
        cases e
        obtain ⟨vb, vo, rfl, -, -, hcell⟩ := hcb (by omega)
        have hx : wr.cell? ⟨vb, vo + i, none⟩ = some (.int .i64 (bs[i]?.getD 0)) := hcell i hlt2
        have HN : Hid (∀ p : Cl Int, p.xs = [bs[i]?.getD 0] → (os ++ [p]).map Cl.xs = (bs.take (i + 1)).map (fun b => [b])) := fun p hp => by
          rw [List.map_append, List.map_singleton, hp, unhide Hos, single_next hlt2]
        clear hcell hcb Hos
        generalize bs[i]?.getD 0 = x at *
        have hB9 := below1 wr (.cells #[.int .i64 x] 3)
        have HA := hide ((unhide Hlr).keep hB9 (Nat.le_refl _))
        have Hpok : Hid (Cl.ok mI 0 3 (wr.alloc (.cells #[.int .i64 x] 3)) ⟨.slice (some ⟨wr.heap.size, 0, none⟩) 1 1, [x], wr.heap.size⟩) := ⟨_, 1, rfl, ⟨Nat.le_refl _, by unfold maxLen; omega⟩, fun _ => ⟨0, rfl, ⟨_, (pushd_alloc wr _).new⟩, fun k hk => by
          obtain rfl : k = 0 := by have : k < 1 := hk; omega
          exact (pushd_alloc wr (.cells #[.int .i64 x] 3)).news 0 _ rfl⟩⟩
        have hzA : V.heap.size ≤ (wr.alloc (.cells #[.int .i64 x] 3)).heap.size := by rw [sz_alloc]; omega
        have Hst : Hid (∀ (w' : World) (v' : Value), w'.ownsRow V.heap.size 52 1 v' (os.length + 1) (os.map Cl.v ++ [.slice (some ⟨wr.heap.size, 0, none⟩) 1 1]) → ((wr.alloc (.cells #[.int .i64 x] 3)).alloc (.cells #[.slice (some ⟨wr.heap.size, 0, none⟩) 1 1] 52)).grownBy w' (Value.slice ta os.length tc).ownBlock → LL mI 0 3 52 V.heap.size w' v' (os ++ [⟨.slice (some ⟨wr.heap.size, 0, none⟩) 1 1, [x], wr.heap.size⟩]) ∧ Below V.heap.size (wr.alloc (.cells #[.int .i64 x] 3)) w') := fun w' v' g1 g2 =>
          (unhide HA).app (by decide) hzA (unhide Hpok) (fun _ => hsz2) (fun q hq h0 _ e => by have := ((unhide Hlr).ok q hq).lt h0; simp only at e; omega) (pushd_alloc _ _) g1 g2
        go_wp2_with (at_builtin; refine wpList_append_own _ rfl _ _ 26 rfl V.heap.size 52 i1' (.slice none 0 0) 1 24 Try.underlying26 hi' hz0' hz1' hz2' rfl (by decide) _ _ _ rfl (World.ownsRow.alloc (w := wr.alloc (.cells #[.int .i64 x] 3)) (unhide HA).own _) ⟨wr.heap.size + 1, 0, none⟩ 1 1 [.slice (some ⟨wr.heap.size, 0, none⟩) 1 1] rfl rfl ?_ ?_ ?_ ?_ ?_ ?_)
        · exact cell_1 (by simp)
        · intro u' hu; simp at hu; subst hu; rfl
        · unfold maxLen; omega
        · omega
        · rw [sz_alloc]; omega
        intro v3 w3 h5 hg5 _
        have h3 := hide (unhide Hst w3 v3 h5 hg5)
        obtain ⟨g3, cap3, rfl⟩ := ownsRow_succ h5
        clear h5 hg5
        have hB3 : Below V.heap.size V w3 := hbr.trans ((hB9.mono hsz2).trans (unhide h3).2)
        go_wp2
        go_roundw
        case rel => exact ⟨i + 1, _, by omega, by go_num, unhide HN _ rfl, (unhide h3).1, hB3⟩
        case measure => simp [intOf]; omega
      · obtain rfl : i = bs.length := by omega
        rw [List.take_length] at Hos
        have Hl4 := hide ((unhide Hlr).base hszV)
        go_wp2
        go_ret
        exact ⟨_, os, rfl, unhide Hl4, by rw [unhide Hos, unhide HL], hB1.trans (hbr.mono hszV)⟩

end Go.Proofs.Ytjoaapoppcibdaa
