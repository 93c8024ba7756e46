import Derived.Test.YtcmofgehhdfifaaGreatDoorPk6
import Derived.Test.YtcmofgehhdfifaaGreatDoorD3
import Derived.Test.YtcmofgehhdfifaaGreatDoorPk7
import Derived.Test.YtcmofgehhdfifaaGreatDoorPk10
namespace Go.Proofs.YtcmofgehhdfifaaGreatDoor
open Go.RowKit
set_option maxHeartbeats 2000000 in
set_option maxRecDepth 100000 in
theorem pairs_own (g : Nat → Nat) (xs : List Int) (w : World) (hg : WordsOf xs g) (hcn : Canon xs) :
    Calls Tryz.prog 78 #[ws4 g] w fun e w' => ∃ v, e = .returned v ∧ w'.ownsRow w.heap.size 3 1 v xs.length (xs.map mI) ∧ Below w.heap.size w w' := by
  unfold ws4
  obtain ⟨hfit, hbt⟩ := hg
  obtain ⟨i0, hi, hz0, hz1, hz2⟩ := info_parts Tryz.zinInt
  have Hrow := hide (four_row w 102 g)
  have Hfit := hide hfit
  have Hbt := hide hbt
  have Hcn := hide hcn
  clear hfit hbt hcn
  go_enter Tryz.func78, Tryz.ntmps78
  go_wp2
  obtain ⟨W0, hW⟩ : ∃ W0, W0 = w.alloc (.cells #[.int .u64 (g 0 : Nat), .int .u64 (g 1 : Nat), .int .u64 (g 2 : Nat), .int .u64 (g 3 : Nat)] 102) := ⟨_, rfl⟩
  have hB0 : Below w.heap.size w W0 := by rw [hW]; exact below1 w _
  have hS0 : W0.heap.size = w.heap.size + 1 := by rw [hW, sz_alloc]
  rw [← hW] at Hrow ⊢
  clear hW
  go_loopw [3, 6] (fun ov i wr => ∃ b m : Nat, b ≤ 256 ∧ i = .int .i64 b ∧ Cut xs m b ∧ wr.ownsRow W0.heap.size 3 1 ov (2 * m) ((cut xs m b).map mI) ∧ Below W0.heap.size W0 wr) (fun _ i _ => 256 - (intOf i).toNat)
  case atStart => exact ⟨0, 0, Nat.zero_le _, rfl, ⟨Nat.zero_le _, fun h => absurd h (by omega), fun h => ((unhide Hcn).2.1 0 (by omega)).1⟩, World.ownsRow_nil _ _ _ _, Below.refl _ _⟩
  case round =>
    obtain ⟨b, m, hb256, rfl, hcut, hown, hbel⟩ := hrel
    have hszr := hbel.size
    have hle := hcut.le
    have hm129 := Cut.bd (unhide Hcn) hcut hb256
    have Hcut := hide hcut
    have Hown := hide hown
    by_cases hlt : b < 256
    · have hlt' : (b : Int) < 256 := by omega
      have hrw := (unhide Hrow).of_block (hbel.block _ (by omega))
      have c0 := hrw.cell (i := 0) (by omega)
      have c1 := hrw.cell (i := 1) (by omega)
      have c2 := hrw.cell (i := 2) (by omega)
      have c3 := hrw.cell (i := 3) (by omega)
      clear hrw hown hcut
      obtain ⟨oa, oc, rfl⟩ := own_is (unhide Hown)
      go_wp2_with fail
      refine (has_w g b _ (unhide Hfit) hlt).mono ?_
      rintro e w1 ⟨rfl, hb1⟩
      have Hown1 := hide (own_keep (unhide Hown) hb1 (Nat.le_refl _))
      have hB1 : Below W0.heap.size W0 w1 := hbel.trans (hb1.mono hbel.size)
      have hsz1 := hB1.size
      clear hb1 c0 c1 c2 c3
      have hbv := unhide Hbt b
      rcases cut_step (unhide Hcn) (unhide Hcut) with ⟨q1, q2, q3⟩ | ⟨q1, q2, q3, q4, q5⟩ | ⟨q1, q2, q3, q4⟩
      · rw [q1] at hbv
        rw [hbv]
        clear hbv
        go_wp2
        go_roundw
        case rel => exact ⟨b + 1, m, by omega, by go_num, q2, by rw [q3]; exact unhide Hown1, hB1⟩
        case measure => simp [intOf]; omega
      · rw [q1] at hbv
        rw [hbv]
        clear hbv
        obtain ⟨K, hK⟩ : ∃ K, 2 * m = K + 1 := ⟨2 * m - 1, by omega⟩
        have Q4 := hide q4
        have Q5 := hide q5
        have hlen := hide (cut_len xs m b hle)
        rw [hK] at Hown1 q3 Q5 ⊢
        rw [show K + 1 - 1 = K by omega] at q3 Q5
        obtain ⟨gb, cap, ev, hcell⟩ := own_at (unhide Hown1) (by omega)
        simp only [Value.slice.injEq, true_and] at ev
        obtain ⟨rfl, rfl⟩ := ev
        have hx : w1.cell? ⟨gb, K, none⟩ = some (.int .i64 ((b : Int) - 1)) := by
          rw [hcell K (by omega), List.getElem?_map, getD_of_lt (by rw [unhide hlen]; omega), q3]; rfl
        have hf := (unhide Hown1).frozenAt K
        have hst := (unhide Hown1).stored K (.int .i64 b)
        have Hst := hide hst
        have hgb := ((unhide Hown1).lt gb rfl).1
        have hK0 : (0 : Int) < (K : Int) := by omega
        have hKc : (K : Int) < ((K + 1 : Nat) : Int) := by omega
        have y1 : (((K + 1 : Nat) : Int) - 1) = (K : Int) := by omega
        clear hcell q4 q5 hst
        go_wp2
        exact ⟨⟨b + 1, m, by omega, by go_num, unhide Q4, by rw [hK, unhide Q5, List.map_set]; exact (unhide Hst).1, bput hB1 hgb _⟩, by simp [intOf]; omega⟩
      · rw [q1] at hbv
        rw [hbv]
        clear hbv
        have Q3 := hide q3
        have Q4 := hide q4
        have hlen := hide (cut_len xs m b hle)
        clear q3 q4
        by_cases hm0 : m = 0
        · subst hm0
          go_wp2_with (at_builtin; refine wpList_append_own _ rfl _ _ 39 rfl W0.heap.size 3 i0 (.int .i64 0) 1 8 Tryz.underlying39 hi hz0 hz1 hz2 rfl (by decide) _ _ _ rfl ((unhide Hown1).alloc _) ⟨w1.heap.size, 0, none⟩ 2 2 [.int .i64 b, .int .i64 b] rfl rfl ?_ ?_ ?_ ?_ ?_ ?_)
          · exact cell_2 (by simp) (by simp)
          · intro u hu; simp at hu; subst hu; rfl
          · unfold maxLen; omega
          · omega
          · rw [sz_alloc]; omega
          intro v' w2 h5 hg5 _
          have hst := hide (show w2.ownsRow W0.heap.size 3 1 v' 2 ((cut xs 1 (b + 1)).map mI) from by rw [unhide Q4, List.map_append, hS0]; exact h5)
          have hB2 := (hB1.alloc hsz1 (.cells #[.int .i64 b, .int .i64 b] 3)).grown hg5 (by rw [sz_alloc]; omega) (fun k hk => ((unhide Hown1).lt k hk).1)
          clear h5 hg5
          go_wp2
          go_roundw
          case rel => exact ⟨b + 1, 1, by omega, by go_num, unhide Q3, unhide hst, hB2⟩
          case measure => simp [intOf]; omega
        · obtain ⟨K, hK⟩ : ∃ K, 2 * m = K + 1 := ⟨2 * m - 1, by omega⟩
          have q5 := q2 (by omega)
          clear q2
          rw [hK] at Hown1 q5 ⊢
          rw [show K + 1 - 1 = K by omega] at q5
          obtain ⟨gb, cap, ev, hcell⟩ := own_at (unhide Hown1) (by omega)
          simp only [Value.slice.injEq, true_and] at ev
          obtain ⟨rfl, rfl⟩ := ev
          have hx : w1.cell? ⟨gb, K, none⟩ = some (.int .i64 ((cut xs m b)[K]?.getD 0)) := by
            rw [hcell K (by omega), List.getElem?_map, getD_of_lt (by rw [unhide hlen]; omega)]; rfl
          have hne : ((cut xs m b)[K]?.getD 0 == (b : Int) - 1) = false := by simp [q5]
          generalize (cut xs m b)[K]?.getD 0 = z at *
          have hK0 : (0 : Int) < (K : Int) := by omega
          have y1 : (((K + 1 : Nat) : Int) - 1) = (K : Int) := by omega
          clear hcell q5
          go_wp2_with (at_builtin; refine wpList_append_own _ rfl _ _ 39 rfl W0.heap.size 3 i0 (.int .i64 0) 1 8 Tryz.underlying39 hi hz0 hz1 hz2 rfl (by decide) _ _ _ rfl ((unhide Hown1).alloc _) ⟨w1.heap.size, 0, none⟩ 2 2 [.int .i64 b, .int .i64 b] rfl rfl ?_ ?_ ?_ ?_ ?_ ?_)
          · exact cell_2 (by simp) (by simp)
          · intro u hu; simp at hu; subst hu; rfl
          · unfold maxLen; omega
          · omega
          · rw [sz_alloc]; omega
          intro v' w2 h5 hg5 _
          have hst := hide (show w2.ownsRow W0.heap.size 3 1 v' (2 * (m + 1)) ((cut xs (m + 1) (b + 1)).map mI) from by rw [unhide Q4, List.map_append, show 2 * (m + 1) = K + 1 + 2 by omega, hS0]; exact h5)
          have hB2 := (hB1.alloc hsz1 (.cells #[.int .i64 b, .int .i64 b] 3)).grown hg5 (by rw [sz_alloc]; omega) (fun k hk => ((unhide Hown1).lt k hk).1)
          clear h5 hg5
          go_wp2
          go_roundw
          case rel => exact ⟨b + 1, m + 1, by omega, by go_num, unhide Q3, unhide hst, hB2⟩
          case measure => simp [intOf]; omega
    · obtain rfl : b = 256 := by omega
      have hfin := cut_all (unhide Hcn) hcut
      rw [hfin] at Hown
      have hlen : xs.length = 2 * m := by rw [← cut_len xs m 256 hle, hfin]
      have hslw := hide (own_low (b' := w.heap.size) (unhide Hown) (by omega))
      have Hlen := hide hlen
      obtain ⟨oa, oc, rfl⟩ := own_is (unhide Hown)
      clear hown hcut hlen hfin
      go_wp2
      go_ret
      exact ⟨_, rfl, by rw [unhide Hlen]; exact unhide hslw, hB0.trans (hbel.mono (by omega))⟩
theorem Tryz.info59 : (Tryz.prog.info? 59).map (fun i => (i.zero, i.size, i.bytes)) = some (some .nilIface, 1, 16) := by kernel_rfl
def NVals : List (List El × Int) → List Value → Prop
  | [], [] => True
  | t :: ts, u :: us => SzV u t.2 ∧ NVals ts us
  | _, _ => False
theorem NVals.len : ∀ {ts : List (List El × Int)} {us : List Value}, NVals ts us → ts.length = us.length
  | [], [], _ => rfl
  | _ :: _, _ :: _, h => by simp [NVals.len h.2]
  | [], _ :: _, h => h.elim
  | _ :: _, [], h => h.elim
theorem NVals.append : ∀ {a b : List (List El × Int)} {us vs : List Value}, NVals a us → NVals b vs → NVals (a ++ b) (us ++ vs)
  | [], _, [], _, _, k => k
  | _ :: _, _, _ :: _, _, h, k => ⟨h.1, NVals.append h.2 k⟩
  | [], _, _ :: _, _, h, _ => h.elim
  | _ :: _, _, [], _, h, _ => h.elim
theorem NVals.split : ∀ {a b : List (List El × Int)} {us : List Value}, NVals (a ++ b) us → ∃ u v, us = u ++ v ∧ NVals a u ∧ NVals b v
  | [], _, us, h => ⟨[], us, rfl, trivial, h⟩
  | _ :: _, _, y :: _, h => by
    obtain ⟨u, v, rfl, hu, hv⟩ := NVals.split h.2
    exact ⟨y :: u, v, rfl, ⟨h.1, hu⟩, hv⟩
  | _ :: _, _, [], h => h.elim
theorem NVals.one {t : List El × Int} {us : List Value} (h : NVals [t] us) : ∃ u, us = [u] ∧ SzV u t.2 := by
  match us, h with
  | [u], h => exact ⟨u, rfl, h.1⟩
theorem NVals.two {s t : List El × Int} {us : List Value} (h : NVals [s, t] us) : ∃ u v, us = [u, v] ∧ SzV u s.2 ∧ SzV v t.2 := by
  match us, h with
  | [u, v], h => exact ⟨u, v, rfl, h.1, h.2.1⟩
theorem oc (k c : Int) (h : cnt k = c) (w : World) : Calls Tryz.prog 55 #[.int .i64 k] w fun e w' => e = .returned (.int .i64 c) ∧ w' = w := h ▸ operandCount_any k w
theorem cell_one {W : World} {N : Nat} {u : Value} (h : W.cell? ⟨N, 0, none⟩ = some u) : ∀ (j : Nat) (y : Value), [u][j]? = some y → W.cell? ((⟨N, 0, none⟩ : Addr).add j) = some y := by
  intro j y hj
  match j, hj with
  | 0, hj => simp at hj; subst hj; exact h
theorem grown_of_below {m : Nat} {w w' : World} (h : Below m w w') (hm : w.heap.size ≤ m) : w.grownBy w' none := ⟨h.os, h.tape, h.output, h.size, fun k hk _ => h.block k (by omega)⟩
theorem own_below {base n m : Nat} {w w' : World} {v : Value} {xs : List Value} (h : w.ownsRow base 59 1 v n xs) (hb : Below m w w') (hm : w.heap.size ≤ m) : w'.ownsRow base 59 1 v n xs :=
  h.kept (grown_of_below hb hm) (by cases v.ownBlock <;> simp)
theorem drew_own {base n : Nat} {w : World} {v : Value} {xs : List Value} {q : Nat} (h : w.ownsRow base 59 1 v n xs) : (w.drewN q).ownsRow base 59 1 v n xs := h
theorem sz_drewN (w : World) (q : Nat) : (w.drewN q).heap.size = w.heap.size := rfl
theorem own_len {base n : Nat} {w : World} {v : Value} {vals : List Value} (hown : w.ownsRow base 59 1 v n vals) (h : 0 < n) : ∃ g cap, v = .slice (some ⟨g, 0, none⟩) n cap ∧ n ≤ cap ∧ cap ≤ maxLen := by
  rcases hown.2 with ⟨rfl, hn⟩ | ⟨g, cap, cur, rfl, hbg, hg, hnc, hcm, hcs, htake⟩
  · omega
  · exact ⟨g, cap, rfl, hnc, hcm⟩
end Go.Proofs.YtcmofgehhdfifaaGreatDoor
