import Derived.Test.YtijejbdpagbmpaaDoorP7
import Derived.Test.YtijejbdpagbmpaaDoorP5
import Derived.Deep.RegionWith
namespace Go.Proofs.YtijejbdpagbmpaaDoor
open Go.RowKit

theorem Tryd.zinIntS : (Tryd.prog.info? 27).map (fun i => (i.zero, i.size, i.bytes)) = some (some (.slice none 0 0), 1, 24) := by kernel_rfl

set_option maxHeartbeats 1000000 in
theorem eqIntSS_w (u v : Value) (xss : List (List Int)) (w : World) (hu : SsAt mI 0 w.heap.size w u xss) (hv : SsAt mI 0 w.heap.size w v xss) :
    Calls Tryd.prog 24 #[u, v] w fun e w' => e = .returned (.bool true) ∧ Below w.heap.size w w' := by
  obtain ⟨a, cap, rfl, hl, hc⟩ := hu
  obtain ⟨a2, cap2, rfl, -, hc2⟩ := hv
  unfold maxLen at hl
  go_enter Tryd.func24, Tryd.ntmps24
  go_wp2
  go_loopw [5] (fun i wr => ∃ k : Nat, k ≤ xss.length ∧ i = .int .i64 k ∧ Below w.heap.size w wr) (fun i _ => xss.length - (intOf i).toNat)
  case atStart => exact ⟨0, Nat.zero_le _, rfl, Below.refl _ _⟩
  case round =>
    obtain ⟨k, hk, rfl, hb⟩ := hrel
    by_cases hlt : k < xss.length
    · obtain ⟨b, off, rfl, hbn, hcell⟩ := hc (by omega)
      obtain ⟨b2, off2, rfl, hbn2, hcell2⟩ := hc2 (by omega)
      obtain ⟨s, hx0, hs, -⟩ := hcell k hlt
      obtain ⟨s2, hx20, hs2, -⟩ := hcell2 k hlt
      have hx : wr.cell? ⟨b, off + k, none⟩ = some s := by rw [hb.cell (p := ⟨b, off + k, none⟩) hbn]; exact hx0
      have hx2 : wr.cell? ⟨b2, off2 + k, none⟩ = some s2 := by rw [hb.cell (p := ⟨b2, off2 + k, none⟩) hbn2]; exact hx20
      have hlt' : (k : Int) < (xss.length : Int) := by omega
      have Hs := hide (hs.below hb (Nat.le_refl _))
      have Hs2 := hide (hs2.below hb (Nat.le_refl _))
      obtain ⟨p, q, rfl, -, -⟩ := id hs
      obtain ⟨p2, q2, rfl, -, -⟩ := id hs2
      clear hcell hcell2 hc hc2 hs hs2 hx0 hx20
      generalize xss[k]?.getD [] = x at *
      go_wp2
      go_region_with (go_at_call 25; refine (eqIntS_w _ _ x _ (by exact unhide Hs) (by exact unhide Hs2)).mono ?_; rintro e w1 ⟨rfl, n, rfl⟩)
      all_goals
        go_wp2
        go_roundw
        case rel => exact ⟨k + 1, by omega, by go_num, below_drewN (by exact hb) _⟩
        case measure => simp [intOf]; omega
    · obtain rfl : k = xss.length := by omega
      clear hc hc2
      go_wp2
      go_ret
      exact ⟨rfl, hb⟩

set_option maxHeartbeats 1000000 in
set_option maxRecDepth 100000 in
theorem markIntSS_w (v : Value) (xss : List (List Int)) (k : Int) (S : Nat → Prop) (w : World) (hv : SsF mI 0 S w v xss) (k0 : 0 ≤ k) (k1 : k ≤ 4194304) (hlen : tot xss ≤ 4194304) :
    Calls Tryd.prog 28 #[v, .int .i64 k] w fun e w' => e = .returned (.int .i64 (k + tot xss)) ∧ SsF mI 0 S w' v (marksL cnts k xss) ∧ ChgF S w w' := by
  obtain ⟨a, cap, rfl, hl, hc⟩ := hv
  by_cases hp : 0 < xss.length
  · obtain ⟨b, off, sv, T, rfl, h1, h2, h3, h4, h5, h6⟩ := hc hp
    have Hst0 : Hid (MkS mI 0 S w w (marksL cnts k xss) xss b off sv T 0) := ⟨h2, h3, fun i hi => by unfold mixL; rw [if_neg (by omega)]; exact h4 i hi, ChgF.refl _ _⟩
    have H5 := hide h5
    have H6 := hide h6
    clear hc h2 h3 h4 h5 h6
    unfold maxLen at hl
    go_enter Tryd.func28, Tryd.ntmps28
    go_wp2
    go_loopw [1, 5] (fun q i wr => ∃ m : Nat, m ≤ xss.length ∧ i = .int .i64 m ∧ q = .int .i64 (k + tot (xss.take m)) ∧ MkS mI 0 S w wr (marksL cnts k xss) xss b off sv T m) (fun _ i _ => xss.length - (intOf i).toNat)
    case atStart => exact ⟨0, Nat.zero_le _, rfl, by simp [tot], unhide Hst0⟩
    case round =>
      obtain ⟨m, hm, rfl, rfl, hmk⟩ := hrel
      have Hmk := hide hmk
      have ht := tot_take xss m
      by_cases hlt : m < xss.length
      · obtain ⟨-, hq3, hq4, -⟩ := hmk
        have hc3 := hq3 m hlt
        have hc4 := (hq4 m hlt).1
        unfold mixL at hc4
        rw [if_neg (by omega)] at hc4
        have hlt' : (m : Int) < (xss.length : Int) := by omega
        have hse := tot_get xss m
        have Hstep := hide (tot_step xss m hlt)
        have Hget := hide (marksL_get cnts k xss m hlt)
        obtain ⟨sa, sc, hsv⟩ := hc4.val
        rw [hsv] at hc3
        obtain ⟨lo, n, hw, hT⟩ := hc4
        rw [hsv] at hw
        have Hw := hide hw
        have HT := hide hT
        have Hsv := hide hsv
        clear hq3 hq4 hsv hw hT
        generalize hK : k + (tot (xss.take m) : Int) = K at *
        have HK := hide hK
        have hK1 : 0 ≤ K := by omega
        have hK2 : K ≤ 8388608 := by omega
        clear hK
        generalize hX : xss[m]?.getD [] = x at *
        have HX := hide hX
        clear hX
        go_wp2_with fail
        refine (markIntS_any _ x K lo n _ (unhide Hw) (by omega) (by omega) (by omega)).mono ?_
        rintro e w1 ⟨rfl, hs1, hc1⟩
        have hst := hide (mkS_step (unhide Hmk) hlt (unhide H5) (unhide H6) (hc1.foot (unhide HT)) (by rw [unhide Hget, unhide Hsv]; exact ⟨lo, n, hs1, unhide HT⟩))
        clear hs1 hc1
        go_wp2
        exact ⟨⟨m + 1, by omega, by go_num, by rw [unhide Hstep, ← unhide HK]; congr 1; omega, unhide hst⟩, by simp [intOf]; omega⟩
      · obtain rfl : m = xss.length := by omega
        clear hmk
        go_wp2
        go_ret
        obtain ⟨q2, q3, q4, q8⟩ := unhide Hmk
        refine ⟨ret_int (by rw [List.take_length]), ⟨_, cap, by rw [marksL_len], by rw [marksL_len]; unfold maxLen; exact hl, fun _ => ⟨b, off, sv, T, rfl, h1, q2, fun i hi => q3 i (by rwa [marksL_len] at hi), fun i hi => ?_, fun i hi => unhide H5 i (by rwa [marksL_len] at hi), fun i j hi hj hne => unhide H6 i j (by rwa [marksL_len] at hi) (by rwa [marksL_len] at hj) hne⟩⟩, q8⟩
        rw [marksL_len] at hi
        have := q4 i hi
        unfold mixL at this
        rwa [if_pos hi] at this
  · obtain rfl : xss = [] := List.eq_nil_of_length_eq_zero (by omega)
    clear hc
    go_enter Tryd.func28, Tryd.ntmps28
    go_wp2
    go_loop [1, 5] (fun q i => q = .int .i64 k ∧ i = .int .i64 0) (fun _ _ => 0)
    case atStart => exact ⟨rfl, rfl⟩
    case round =>
      obtain ⟨rfl, rfl⟩ := hrel
      go_wp2
      go_ret
      exact ⟨ret_int (by simp [tot]), ⟨a, cap, rfl, hl, fun h => absurd h (by simp [marksL])⟩, ChgF.refl _ _⟩

set_option maxHeartbeats 1000000 in
set_option maxRecDepth 100000 in
theorem heldIntSS_w (v : Value) (xss : List (List Int)) (k : Int) (w : World) (hv : SsAt mI 0 w.heap.size w v (marksL cnts k xss)) (k0 : 0 ≤ k) (k1 : k ≤ 4194304) (hlen : tot xss ≤ 4194304) :
    Calls Tryd.prog 30 #[v, .int .i64 k] w fun e w' => e = .returned (.int .i64 (k + tot xss)) ∧ w' = w := by
  obtain ⟨a, cap, rfl, hl, hc⟩ := hv
  rw [marksL_len] at hc hl ⊢
  have Hc := hide hc
  clear hc
  unfold maxLen at hl
  go_enter Tryd.func30, Tryd.ntmps30
  go_wp2
  go_loop [1, 5] (fun q i => ∃ m : Nat, m ≤ xss.length ∧ i = .int .i64 m ∧ q = .int .i64 (k + tot (xss.take m))) (fun _ i => xss.length - (intOf i).toNat)
  case atStart => exact ⟨0, Nat.zero_le _, rfl, by simp [tot]⟩
  case round =>
    obtain ⟨m, hm, rfl, rfl⟩ := hrel
    have ht := tot_take xss m
    by_cases hlt : m < xss.length
    · obtain ⟨b, off, rfl, hbn, hcell⟩ := unhide Hc (by omega)
      obtain ⟨s, hx, hs, -⟩ := hcell m hlt
      rw [marksL_get cnts k xss m hlt] at hs
      have hlt' : (m : Int) < (xss.length : Int) := by omega
      have hse := tot_get xss m
      have Hstep := hide (tot_step xss m hlt)
      generalize hK : k + (tot (xss.take m) : Int) = K at *
      have HK := hide hK
      have hK1 : 0 ≤ K := by omega
      have hK2 : K ≤ 8388608 := by omega
      have Hs := hide hs
      obtain ⟨sa, sc, rfl, -, -⟩ := id hs
      rw [cnts_len] at hx Hs
      clear hcell hK hs
      generalize xss[m]?.getD [] = x at *
      go_wp2_with fail
      refine (heldIntS_any _ x.length K _ _ _ (unhide Hs) (by omega) (by omega) (by omega)).mono ?_
      rintro e w1 ⟨rfl, rfl⟩
      go_wp2
      go_round
      case rel => exact ⟨m + 1, by omega, by go_num, by rw [unhide Hstep, ← unhide HK]; congr 1; omega⟩
      case measure => simp [intOf]; omega
    · obtain rfl : m = xss.length := by omega
      go_wp2
      go_ret
      exact ⟨ret_int (by simp), rfl⟩

end Go.Proofs.YtijejbdpagbmpaaDoor
