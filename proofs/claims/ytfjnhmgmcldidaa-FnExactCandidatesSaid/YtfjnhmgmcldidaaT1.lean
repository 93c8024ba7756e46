import Derived.Test.YtfjnhmgmcldidaaS9
import Derived.Test.YtfjnhmgmcldidaaA1
import Derived.Deep.RegionWith
namespace Go.Proofs.Ytfjnhmgmcldidaa
open Go.RowKit

theorem Try.zinIntS : (Try.prog.info? 23).map (fun i => (i.zero, i.size, i.bytes)) = some (some (.slice none 0 0), 1, 24) := by kernel_rfl

set_option maxHeartbeats 400000 in
set_option maxRecDepth 100000 in
theorem toIntSS_w (v : Value) (xss : List (List Int)) (w : World) (hv : SsAt mI 0 w.heap.size w v xss) (hlen : xss.length ≤ 1048576) (hset : tot xss ≤ 1048576) :
    Calls Try.prog 24 #[v] w fun e w' => ∃ v', e = .returned v' ∧ SsF mI 0 (Rng w.heap.size w'.heap.size) w' v' xss ∧ Below w.heap.size w w' := by
  obtain ⟨a, cap, rfl, hl, hc⟩ := hv
  have hmk := run_make_row' (P := Try.prog) 24 23 (.slice none 0 0) 24 Try.underlying24 Try.zinIntS rfl .i64 .i64 xss.length (by omega) (by omega)
  go_enter Try.func24, Try.ntmps24
  go_wp2
  go_loopw [4] (fun i wr => ∃ k : Nat, k ≤ xss.length ∧ i = .int .i64 k ∧ PartS mI 0 23 w.heap.size wr xss k ∧ Below w.heap.size w wr) (fun i _ => xss.length - (intOf i).toNat)
  case atStart => exact ⟨0, Nat.zero_le _, rfl, ⟨_, fun _ _ => False, World.rowIs_made w (.slice none 0 0) xss.length 23, by intro i hi; omega, by intro i hi; omega, by intro i j hi; omega⟩, below1 w _⟩
  case round =>
    obtain ⟨k, hk, rfl, hpart, hb⟩ := hrel
    have Hpart := hide hpart
    obtain ⟨f, T, hrow, -⟩ := hpart
    by_cases hlt : k < xss.length
    · obtain ⟨b, off, rfl, hbn, hel⟩ := hc (by omega)
      obtain ⟨s, hs1, hs2, -⟩ := hel k hlt
      have hsk := tot_get xss k
      have hx : wr.cell? ⟨b, off + k, none⟩ = some s := by rw [hb.cell (p := ⟨b, off + k, none⟩) hbn]; exact hs1
      have hs3 := hide (hs2.below hb (Nat.le_refl _))
      generalize hX : xss[k]?.getD [] = x at *
      have HX := hide hX
      have hlt' : (k : Int) < (xss.length : Int) := by omega
      have hrow' := hide hrow
      obtain ⟨a', cap', rfl, -, -⟩ := id hs2
      clear hmk hX hrow hs1 hs2 hel hc
      go_wp2_with fail
      refine (toIntS_wc _ x _ (unhide hs3) (by omega)).mono ?_
      rintro e w1 ⟨v', rfl, hv', hcv, hb1⟩
      have hN := (unhide hrow').lt
      have hrow := (unhide hrow').of_block (hb1.block _ hN)
      have d0 := hrow.cell (i := k) hlt
      have e0 := hrow.frozen k
      obtain ⟨a2, cap2, rfl⟩ : ∃ a2 c2, v' = .slice a2 x.length c2 := by
        obtain ⟨a2, c2, e, -⟩ := hv'
        exact ⟨a2, c2, e⟩
      have Hv' := hide hv'
      have Hcv := hide hcv
      have hz1 := hb1.size
      clear hrow hv' hcv
      go_wp2
      have hst := partS_step (unhide Hpart) hlt hb1 (by rw [unhide HX]; exact unhide Hv') (unhide Hcv)
      exact ⟨⟨k + 1, by omega, by go_num, hst, bput (hb.trans (hb1.mono hb.size)) (Nat.le_refl _) _⟩, by simp [intOf]; omega⟩
    · obtain rfl : k = xss.length := by omega
      clear hmk hrow
      go_wp2
      go_ret
      exact ⟨_, rfl, partS_done (unhide Hpart) ⟨Nat.le_refl _, Nat.le_trans hl.1 hl.2⟩, hb⟩

set_option maxHeartbeats 1000000 in
theorem eqIntSS_w (u v : Value) (xss : List (List Int)) (w : World) (hu : SsAt mI 0 w.heap.size w u xss) (hv : SsAt mI 0 w.heap.size w v xss) :
    Calls Try.prog 32 #[u, v] w fun e w' => e = .returned (.bool true) ∧ Below w.heap.size w w' := by
  obtain ⟨a, cap, rfl, hl, hc⟩ := hu
  obtain ⟨a2, cap2, rfl, -, hc2⟩ := hv
  unfold maxLen at hl
  go_enter Try.func32, Try.ntmps32
  go_wp2
  go_loopw [5] (fun i wr => ∃ k : Nat, k ≤ xss.length ∧ i = .int .i64 k ∧ Below w.heap.size w wr) (fun i _ => xss.length - (intOf i).toNat)
  case atStart => exact ⟨0, Nat.zero_le _, rfl, Below.refl _ _⟩
  case round =>
    obtain ⟨k, hk, rfl, hb⟩ := hrel
    by_cases hlt : k < xss.length
    · obtain ⟨b, off, rfl, hbn, hcell⟩ := hc (by omega)
      obtain ⟨b2, off2, rfl, hbn2, hcell2⟩ := hc2 (by omega)
      obtain ⟨s, hx0, hs, -⟩ := hcell k hlt
      obtain ⟨s2, hx20, hs2, -⟩ := hcell2 k hlt
      have hx : wr.cell? ⟨b, off + k, none⟩ = some s := by rw [hb.cell (p := ⟨b, off + k, none⟩) hbn]; exact hx0
      have hx2 : wr.cell? ⟨b2, off2 + k, none⟩ = some s2 := by rw [hb.cell (p := ⟨b2, off2 + k, none⟩) hbn2]; exact hx20
      have hlt' : (k : Int) < (xss.length : Int) := by omega
      have Hs := hide (hs.below hb (Nat.le_refl _))
      have Hs2 := hide (hs2.below hb (Nat.le_refl _))
      obtain ⟨p, q, rfl, -, -⟩ := id hs
      obtain ⟨p2, q2, rfl, -, -⟩ := id hs2
      clear hcell hcell2 hc hc2 hs hs2 hx0 hx20
      generalize xss[k]?.getD [] = x at *
      go_wp2
      go_region_with (go_at_call 10; refine (eqIntS_w _ _ x _ (by exact unhide Hs) (by exact unhide Hs2)).mono ?_; rintro e w1 ⟨rfl, n, rfl⟩)
      all_goals
        go_wp2
        go_roundw
        case rel => exact ⟨k + 1, by omega, by go_num, below_drewN (by exact hb) _⟩
        case measure => simp [intOf]; omega
    · obtain rfl : k = xss.length := by omega
      clear hc hc2
      go_wp2
      go_ret
      exact ⟨rfl, hb⟩

set_option maxHeartbeats 1000000 in
set_option maxRecDepth 100000 in
theorem markIntSS_w (v : Value) (xss : List (List Int)) (k : Int) (S : Nat → Prop) (w : World) (hv : SsF mI 0 S w v xss) (k0 : 0 ≤ k) (k1 : k ≤ 4194304) (hlen : tot xss ≤ 4194304) :
    Calls Try.prog 34 #[v, .int .i64 k] w fun e w' => e = .returned (.int .i64 (k + tot xss)) ∧ SsF mI 0 S w' v (marksL cnts k xss) ∧ ChgF S w w' := by
  obtain ⟨a, cap, rfl, hl, hc⟩ := hv
  by_cases hp : 0 < xss.length
  · obtain ⟨b, off, sv, T, rfl, h1, h2, h3, h4, h5, h6⟩ := hc hp
    have Hst0 : Hid (MkS mI 0 S w w (marksL cnts k xss) xss b off sv T 0) := ⟨h2, h3, fun i hi => by unfold mixL; rw [if_neg (by omega)]; exact h4 i hi, ChgF.refl _ _⟩
    have H5 := hide h5
    have H6 := hide h6
    clear hc h2 h3 h4 h5 h6
    unfold maxLen at hl
    go_enter Try.func34, Try.ntmps34
    go_wp2
    go_loopw [1, 5] (fun q i wr => ∃ m : Nat, m ≤ xss.length ∧ i = .int .i64 m ∧ q = .int .i64 (k + tot (xss.take m)) ∧ MkS mI 0 S w wr (marksL cnts k xss) xss b off sv T m) (fun _ i _ => xss.length - (intOf i).toNat)
    case atStart => exact ⟨0, Nat.zero_le _, rfl, by simp [tot], unhide Hst0⟩
    case round =>
      obtain ⟨m, hm, rfl, rfl, hmk⟩ := hrel
      have Hmk := hide hmk
      have ht := tot_take xss m
      by_cases hlt : m < xss.length
      · obtain ⟨-, hq3, hq4, -⟩ := hmk
        have hc3 := hq3 m hlt
        have hc4 := (hq4 m hlt).1
        unfold mixL at hc4
        rw [if_neg (by omega)] at hc4
        have hlt' : (m : Int) < (xss.length : Int) := by omega
        have hse := tot_get xss m
        have Hstep := hide (tot_step xss m hlt)
        have Hget := hide (marksL_get cnts k xss m hlt)
        obtain ⟨sa, sc, hsv⟩ := hc4.val
        rw [hsv] at hc3
        obtain ⟨lo, n, hw, hT⟩ := hc4
        rw [hsv] at hw
        have Hw := hide hw
        have HT := hide hT
        have Hsv := hide hsv
        clear hq3 hq4 hsv hw hT
        generalize hK : k + (tot (xss.take m) : Int) = K at *
        have HK := hide hK
        have hK1 : 0 ≤ K := by omega
        have hK2 : K ≤ 8388608 := by omega
        clear hK
        generalize hX : xss[m]?.getD [] = x at *
        have HX := hide hX
        clear hX
        go_wp2_with fail
        refine (markIntS_any _ x K lo n _ (unhide Hw) (by omega) (by omega) (by omega)).mono ?_
        rintro e w1 ⟨rfl, hs1, hc1⟩
        have hst := hide (mkS_step (unhide Hmk) hlt (unhide H5) (unhide H6) (hc1.foot (unhide HT)) (by rw [unhide Hget, unhide Hsv]; exact ⟨lo, n, hs1, unhide HT⟩))
        clear hs1 hc1
        go_wp2
        exact ⟨⟨m + 1, by omega, by go_num, by rw [unhide Hstep, ← unhide HK]; congr 1; omega, unhide hst⟩, by simp [intOf]; omega⟩
      · obtain rfl : m = xss.length := by omega
        clear hmk
        go_wp2
        go_ret
        obtain ⟨q2, q3, q4, q8⟩ := unhide Hmk
        refine ⟨ret_int (by rw [List.take_length]), ⟨_, cap, by rw [marksL_len], by rw [marksL_len]; unfold maxLen; exact hl, fun _ => ⟨b, off, sv, T, rfl, h1, q2, fun i hi => q3 i (by rwa [marksL_len] at hi), fun i hi => ?_, fun i hi => unhide H5 i (by rwa [marksL_len] at hi), fun i j hi hj hne => unhide H6 i j (by rwa [marksL_len] at hi) (by rwa [marksL_len] at hj) hne⟩⟩, q8⟩
        rw [marksL_len] at hi
        have := q4 i hi
        unfold mixL at this
        rwa [if_pos hi] at this
  · obtain rfl : xss = [] := List.eq_nil_of_length_eq_zero (by omega)
    clear hc
    go_enter Try.func34, Try.ntmps34
    go_wp2
    go_loop [1, 5] (fun q i => q = .int .i64 k ∧ i = .int .i64 0) (fun _ _ => 0)
    case atStart => exact ⟨rfl, rfl⟩
    case round =>
      obtain ⟨rfl, rfl⟩ := hrel
      go_wp2
      go_ret
      exact ⟨ret_int (by simp [tot]), ⟨a, cap, rfl, hl, fun h => absurd h (by simp [marksL])⟩, ChgF.refl _ _⟩

set_option maxHeartbeats 1000000 in
theorem szIntSS_w (v : Value) (xss : List (List Int)) (left : Int) (w : World) (hv : SsAt mI 0 w.heap.size w v xss) (h0 : 0 ≤ left) (h1 : left ≤ 1048576) :
    Calls Try.prog 19 #[v, .int .i64 left] w fun e w' => (∃ r : Int, e = .returned (.int .i64 r) ∧ (r = -1 ∨ (0 ≤ r ∧ r = left - xss.length - tot xss))) ∧ w' = w := by
  obtain ⟨a, cap, rfl, hlen, hc⟩ := hv
  unfold maxLen at hlen
  by_cases hlt : left < (xss.length : Int)
  · go_enter Try.func19, Try.ntmps19
    go_wp2
    go_ret
    exact ⟨⟨-1, rfl, Or.inl rfl⟩, rfl⟩
  · have hlt' : (xss.length : Int) ≤ left := by omega
    go_enter Try.func19, Try.ntmps19
    go_wp2
    go_loop [1, 5] (fun l i => ∃ k : Nat, k ≤ xss.length ∧ i = .int .i64 k ∧ l = .int .i64 (left - xss.length - tot (xss.take k)) ∧ 0 ≤ left - xss.length - tot (xss.take k)) (fun _ i => xss.length - (intOf i).toNat)
    case atStart => exact ⟨0, Nat.zero_le _, rfl, by simp [tot], by simp [tot]; omega⟩
    case round =>
      obtain ⟨k, hk, rfl, rfl, hge⟩ := hrel
      by_cases hlt2 : k < xss.length
      · obtain ⟨b, off, rfl, hbn, hcell⟩ := hc (by omega)
        obtain ⟨s, hx, hs, -⟩ := hcell k hlt2
        obtain ⟨sa, sc, rfl, hsl, -⟩ := hs
        have hlt3 : (k : Int) < (xss.length : Int) := by omega
        have HB := hide (tot_step xss k hlt2)
        clear hcell hc
        generalize xss[k]?.getD [] = x at *
        generalize hL : left - (xss.length : Int) - (tot (List.take k xss) : Int) = L at *
        have HL := hide hL
        have hL1 : L ≤ 1048576 := by omega
        clear hL
        by_cases hx : L < (x.length : Int)
        · have hz := szR_neg hx
          go_wp2_with (go_at_call 18; refine (szIntS_any _ _ _ _ _ hsl hge hL1).mono ?_; rintro e w1 ⟨rfl, rfl⟩)
          go_ret
          exact ⟨⟨-1, rfl, Or.inl rfl⟩, rfl⟩
        · have hx' : (x.length : Int) ≤ L := by omega
          have hz := szR_pos hx'
          go_wp2_with (go_at_call 18; refine (szIntS_any _ _ _ _ _ hsl hge hL1).mono ?_; rintro e w1 ⟨rfl, rfl⟩)
          go_round
          case rel => exact ⟨k + 1, by omega, by go_num, by have h1 := unhide HL; have h2 := unhide HB; rw [h2]; congr 1; omega, by have h1 := unhide HL; have h2 := unhide HB; rw [h2]; omega⟩
          case measure => simp [intOf]; omega
      · obtain rfl : k = xss.length := by omega
        go_wp2
        go_ret
        exact ⟨⟨_, rfl, Or.inr ⟨by simpa using hge, by simp⟩⟩, rfl⟩

end Go.Proofs.Ytfjnhmgmcldidaa
