import Derived.Test.YtfdkdjngeomcdaaDoorP14
import Derived.Test.YtfdkdjngeomcdaaDoorP7
namespace Go.Proofs.YtfdkdjngeomcdaaDoor
open Go.RowKit

open Classical in
theorem l1has_dec (v : Value) (set : List Int) (b : Int) (w : World) (hv : SlAt mI 0 0 w.heap.size w v set) (hl : set.length ≤ 1048576) :
    Calls Tryd.prog 39 #[v, .int .i64 b] w fun e w' => e = .returned (.bool (decide (inPs set b))) ∧ w' = w :=
  (l1has_any v set b w hv hl).mono (fun e w' ⟨⟨r, h1, h2⟩, h3⟩ => ⟨by rw [h1]; congr 2; rw [Bool.eq_iff_iff, h2, decide_eq_true_eq], h3⟩)
set_option maxHeartbeats 8000000 in
set_option maxRecDepth 100000 in
open Classical in
theorem en_s (bs xs : List Int) (hxs : xs.length ≤ 1048576) : EnS bs [⟨1, xs, 0, 0⟩] (rOne bs.length (hsL bs xs)) := by
  intro v lv bq F w hv hlen hlv hbs hbr
  obtain ⟨a, cp, rfl, -, -⟩ := id hv
  obtain ⟨hlen2, hcap, b, off, rfl, hbn, hel⟩ := ElsAt.last (p := []) hv
  simp only [List.length_singleton, List.length_nil, Nat.zero_mul, Nat.add_zero] at hel hv ⊢
  obtain ⟨i1, i2, i3, sv, c0, c1, c2, c3, hints⟩ := hel
  have hsl : SlAt mI 0 0 w.heap.size w sv xs := ints_slAt hints
  obtain ⟨sa, sc, rfl, -, -⟩ := id hsl
  have Hsl := hide hsl
  have Hlv := hide hlv
  have Hbt := hide hbs.2
  have hn := hbs.1
  have hmk := run_make_row' (P := Tryd.prog) 56 4 (.bool false) 1 Tryd.underlying56 Tryd.zinBoolM rfl .i64 .i64 (bs.length + 1) (by omega) (by omega)
  simp only [Int.natCast_add, Int.natCast_one] at hmk
  have hb2 := below2 w (.cells #[.int .i64 1, .slice sa xs.length sc, .int .i64 0, .int .i64 0] 58) (.cells (madeCells #[.bool false] (bs.length + 1)) 4)
  have h0 := br_made (w.alloc (.cells #[.int .i64 1, .slice sa xs.length sc, .int .i64 0, .int .i64 0] 58)) bs.length
  rw [sz_alloc] at h0
  have hq0 : ((w.alloc (.cells #[.int .i64 1, .slice sa xs.length sc, .int .i64 0, .int .i64 0] 58)).alloc (.cells (madeCells #[.bool false] (bs.length + 1)) 4)).cell? ⟨w.heap.size, 1, none⟩ = some (.slice sa xs.length sc) :=
    ((below1 _ _).cell (p := ⟨w.heap.size, 1, none⟩) (by rw [sz_alloc]; exact Nat.lt_succ_self _)).trans ((pushd_alloc w _).news 1 _ rfl)
  have Hbr := hide hbr
  have H0 := hide h0
  have HB2 := hide hb2
  have HQ0 := hide hq0
  obtain ⟨la, lc, rfl, -, -⟩ := id hlv
  clear hv hints i1 i2 i3 hlv hbr hb2 h0 hq0 hsl hbs
  go_enter Tryd.func22, Tryd.ntmps22
  go_wp2_with fail
  go_loopw [10] (fun iv wr => ∃ (i : Nat) (G : Nat → Bool), i ≤ bs.length ∧ iv = .int .i64 i ∧ BR wr bs.length (w.heap.size + 1) G ∧ (∀ j, G j = true ↔ ∃ k, k < i ∧ j = k + 1 ∧ F k = true ∧ hsL bs xs k) ∧ wr.cell? ⟨w.heap.size, 1, none⟩ = some (.slice sa xs.length sc) ∧ w.heap.size + 2 ≤ wr.heap.size ∧ Below w.heap.size w wr) (fun iv _ => bs.length - (intOf iv).toNat)
  case atStart => exact ⟨0, _, Nat.zero_le _, rfl, unhide H0, fun j => ⟨fun h => (by cases h), fun ⟨k, hk, _⟩ => absurd hk (Nat.not_lt_zero _)⟩, unhide HQ0, by rw [sz_alloc, sz_alloc]; omega, unhide HB2⟩
  case round =>
    clear H0 HB2 HQ0 hmk c0 c1 c2 c3
    obtain ⟨i, G, hi, rfl, hG, hGi, hq, hz, hB⟩ := hrel
    have HG := hide hG
    have HGi := hide hGi
    by_cases hlt : i < bs.length
    · have hlt' : (i : Int) < (bs.length : Int) := by omega
      have hlt2 : (i : Int) < (bs.length : Int) + 1 := by omega
      have hlt3 : (i : Int) + 1 < (bs.length : Int) + 1 := by omega
      have hw1 : IntKind.i64.wrap ((i : Int) + 1) = (i : Int) + 1 := k64i (by omega) (by omega)
      have hp1 : (0 : Int) ≤ (i : Int) + 1 := by omega
      have hF := (unhide Hbr).below hB (Nat.le_refl _)
      have d1 := World.rowIs.cell hF (i := i) (by omega)
      have d2 := World.rowIs.cell hG (i := i + 1) (by omega)
      have f2 := World.rowIs.frozen hG (i + 1)
      obtain ⟨_, _, e, -, hc⟩ := (unhide Hlv).below hB (Nat.le_refl _)
      cases e
      obtain ⟨lb, lo, rfl, -, -, hcell⟩ := hc (by omega)
      have d3 := hcell i hlt
      obtain ⟨x, hx⟩ : ∃ x, x = bs[i]?.getD 0 := ⟨_, rfl⟩
      have hx2 : 0 ≤ x ∧ x ≤ 255 := unhide Hbt x (by rw [hx, List.getElem?_eq_getElem hlt]; exact List.getElem_mem hlt)
      rw [← hx] at d3
      have HX := hide hx
      have HSL := hide ((unhide Hsl).below hB (Nat.le_refl _))
      have HBW := hide hB
      unfold mB at d3
      clear hF hc hcell hx hG hGi hB
      have hFIN : ∀ r : Bool, (r = true ↔ F i = true ∧ hsL bs xs i) → ∀ W0 : World, BR W0 bs.length (w.heap.size + 1) G → W0.cell? ⟨w.heap.size, 1, none⟩ = some (.slice sa xs.length sc) → w.heap.size + 2 ≤ W0.heap.size → Below w.heap.size w W0 → ∀ W : World, W = W0.setCell ⟨w.heap.size + 1, i + 1, none⟩ (.bool r) → ∃ (i' : Nat) (G : Nat → Bool), i' ≤ bs.length ∧ (Value.int .i64 ((i : Int) + 1)) = .int .i64 i' ∧ BR W bs.length (w.heap.size + 1) G ∧ (∀ j, G j = true ↔ ∃ k, k < i' ∧ j = k + 1 ∧ F k = true ∧ hsL bs xs k) ∧ W.cell? ⟨w.heap.size, 1, none⟩ = some (.slice sa xs.length sc) ∧ w.heap.size + 2 ≤ W.heap.size ∧ Below w.heap.size w W := by
        intro r hr W0 HG hq hz HBW W hW
        subst hW
        refine ⟨i + 1, fun j => if j = i + 1 then r else G j, by omega, by simp, ?_, fun j => ?_, ?_, ?_, ?_⟩
        · refine World.rowIs.congr (World.rowIs.set HG (i + 1) (.bool r)) (fun j hj => ?_)
          by_cases e : j = i + 1 <;> simp [e]
        · by_cases e : j = i + 1
          · subst e
            simp only [if_pos]
            rw [hr]
            constructor
            · intro h; exact ⟨i, by omega, rfl, h⟩
            · rintro ⟨k, hk, e, h⟩
              obtain rfl : i = k := by omega
              exact h
          · simp only [if_neg e]
            rw [unhide HGi j]
            constructor
            · rintro ⟨k, hk, h⟩; exact ⟨k, by omega, h⟩
            · rintro ⟨k, hk, e2, h⟩; exact ⟨k, by omega, e2, h⟩
        · rw [put_other (Or.inl (by omega))]; exact hq
        · rw [sz_put]; exact hz
        · exact bput HBW (by omega) _
      have HFIN := hide hFIN
      clear hFIN
      cases hFi : F i with
      | false =>
        rw [hFi] at d1
        have HR := hide (unhide HFIN false ⟨fun h => (by cases h), fun h => absurd h.1 (by rw [hFi]; decide)⟩)
        clear hFi HFIN
        go_wp2_with fail
        refine wp_region_quiet_tail 18 (by kernel_rfl) (by kernel_rfl) ?_
        simp only [List.take_succ_cons, List.take_zero, List.drop_succ_cons, List.drop_zero]
        repeat (first | go_big_quiet_skip | (go_big_quiet_want; go_big_quiet_op; go_big_quiet_on))
        refine wpQuiet_nil ?_
        go_wp2
        go_roundw
        case rel => exact unhide HR wr.drew (by exact unhide HG) (by exact hq) (by exact hz) (unhide HBW).drew _ rfl
        case measure => simp [intOf]; omega
      | true =>
        rw [hFi] at d1
        have HR : Hid (∀ r : Bool, (r = true ↔ inPs xs x) → _) := fun r h => unhide HFIN r (by rw [h]; unfold hsL; rw [← unhide HX]; exact ⟨fun q => ⟨hFi, q⟩, fun q => q.2⟩)
        clear hFi HFIN
        go_wp2_with fail
        refine wp_region_quiet_tail 18 (by kernel_rfl) (by kernel_rfl) ?_
        simp only [List.take_succ_cons, List.take_zero, List.drop_succ_cons, List.drop_zero]
        repeat (first | go_big_quiet_skip | (go_big_quiet_want; go_big_quiet_op; go_big_quiet_on))
        go_big_quiet_want
        go_big_quiet_op
        refine ⟨_, l1has_dec _ xs x _ (by exact unhide HSL) hxs, ?_⟩
        go_big_quiet_on
        repeat (first | go_big_quiet_skip | (go_big_quiet_want; go_big_quiet_op; go_big_quiet_on))
        refine wpQuiet_nil ?_
        go_wp2
        go_roundw
        case rel => exact unhide HR _ (by rw [decide_eq_true_eq]) wr.drew (by exact unhide HG) (by exact hq) (by exact hz) (unhide HBW).drew _ rfl
        case measure => simp [intOf]; omega
    · have e : i = bs.length := by omega
      have HB := hide hB
      subst e
      clear hG hGi hB hq
      go_wp2
      go_ret
      refine ⟨_, G, rfl, by omega, unhide HG, fun j hj => ?_, unhide HB⟩
      rw [unhide HGi]
      constructor
      · rintro ⟨k, h1, h2, h3, h4⟩; exact ⟨k, h3, h2, h1, h4⟩
      · rintro ⟨k, h3, h2, h1, h4⟩; exact ⟨k, h1, h2, h3, h4⟩

end Go.Proofs.YtfdkdjngeomcdaaDoor
