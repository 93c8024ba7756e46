import Derived.Test.YtpkghafpelilfaaI14
import Derived.Test.YtpkghafpelilfaaN1
import Derived.Laws.BytesArg
namespace Go.Proofs.Ytpkghafpelilfaa
open Go.RowKit

/-- A list of bytes as a string. -/
theorem str_of {N : Nat} {v : Value} {x : List Int} {w : World} (h : SlAt mB 0 0 N w v x) : Sem.run Try.prog (convert 28 9 v) w = .ok (.string (strOfNums x)) w := by
  obtain ⟨a, cap, rfl, hl, hc⟩ := h
  by_cases hp : 0 < x.length
  · obtain ⟨b, off, rfl, -, -, hcell⟩ := hc hp
    exact run_convert_bytes_arg (P := Try.prog) w 28 5 Try.underlying28 Try.underlying5 b off x.length cap x rfl (fun i hi => by rw [hcell i hi, List.getD_eq_getElem?_getD]; rfl) 9 Try.underlying9
  · have e : x = [] := List.eq_nil_of_length_eq_zero (by omega)
    subst e
    have h1 := run_convert_bytes_string (P := Try.prog) w 28 9 5 a 0 cap Try.underlying28 Try.underlying5 Try.underlying9
    rw [show (([] : List Int).length) = 0 from rfl, h1]
    cases a <;> simp [Conv.bytesToString, loadCells]
    all_goals rfl

set_option maxHeartbeats 1000000 in
set_option maxRecDepth 100000 in
theorem l4sameBytes_same (u v : Value) (x : List Int) (N : Nat) (w : World) (hu : SlAt mB 0 0 N w u x) (hv : SlAt mB 0 0 N w v x) :
    Calls Try.prog 37 #[u, v] w fun e w' => e = .returned (.bool true) ∧ ∃ q, w' = w.drewN q := by
  have c1 := str_of hu
  have c2 := str_of hv
  obtain ⟨a, cap, rfl, -, -⟩ := hu
  obtain ⟨a2, cap2, rfl, -, -⟩ := hv
  go_enter Try.func37, Try.ntmps37
  go_wp2
  go_ret
  exact ⟨rfl, 0, rfl⟩

/-- Two segments of the same lines: the same keys and posting lists. -/
theorem l1same_yes' (u v : Value) (xs ys : List Int) (N : Nat) (w : World) (hu : SlAt mI 0 0 N w u xs) (hv : SlAt mI 0 0 N w v ys) (hN : N ≤ w.heap.size) (h : xs = ys) :
    Calls Try.prog 66 #[u, v] w fun e w' => e = .returned (.bool true) ∧ ∃ q, w' = w.drewN q :=
  (l1same_any u v xs ys w (hu.mono (Nat.le_refl _) hN) (hv.mono (Nat.le_refl _) hN)).mono (fun e w' ⟨h1, h2⟩ => by
    rcases h1.cases with ⟨h', -⟩ | ⟨-, h'⟩
    · exact ⟨h', h2⟩
    · exact absurd h h')
theorem l1same_no' (u v : Value) (xs ys : List Int) (N : Nat) (w : World) (hu : SlAt mI 0 0 N w u xs) (hv : SlAt mI 0 0 N w v ys) (hN : N ≤ w.heap.size) (h : ¬ xs = ys) :
    Calls Try.prog 66 #[u, v] w fun e w' => e = .returned (.bool false) ∧ ∃ q, w' = w.drewN q :=
  (l1same_any u v xs ys w (hu.mono (Nat.le_refl _) hN) (hv.mono (Nat.le_refl _) hN)).mono (fun e w' ⟨h1, h2⟩ => by
    rcases h1.cases with ⟨-, h'⟩ | ⟨h', -⟩
    · exact absurd h' h
    · exact ⟨h', h2⟩)

/-- A segment as its fields. -/
theorem SegRd.parts {w : World} {v : Value} {base : Int} {xss pss : List (List Int)} {ks : List Int} (h : SegRd w v base xss ks pss) : ∃ a1 c1 a2 c2 a3 c3, v = .agg #[.int .i64 base, .slice a1 xss.length c1, .slice a2 ks.length c2, .slice a3 pss.length c3] ∧ SsAt mB 0 w.heap.size w (.slice a1 xss.length c1) xss ∧ SlAt mI 0 0 w.heap.size w (.slice a2 ks.length c2) ks ∧ SsAt mI 0 w.heap.size w (.slice a3 pss.length c3) pss := by
  obtain ⟨lv, kv, pv, rfl, h1, h2, h3⟩ := h
  obtain ⟨a1, c1, rfl, -⟩ := id h1
  obtain ⟨a2, c2, rfl, -⟩ := id h2
  obtain ⟨a3, c3, rfl, -⟩ := id h3
  exact ⟨a1, c1, a2, c2, a3, c3, rfl, h1, h2, h3⟩

set_option maxHeartbeats 4000000 in
set_option maxRecDepth 100000 in
theorem l4sameSeg_any (u v : Value) (base : Int) (xss pss pss' : List (List Int)) (ks ks' : List Int) (w : World) (hu : SegRd w u base xss ks pss) (hv : SegRd w v base xss ks' pss') (hL : xss.length ≤ 1048576) (hP : pss.length ≤ 1048576) :
    Calls Try.prog 45 #[u, v] w fun e w' => RetB e (ks = ks' ∧ pss = pss') ∧ Below w.heap.size w w' := by
  obtain ⟨a1, c1, a2, c2, a3, c3, rfl, u1, u2, u3⟩ := hu.parts
  obtain ⟨b1, d1, b2, d2, b3, d3, rfl, v1, v2, v3⟩ := hv.parts
  have U1 := hide u1
  have U2 := hide u2
  have U3 := hide u3
  have V1 := hide v1
  have V2 := hide v2
  have V3 := hide v3
  have hb0 := below2 w (.cells #[.int .i64 base, .slice a1 xss.length c1, .slice a2 ks.length c2, .slice a3 pss.length c3] 30) (.cells #[.int .i64 base, .slice b1 xss.length d1, .slice b2 ks'.length d2, .slice b3 pss'.length d3] 30)
  have RA := (Row4.new w 30 (.int .i64 base) (.slice a1 xss.length c1) (.slice a2 ks.length c2) (.slice a3 pss.length c3)).alloc (.cells #[.int .i64 base, .slice b1 xss.length d1, .slice b2 ks'.length d2, .slice b3 pss'.length d3] 30)
  have RB := Row4.new (w.alloc (.cells #[.int .i64 base, .slice a1 xss.length c1, .slice a2 ks.length c2, .slice a3 pss.length c3] 30)) 30 (.int .i64 base) (.slice b1 xss.length d1) (.slice b2 ks'.length d2) (.slice b3 pss'.length d3)
  rw [sz_alloc] at RB
  have hzV : ((w.alloc (.cells #[.int .i64 base, .slice a1 xss.length c1, .slice a2 ks.length c2, .slice a3 pss.length c3] 30)).alloc (.cells #[.int .i64 base, .slice b1 xss.length d1, .slice b2 ks'.length d2, .slice b3 pss'.length d3] 30)).heap.size = w.heap.size + 2 := by simp
  clear hu hv u1 u2 u3 v1 v2 v3
  go_enter Try.func45, Try.ntmps45
  go_wp2_with fail
  generalize (w.alloc (.cells #[.int .i64 base, .slice a1 xss.length c1, .slice a2 ks.length c2, .slice a3 pss.length c3] 30)).alloc (.cells #[.int .i64 base, .slice b1 xss.length d1, .slice b2 ks'.length d2, .slice b3 pss'.length d3] 30) = V at *
  have hVz : w.heap.size ≤ V.heap.size := by omega
  clear hzV
  refine (l1same_any _ _ ks ks' _ ((unhide U2).below hb0 (Nat.le_refl _)) ((unhide V2).below hb0 (Nat.le_refl _))).mono ?_
  rintro e w1 ⟨hr, q1, rfl⟩
  obtain ⟨f0, f1, f2, f3, -⟩ := RA.facts
  obtain ⟨g0, g1, g2, g3, -⟩ := RB.facts
  have f3V := f3
  have g3V := g3
  have hUL := (unhide U1).below hb0 (Nat.le_refl _)
  have hVL := (unhide V1).below hb0 (Nat.le_refl _)
  have hUP := (unhide U3).below hb0 (Nat.le_refl _)
  have hVP := (unhide V3).below hb0 (Nat.le_refl _)
  have HUL := hide hUL
  have HVL := hide hVL
  have HUP := hide hUP
  have HVP := hide hVP
  clear hUL hVL hUP hVP U1 U2 U3 V1 V2 V3 RA RB
  rcases hr.cases with ⟨rfl, hm⟩ | ⟨rfl, hm⟩
  · have Hm := hide hm
    clear hm hr
    by_cases hpl : pss.length = pss'.length
    · have hpl' : ((pss.length : Int) != (pss'.length : Int)) = false := by simp [hpl]
      have HPL := hide hpl
      have hple : pss.length ≤ pss'.length := by omega
      clear hpl
      go_wp2_with fail
      go_loopw [5] (fun iv wr => (∃ k : Nat, k ≤ xss.length ∧ iv = .int .i64 k) ∧ ∃ q, wr = V.drewN q) (fun iv _ => xss.length - (intOf iv).toNat)
      case atStart => exact ⟨⟨0, Nat.zero_le _, rfl⟩, _, rfl⟩
      case round =>
        obtain ⟨⟨k, hk, rfl⟩, q, hwq⟩ := hrel
        have HQ := hide hwq
        have f1 : wr.cell? ⟨w.heap.size, 1, none⟩ = some (.slice a1 xss.length c1) := by rw [hwq]; exact f1
        have g1 : wr.cell? ⟨w.heap.size + 1, 1, none⟩ = some (.slice b1 xss.length d1) := by rw [hwq]; exact g1
        have f3 : wr.cell? ⟨w.heap.size, 3, none⟩ = some (.slice a3 pss.length c3) := by rw [hwq]; exact f3
        have g3 : wr.cell? ⟨w.heap.size + 1, 3, none⟩ = some (.slice b3 pss'.length d3) := by rw [hwq]; exact g3
        have HULr : Hid (SsAt mB 0 wr.heap.size wr (.slice a1 xss.length c1) xss) := by rw [hwq]; exact unhide HUL
        have HVLr : Hid (SsAt mB 0 wr.heap.size wr (.slice b1 xss.length d1) xss) := by rw [hwq]; exact unhide HVL
        clear hwq
        by_cases hlt : k < xss.length
        · have hlt' : (k : Int) < (xss.length : Int) := by omega
          obtain ⟨_, _, e1, -, hc⟩ := unhide HULr
          cases e1
          obtain ⟨_, _, e2, -, hc'⟩ := unhide HVLr
          cases e2
          obtain ⟨b, off, rfl, -, hcell⟩ := hc (by omega)
          obtain ⟨s, hx, hs, -⟩ := hcell k hlt
          obtain ⟨b', off', rfl, -, hcell'⟩ := hc' (by omega)
          obtain ⟨s', hx', hs', -⟩ := hcell' k hlt
          have Hs := hide hs
          have Hs' := hide hs'
          obtain ⟨sa, sc, rfl, -, -⟩ := hs
          obtain ⟨sa', sc', rfl, -, -⟩ := hs'
          clear hcell hcell' hc hc'
          generalize xss[k]?.getD [] = x at *
          go_wp2_with fail
          go_quiet ((go_at_call 37; refine Calls.quiet_of (l4sameBytes_same _ _ x _ _ (by exact unhide Hs) (by exact unhide Hs'))))
          go_wp2
          go_roundw
          case rel => exact ⟨⟨k + 1, by omega, by go_num⟩, q + nq, by rw [unhide HQ]; exact drew2 _ _ _⟩
          case measure => simp [intOf]; omega
        · obtain rfl : k = xss.length := by omega
          go_wp2_with fail
          go_loopw [6] (fun iv wr => (∃ k : Nat, k ≤ pss.length ∧ iv = .int .i64 k ∧ ∀ j : Nat, j < k → pss[j]?.getD [] = pss'[j]?.getD []) ∧ ∃ q, wr = V.drewN q) (fun iv _ => pss.length - (intOf iv).toNat)
          case atStart => exact ⟨⟨0, Nat.zero_le _, rfl, fun j hj => absurd hj (Nat.not_lt_zero _)⟩, q, unhide HQ⟩
          case round =>
            obtain ⟨⟨k, hk, rfl, hp⟩, q2, hwq⟩ := hrel
            have HQ2 := hide hwq
            have f3 : wr.cell? ⟨w.heap.size, 3, none⟩ = some (.slice a3 pss.length c3) := by rw [hwq]; exact f3V
            have g3 : wr.cell? ⟨w.heap.size + 1, 3, none⟩ = some (.slice b3 pss'.length d3) := by rw [hwq]; exact g3V
            have HUPr : Hid (SsAt mI 0 wr.heap.size wr (.slice a3 pss.length c3) pss) := by rw [hwq]; exact unhide HUP
            have HVPr : Hid (SsAt mI 0 wr.heap.size wr (.slice b3 pss'.length d3) pss') := by rw [hwq]; exact unhide HVP
            have hbr : Below w.heap.size w wr := by rw [hwq]; exact below_drewN hb0 q2
            clear hwq
            have Hp := hide hp
            clear hp
            by_cases hlt : k < pss.length
            · have hlt' : (k : Int) < (pss.length : Int) := by omega
              have hlt2 : (k : Int) < (pss'.length : Int) := by omega
              obtain ⟨_, _, e1, -, hc⟩ := unhide HUPr
              cases e1
              obtain ⟨_, _, e2, -, hc'⟩ := unhide HVPr
              cases e2
              obtain ⟨b, off, rfl, -, hcell⟩ := hc (by omega)
              obtain ⟨s, hx, hs, -⟩ := hcell k hlt
              obtain ⟨b', off', rfl, -, hcell'⟩ := hc' (by omega)
              obtain ⟨s', hx', hs', -⟩ := hcell' k (by omega)
              have Hs := hide hs
              have Hs' := hide hs'
              obtain ⟨sa, sc, rfl, -, -⟩ := hs
              obtain ⟨sa', sc', rfl, -, -⟩ := hs'
              have Hyes : Hid (pss[k]?.getD [] = pss'[k]?.getD [] → ∀ j : Nat, j < k + 1 → pss[j]?.getD [] = pss'[j]?.getD []) := fun h j hj => by
                by_cases e : j = k
                · subst e; exact h
                · exact unhide Hp j (by omega)
              have Hno : Hid (pss[k]?.getD [] ≠ pss'[k]?.getD [] → ¬ (ks = ks' ∧ pss = pss')) := fun h e => h (by rw [e.2])
              clear hcell hcell' hc hc' Hp
              generalize pss[k]?.getD [] = x at *
              generalize pss'[k]?.getD [] = y at *
              by_cases hxy : x = y
              · have HE := hide hxy
                have HN := hide (unhide Hyes hxy)
                clear hxy Hyes Hno
                go_wp2_with fail
                go_quiet ((go_at_call 66; refine Calls.quiet_of (l1same_yes' _ _ x y _ _ (by exact unhide Hs) (by exact unhide Hs') (Nat.le_refl _) (unhide HE))))
                go_wp2
                go_roundw
                case rel => exact ⟨⟨k + 1, by omega, by go_num, unhide HN⟩, q2 + nq, by rw [unhide HQ2]; exact drew2 _ _ _⟩
                case measure => simp [intOf]; omega
              · have HE := hide hxy
                have HN := hide (unhide Hno hxy)
                clear hxy Hyes Hno
                go_wp2_with fail
                go_quiet ((go_at_call 66; refine Calls.quiet_of (l1same_no' _ _ x y _ _ (by exact unhide Hs) (by exact unhide Hs') (Nat.le_refl _) (unhide HE))))
                go_wp2
                go_ret
                exact ⟨RetB.no (unhide HN), below_drewN hbr _⟩
            · obtain rfl : k = pss.length := by omega
              have HY : Hid (ks = ks' ∧ pss = pss') := ⟨unhide Hm, List.ext_getElem (unhide HPL) (fun j h1 h2 => by
                have := unhide Hp j h1
                rwa [List.getElem?_eq_getElem h1, List.getElem?_eq_getElem h2] at this)⟩
              go_wp2
              go_ret
              exact ⟨RetB.yes (unhide HY), hbr⟩
    · have hpl' : ((pss.length : Int) != (pss'.length : Int)) = true := by simp; omega
      have HN : Hid (¬ (ks = ks' ∧ pss = pss')) := fun h => hpl (by rw [h.2])
      clear hpl
      go_wp2_with fail
      go_ret
      exact ⟨RetB.no (unhide HN), below_drewN hb0 _⟩
  · have HN : Hid (¬ (ks = ks' ∧ pss = pss')) := fun h => hm h.1
    clear hm hr
    go_wp2_with fail
    go_ret
    exact ⟨RetB.no (unhide HN), below_drewN hb0 _⟩

theorem l4sameSeg_yes (u v : Value) (base : Int) (xss pss pss' : List (List Int)) (ks ks' : List Int) (w : World) (hu : SegRd w u base xss ks pss) (hv : SegRd w v base xss ks' pss') (hL : xss.length ≤ 1048576) (hP : pss.length ≤ 1048576) (h : ks = ks' ∧ pss = pss') :
    Calls Try.prog 45 #[u, v] w fun e w' => e = .returned (.bool true) ∧ Below w.heap.size w w' :=
  (l4sameSeg_any u v base xss pss pss' ks ks' w hu hv hL hP).mono (fun e w' ⟨h1, h2⟩ => by
    rcases h1.cases with ⟨h', -⟩ | ⟨-, h'⟩
    · exact ⟨h', h2⟩
    · exact absurd h h')
theorem l4sameSeg_no (u v : Value) (base : Int) (xss pss pss' : List (List Int)) (ks ks' : List Int) (w : World) (hu : SegRd w u base xss ks pss) (hv : SegRd w v base xss ks' pss') (hL : xss.length ≤ 1048576) (hP : pss.length ≤ 1048576) (h : ¬ (ks = ks' ∧ pss = pss')) :
    Calls Try.prog 45 #[u, v] w fun e w' => e = .returned (.bool false) ∧ Below w.heap.size w w' :=
  (l4sameSeg_any u v base xss pss pss' ks ks' w hu hv hL hP).mono (fun e w' ⟨h1, h2⟩ => by
    rcases h1.cases with ⟨-, h'⟩ | ⟨h', -⟩
    · exact absurd h' h
    · exact ⟨h', h2⟩)

end Go.Proofs.Ytpkghafpelilfaa
