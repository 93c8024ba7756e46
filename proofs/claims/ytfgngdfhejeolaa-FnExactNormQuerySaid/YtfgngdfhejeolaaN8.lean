import Derived.Test.YtfgngdfhejeolaaN7
namespace Go.Proofs.Ytfgngdfhejeolaa
open Go.RowKit

theorem Boxed.below' {w w' : World} {B m : Nat} {t : TypeId} {v : Value} (h : Boxed w B t v) (hb : Below m w w') (hm : B < m) : Boxed w' B t v := (hb.block B hm).trans h

/-- The limits of a query that is made normal. -/
structure Lim (xss : List (List Int)) : Prop where
  len : xss.length ≤ 1000
  each : ∀ k : Nat, k < xss.length → (xss[k]?.getD []).length ≤ 1000 ∧ ∀ j : Nat, j < (xss[k]?.getD []).length → 0 ≤ (xss[k]?.getD [])[j]?.getD 0 ∧ (xss[k]?.getD [])[j]?.getD 0 ≤ 16777215
def NormR (xss rs : List (List Int)) : Prop := (Lim xss ∧ NormV xss rs) ∨ (¬ Lim xss ∧ rs = [])
theorem NormR.uniq {xss rs rs' : List (List Int)} (h : NormR xss rs) (k : NormR xss rs') : rs = rs' := by
  rcases h with ⟨h1, h2⟩ | ⟨h1, h2⟩ <;> rcases k with ⟨k1, k2⟩ | ⟨k1, k2⟩
  · exact h2.uniq k2
  · exact absurd h1 k1
  · exact absurd k1 h1
  · rw [h2, k2]

theorem ssAt_nil {N : Nat} {w : World} : SsAt mI 0 N w (.slice none 0 0) [] := ⟨none, 0, rfl, ⟨Nat.le_refl _, Nat.zero_le _⟩, fun h => absurd h (by simp)⟩

set_option maxHeartbeats 8000000 in
set_option maxRecDepth 100000 in
theorem specNorm_any (u : Value) (xss : List (List Int)) (w : World) (hu : SsAt mI 0 w.heap.size w u xss) (hL : xss.length ≤ 1048576) (hT : tot xss ≤ 1048576) :
    Calls Try.prog 15 #[.agg #[u]] w fun e w' => ∃ v' rs, e = .returned (.agg #[v']) ∧ NormR xss rs ∧ SsAt mI 0 w'.heap.size w' v' rs ∧ Below w.heap.size w w' := by
  have Hu := hide hu
  obtain ⟨a, cap, rfl, hml, hc⟩ := hu
  unfold maxLen at hml
  by_cases h1 : 1000 < xss.length
  · have h1' : (1000 : Int) < (xss.length : Int) := by omega
    go_enter Try.func15, Try.ntmps15
    go_wp2
    exact bodyPost_ret (v := .agg #[.slice none 0 0]) (by simp [results, Try.results15, go_sem]) rfl ⟨_, [], rfl, Or.inr ⟨fun h => by have := h.len; omega, rfl⟩, ssAt_nil, below2 w _ _⟩
  · have h1' : ¬ (1000 : Int) < (xss.length : Int) := by omega
    go_enter Try.func15, Try.ntmps15
    go_wp2_with fail
    have hB0 := below2 w (.cells #[.slice a xss.length cap] 35) (.cells #[.slice none 0 0] 35)
    have RQ := (Boxed.new w 35 (.slice a xss.length cap)).alloc (.cells #[.slice none 0 0] 35)
    have RR := Boxed.new (w.alloc (.cells #[.slice a xss.length cap] 35)) 35 (.slice none 0 0)
    rw [World.size_alloc] at RR
    have hz0 : w.heap.size + 2 ≤ ((w.alloc (.cells #[.slice a xss.length cap] 35)).alloc (.cells #[.slice none 0 0] 35)).heap.size := by rw [sz_alloc, sz_alloc]; omega
    generalize (w.alloc (.cells #[.slice a xss.length cap] 35)).alloc (.cells #[.slice none 0 0] 35) = W0 at *
    have cq := RQ.cell
    have cr := RR.cell
    have fr := RR.frozen
    have HRR := hide RR
    have Hu0 := hide ((unhide Hu).below hB0 (Nat.le_refl _))
    clear RQ RR hc Hu
    go_loop [3] (fun iv => ∃ i : Nat, i ≤ xss.length ∧ iv = .int .i64 i ∧ ∀ k : Nat, k < i → (xss[k]?.getD []).length ≤ 1000 ∧ ∀ j : Nat, j < (xss[k]?.getD []).length → 0 ≤ (xss[k]?.getD [])[j]?.getD 0 ∧ (xss[k]?.getD [])[j]?.getD 0 ≤ 16777215) (fun iv => xss.length - (intOf iv).toNat)
    case atStart => exact ⟨0, Nat.zero_le _, rfl, fun k hk => absurd hk (Nat.not_lt_zero _)⟩
    case round =>
      obtain ⟨i, hix, rfl, hin⟩ := hrel
      have Hin := hide hin
      clear hin
      by_cases hlt : i < xss.length
      · have hlt' : (i : Int) < (xss.length : Int) := by omega
        obtain ⟨_, _, e, -, hc⟩ := unhide Hu0
        cases e
        obtain ⟨b, off, rfl, hbn, hcell⟩ := hc (by omega)
        obtain ⟨sv, hx, hsx, -⟩ := hcell i hlt
        obtain ⟨sa, sc, rfl, hsl, hcs⟩ := hsx
        unfold maxLen at hsl
        have Hno : Hid (¬ ((xss[i]?.getD []).length ≤ 1000 ∧ ∀ j : Nat, j < (xss[i]?.getD []).length → 0 ≤ (xss[i]?.getD [])[j]?.getD 0 ∧ (xss[i]?.getD [])[j]?.getD 0 ≤ 16777215) → ¬ Lim xss) := fun h hl => h (hl.each i hlt)
        have Hnx : Hid (((xss[i]?.getD []).length ≤ 1000 ∧ ∀ j : Nat, j < (xss[i]?.getD []).length → 0 ≤ (xss[i]?.getD [])[j]?.getD 0 ∧ (xss[i]?.getD [])[j]?.getD 0 ≤ 16777215) → ∀ k : Nat, k < i + 1 → (xss[k]?.getD []).length ≤ 1000 ∧ ∀ j : Nat, j < (xss[k]?.getD []).length → 0 ≤ (xss[k]?.getD [])[j]?.getD 0 ∧ (xss[k]?.getD [])[j]?.getD 0 ≤ 16777215) := fun h k hk => by
          by_cases e : k = i
          · subst e; exact h
          · exact unhide Hin k (by omega)
        clear hcell hc Hin
        generalize xss[i]?.getD [] = x at *
        by_cases h2 : 1000 < x.length
        · have h2' : (1000 : Int) < (x.length : Int) := by omega
          have hno := hide (unhide Hno (fun h => by omega))
          clear Hno Hnx hcs
          go_wp2
          exact bodyPost_ret (v := .agg #[.slice none 0 0]) (by simp [results, Try.results15, go_sem, cr]) rfl ⟨_, rfl, [], Or.inr ⟨unhide hno, rfl⟩, ssAt_nil, bput hB0 (by omega) _⟩
        · have h2' : ¬ (1000 : Int) < (x.length : Int) := by omega
          go_wp2_with fail
          go_loop [4] (fun jv => ∃ j : Nat, j ≤ x.length ∧ jv = .int .i64 j ∧ ∀ m : Nat, m < j → 0 ≤ x[m]?.getD 0 ∧ x[m]?.getD 0 ≤ 16777215) (fun jv => x.length - (intOf jv).toNat)
          case atStart => exact ⟨0, Nat.zero_le _, rfl, fun k hk => absurd hk (Nat.not_lt_zero _)⟩
          case round =>
            obtain ⟨j, hjx, rfl, hjn⟩ := hrel
            have Hjn := hide hjn
            clear hjn
            by_cases hj : j < x.length
            · have hj' : (j : Int) < (x.length : Int) := by omega
              obtain ⟨sb, so, rfl, -, hsb, hsc⟩ := hcs (by omega)
              have hy : W0.cell? ⟨sb, so + j, none⟩ = some (.int .i64 (x[j]?.getD 0)) := hsc j hj
              have Hn1 : Hid (¬ (0 ≤ x[j]?.getD 0 ∧ x[j]?.getD 0 ≤ 16777215) → ¬ Lim xss) := fun h => unhide Hno (fun h3 => h (h3.2 j hj))
              have Hn2 : Hid ((0 ≤ x[j]?.getD 0 ∧ x[j]?.getD 0 ≤ 16777215) → ∀ m : Nat, m < j + 1 → 0 ≤ x[m]?.getD 0 ∧ x[m]?.getD 0 ≤ 16777215) := fun h m hm => by
                by_cases e : m = j
                · subst e; exact h
                · exact unhide Hjn m (by omega)
              clear hsc hcs
              generalize x[j]?.getD 0 = z at *
              by_cases g1 : z < 0
              · have hno := hide (unhide Hn1 (fun h => by omega))
                clear Hn1 Hn2 Hno Hnx
                go_wp2
                exact bodyPost_ret (v := .agg #[.slice none 0 0]) (by simp [results, Try.results15, go_sem, cr]) rfl ⟨_, rfl, [], Or.inr ⟨unhide hno, rfl⟩, ssAt_nil, bput hB0 (by omega) _⟩
              · by_cases g2 : 16777215 < z
                · have hno := hide (unhide Hn1 (fun h => by omega))
                  clear Hn1 Hn2 Hno Hnx
                  go_wp2
                  exact bodyPost_ret (v := .agg #[.slice none 0 0]) (by simp [results, Try.results15, go_sem, cr]) rfl ⟨_, rfl, [], Or.inr ⟨unhide hno, rfl⟩, ssAt_nil, bput hB0 (by omega) _⟩
                · have hn := hide (unhide Hn2 ⟨by omega, by omega⟩)
                  clear Hn1 Hn2
                  go_wp2
                  go_round
                  case rel => exact ⟨j + 1, by omega, by go_num, unhide hn⟩
                  case measure => simp [intOf]; omega
            · obtain rfl : j = x.length := by omega
              have hn := hide (unhide Hnx ⟨by omega, unhide Hjn⟩)
              go_wp2
              go_round
              case rel => exact ⟨i + 1, by omega, by go_num, unhide hn⟩
              case measure => simp [intOf]; omega
      · obtain rfl : i = xss.length := by omega
        have Hlim : Hid (Lim xss) := ⟨by omega, unhide Hin⟩
        go_wp2_with fail
        refine (l3normal_any _ xss _ (unhide Hu0) hL hT).mono ?_
        rintro e w1 ⟨v1, ks, rfl, hn, ⟨base, hs1⟩, hb1⟩
        have hz1 := hb1.size
        have HS := hide hs1
        have HN := hide hn
        obtain ⟨ra, rc, rfl⟩ := own_is hs1.own
        have RR1 := Boxed.below' (unhide HRR) hb1 (by omega)
        have cr1 := RR1.cell
        have fr1 := RR1.frozen
        have hBB := hB0.trans (hb1.mono (by omega))
        have Hres := hide (ok_box_row (unhide HS) (by decide) RR1)
        clear hs1 hn
        go_wp2
        exact bodyPost_ret (v := .agg #[.slice ra ks.length rc]) (by simp [results, Try.results15, go_sem, cr1]) rfl ⟨_, _, rfl, Or.inl ⟨unhide Hlim, unhide HN⟩, (unhide Hres _).at, bput hBB (by omega) _⟩

end Go.Proofs.Ytfgngdfhejeolaa
