import Derived.Test.YtjefklagedidmaaGreatN8
import Derived.Test.YtjefklagedidmaaGreatQ3
namespace Go.Proofs.YtjefklagedidmaaGreat
open Go.RowKit

theorem lexc_le_trans {a b c : List Int} (h1 : lexc a b ≤ 0) (h2 : lexc b c ≤ 0) : lexc a c ≤ 0 := by
  by_cases e1 : lexc a b = 0
  · rw [lexc_zero.1 e1]; exact h2
  · by_cases e2 : lexc b c = 0
    · rw [← lexc_zero.1 e2]; exact h1
    · have := lexc_trans (xs := a) (ys := b) (zs := c) (by omega) (by omega)
      omega

theorem cpt_sub (ps : List (Cl Int)) : ∀ m : Nat, m ≤ ps.length → (cpt ps m).Sublist (ps.take m)
  | 0, _ => by simp [cpt]
  | m + 1, h => by
    have ih := cpt_sub ps m (by omega)
    have e : ps.take (m + 1) = ps.take m ++ [ps[m]?.getD dC] := by
      rw [List.take_add_one]
      simp [show m < ps.length by omega]
    by_cases hk : KpC ps m
    · rw [cpt_keep hk, e]
      exact ih.append (List.Sublist.refl _)
    · rw [cpt_skip hk, e]
      exact ih.trans (List.sublist_append_left _ _)

theorem cpt_mem {ps : List (Cl Int)} : ∀ m : Nat, m ≤ ps.length → ∀ j : Nat, j < m → (ps[j]?.getD dC).xs ∈ (cpt ps m).map Cl.xs
  | 0, _, j, hj => absurd hj (Nat.not_lt_zero _)
  | m + 1, h, j, hj => by
    have ih := cpt_mem (ps := ps) m (by omega)
    by_cases hk : KpC ps m
    · rw [cpt_keep hk, List.map_append, List.mem_append]
      by_cases e : j = m
      · subst e; exact Or.inr (by simp)
      · exact Or.inl (ih j (by omega))
    · rw [cpt_skip hk]
      by_cases e : j = m
      · subst e
        rw [kpc_iff] at hk
        have h0 : j ≠ 0 := fun h => hk (Or.inl h)
        have e2 : (ps[j]?.getD dC).xs = (ps[j - 1]?.getD dC).xs := by
          by_cases e3 : (ps[j]?.getD dC).xs = (ps[j - 1]?.getD dC).xs
          · exact e3
          · exact absurd (Or.inr e3) hk
        rw [e2]
        exact ih (j - 1) (by omega)
      · exact ih j (by omega)

theorem cpt_lasc {ps : List (Cl Int)} (hs : ps.Pairwise (fun p q => lexc p.xs q.xs ≤ 0)) : ∀ m : Nat, m ≤ ps.length → LAsc ((cpt ps m).map Cl.xs)
  | 0, _ => by simp [cpt, LAsc]
  | m + 1, h => by
    have ih := cpt_lasc hs m (by omega)
    by_cases hk : KpC ps m
    · rw [cpt_keep hk, List.map_append]
      refine List.pairwise_append.2 ⟨ih, by simp, fun a ha b hb => ?_⟩
      simp at hb
      subst hb
      obtain ⟨p, hp, rfl⟩ := List.mem_map.1 ha
      have hp' := (cpt_sub ps m (by omega)).subset hp
      obtain ⟨i, hi, e⟩ := List.mem_iff_getElem.1 hp'
      have him : i < m := by simp at hi; omega
      have hpw := List.pairwise_iff_getElem.1 hs
      have e0 : ps[i]'(by omega) = p := by rw [← e]; simp
      have g1 := hpw i m (by omega) (by omega) him
      rw [e0] at g1
      have em : ps[m]?.getD dC = ps[m]'(by omega) := by simp [show m < ps.length by omega]
      rw [em]
      have hne : lexc p.xs (ps[m]'(by omega)).xs ≠ 0 := by
        intro e2
        rw [lexc_zero] at e2
        rw [kpc_iff] at hk
        rcases hk with h0 | h0
        · omega
        · apply h0
          rw [em]
          have em1 : ps[m - 1]?.getD dC = ps[m - 1]'(by omega) := by simp [show m - 1 < ps.length by omega]
          rw [em1]
          have a1 := hpw (m - 1) m (by omega) (by omega) (by omega)
          have a2 : lexc p.xs (ps[m - 1]'(by omega)).xs ≤ 0 := by
            by_cases e3 : i = m - 1
            · subst e3; rw [e0, lexc_zero.2 rfl]; exact Int.le_refl _
            · have := hpw i (m - 1) (by omega) (by omega) (by omega)
              rwa [e0] at this
          rw [e2] at a2
          have a3 := lexc_swap (ps[m - 1]'(by omega)).xs (ps[m]'(by omega)).xs
          exact (lexc_zero.1 (show lexc (ps[m]'(by omega)).xs (ps[m - 1]'(by omega)).xs = 0 by omega))
      omega
    · rw [cpt_skip hk]
      exact ih

set_option maxHeartbeats 4000000 in
set_option maxRecDepth 100000 in
theorem within_any (u : Value) (xss : List (List Int)) (w : World) (hu : SsAt mI 0 w.heap.size w u xss) :
    Calls Tryz.prog 39 #[u] w fun e w' => RetB e (Lim xss) ∧ w' = w := by
  obtain ⟨a, cap, rfl, hml, hc⟩ := hu
  unfold maxLen at hml
  by_cases h1 : 1000 < xss.length
  · have h1' : (1000 : Int) < (xss.length : Int) := by omega
    clear hc
    go_enter Tryz.func39, Tryz.ntmps39
    go_wp2
    go_ret
    exact ⟨RetB.no (fun h => by have := h.len; omega), rfl⟩
  · have h1' : ¬ (1000 : Int) < (xss.length : Int) := by omega
    go_enter Tryz.func39, Tryz.ntmps39
    go_wp2_with fail
    go_loop [12] (fun iv => ∃ i : Nat, i ≤ xss.length ∧ iv = .int .i64 i ∧ ∀ k : Nat, k < i → (xss[k]?.getD []).length ≤ 1000 ∧ ∀ j : Nat, j < (xss[k]?.getD []).length → 0 ≤ (xss[k]?.getD [])[j]?.getD 0 ∧ (xss[k]?.getD [])[j]?.getD 0 ≤ 16777215) (fun iv => xss.length - (intOf iv).toNat)
    case atStart => exact ⟨0, Nat.zero_le _, rfl, fun k hk => absurd hk (Nat.not_lt_zero _)⟩
    case round =>
      obtain ⟨i, hix, rfl, hin⟩ := hrel
      have Hin := hide hin
      clear hin
      by_cases hlt : i < xss.length
      · have hlt' : (i : Int) < (xss.length : Int) := by omega
        obtain ⟨b, off, rfl, hbn, hcell⟩ := hc (by omega)
        obtain ⟨sv, hx, hsx, -⟩ := hcell i hlt
        obtain ⟨sa, sc, rfl, hsl, hcs⟩ := hsx
        unfold maxLen at hsl
        have Hno : Hid (¬ ((xss[i]?.getD []).length ≤ 1000 ∧ ∀ j : Nat, j < (xss[i]?.getD []).length → 0 ≤ (xss[i]?.getD [])[j]?.getD 0 ∧ (xss[i]?.getD [])[j]?.getD 0 ≤ 16777215) → ¬ Lim xss) := fun h hl => h (hl.each i hlt)
        have Hnx : Hid (((xss[i]?.getD []).length ≤ 1000 ∧ ∀ j : Nat, j < (xss[i]?.getD []).length → 0 ≤ (xss[i]?.getD [])[j]?.getD 0 ∧ (xss[i]?.getD [])[j]?.getD 0 ≤ 16777215) → ∀ k : Nat, k < i + 1 → (xss[k]?.getD []).length ≤ 1000 ∧ ∀ j : Nat, j < (xss[k]?.getD []).length → 0 ≤ (xss[k]?.getD [])[j]?.getD 0 ∧ (xss[k]?.getD [])[j]?.getD 0 ≤ 16777215) := fun h k hk => by
          by_cases e : k = i
          · subst e; exact h
          · exact unhide Hin k (by omega)
        clear hcell hc Hin
        generalize xss[i]?.getD [] = x at *
        by_cases h2 : 1000 < x.length
        · have h2' : (1000 : Int) < (x.length : Int) := by omega
          have hno := hide (unhide Hno (fun h => by omega))
          clear Hno Hnx hcs
          go_wp2
          go_ret
          exact ⟨RetB.no (unhide hno), rfl⟩
        · have h2' : ¬ (1000 : Int) < (x.length : Int) := by omega
          go_wp2_with fail
          go_loop [21] (fun jv => ∃ j : Nat, j ≤ x.length ∧ jv = .int .i64 j ∧ ∀ m : Nat, m < j → 0 ≤ x[m]?.getD 0 ∧ x[m]?.getD 0 ≤ 16777215) (fun jv => x.length - (intOf jv).toNat)
          case atStart => exact ⟨0, Nat.zero_le _, rfl, fun k hk => absurd hk (Nat.not_lt_zero _)⟩
          case round =>
            obtain ⟨j, hjx, rfl, hjn⟩ := hrel
            have Hjn := hide hjn
            clear hjn
            by_cases hj : j < x.length
            · have hj' : (j : Int) < (x.length : Int) := by omega
              obtain ⟨sb, so, rfl, -, hsb, hsc⟩ := hcs (by omega)
              have hy : w.cell? ⟨sb, so + j, none⟩ = some (.int .i64 (x[j]?.getD 0)) := hsc j hj
              have Hn1 : Hid (¬ (0 ≤ x[j]?.getD 0 ∧ x[j]?.getD 0 ≤ 16777215) → ¬ Lim xss) := fun h => unhide Hno (fun h3 => h (h3.2 j hj))
              have Hn2 : Hid ((0 ≤ x[j]?.getD 0 ∧ x[j]?.getD 0 ≤ 16777215) → ∀ m : Nat, m < j + 1 → 0 ≤ x[m]?.getD 0 ∧ x[m]?.getD 0 ≤ 16777215) := fun h m hm => by
                by_cases e : m = j
                · subst e; exact h
                · exact unhide Hjn m (by omega)
              clear hsc hcs
              generalize x[j]?.getD 0 = z at *
              by_cases g1 : z < 0
              · have hno := hide (unhide Hn1 (fun h => by omega))
                clear Hn1 Hn2 Hno Hnx
                go_wp2
                go_ret
                exact ⟨RetB.no (unhide hno), rfl⟩
              · by_cases g2 : 16777216 ≤ z
                · have hno := hide (unhide Hn1 (fun h => by omega))
                  clear Hn1 Hn2 Hno Hnx
                  go_wp2
                  go_ret
                  exact ⟨RetB.no (unhide hno), rfl⟩
                · have hn := hide (unhide Hn2 ⟨by omega, by omega⟩)
                  clear Hn1 Hn2
                  go_wp2
                  go_round
                  case rel => exact ⟨j + 1, by omega, by go_num, unhide hn⟩
                  case measure => simp [intOf]; omega
            · obtain rfl : j = x.length := by omega
              have hn := hide (unhide Hnx ⟨by omega, unhide Hjn⟩)
              go_wp2
              go_round
              case rel => exact ⟨i + 1, by omega, by go_num, unhide hn⟩
              case measure => simp [intOf]; omega
      · obtain rfl : i = xss.length := by omega
        have Hlim : Hid (Lim xss) := ⟨by omega, unhide Hin⟩
        clear hc
        go_wp2
        go_ret
        exact ⟨RetB.yes (unhide Hlim), rfl⟩

/-- One of them has all its numbers in c. -/
def OneOf (c : List Int) (oss : List (List Int)) : Prop := ∃ k : Nat, k < oss.length ∧ SubP (oss[k]?.getD []) c

set_option maxHeartbeats 2000000 in
set_option maxRecDepth 100000 in
theorem holdsOneOf_any (u v : Value) (c : List Int) (oss : List (List Int)) (w : World) (hu : SlAt mI 0 0 w.heap.size w u c) (hcu : CapOk u) (ha : Asc c) (hv : SsAt mI 0 w.heap.size w v oss) (has : ∀ k : Nat, k < oss.length → Asc (oss[k]?.getD [])) :
    Calls Tryz.prog 82 #[u, v] w fun e w' => RetB e (OneOf c oss) ∧ ∃ q, w' = w.drewN q := by
  have Hu := hide hu
  have Hcu := hide hcu
  have Ha := hide ha
  have Has := hide has
  obtain ⟨ua, uc, rfl, -, -⟩ := hu
  obtain ⟨a, cap, rfl, hml, hc⟩ := hv
  unfold maxLen at hml
  clear hcu ha has
  go_enter Tryz.func82, Tryz.ntmps82
  go_wp2_with fail
  go_loopw [9] (fun iv wr => (∃ i : Nat, i ≤ oss.length ∧ iv = .int .i64 i ∧ ∀ k : Nat, k < i → ¬ SubP (oss[k]?.getD []) c) ∧ ∃ q, wr = w.drewN q) (fun iv _ => oss.length - (intOf iv).toNat)
  case atStart => exact ⟨⟨0, Nat.zero_le _, rfl, fun k hk => absurd hk (Nat.not_lt_zero _)⟩, 0, rfl⟩
  case round =>
    obtain ⟨⟨i, hix, rfl, hin⟩, q, rfl⟩ := hrel
    have Hin := hide hin
    clear hin
    by_cases hlt : i < oss.length
    · have hlt' : (i : Int) < (oss.length : Int) := by omega
      obtain ⟨b, off, rfl, hbn, hcell⟩ := hc (by omega)
      obtain ⟨sv, hx, hsx, hcx⟩ := hcell i hlt
      have HX := hide hsx
      have HCX := hide hcx
      have HAx := hide (unhide Has i hlt)
      obtain ⟨sa, sc, rfl, -⟩ := hsx
      have Hyes : Hid (SubP (oss[i]?.getD []) c → OneOf c oss) := fun h => ⟨i, hlt, h⟩
      have Hnx : Hid (¬ SubP (oss[i]?.getD []) c → ∀ k : Nat, k < i + 1 → ¬ SubP (oss[k]?.getD []) c) := fun h k hk => by
        by_cases e : k = i
        · subst e; exact h
        · exact unhide Hin k (by omega)
      clear hcell hc hcx Hin
      generalize oss[i]?.getD [] = x at *
      go_wp2_with fail
      refine (holdsAll_any _ _ c x _ (by exact unhide Hu) (unhide Hcu) (unhide Ha) (by exact unhide HX) (unhide HCX) (unhide HAx)).mono ?_
      rintro e w1 ⟨hret, q1, rfl⟩
      rcases hret.cases with ⟨rfl, hy⟩ | ⟨rfl, hn⟩
      · have HY := hide (unhide Hyes hy)
        clear hy Hyes Hnx hret
        go_wp2
        go_ret
        exact ⟨RetB.yes (unhide HY), _, rfl⟩
      · have HN := hide (unhide Hnx hn)
        clear hn Hyes Hnx hret
        go_wp2
        go_roundw
        case rel => exact ⟨⟨i + 1, by omega, by go_num, unhide HN⟩, _, rfl⟩
        case measure => simp [intOf]; omega
    · obtain rfl : i = oss.length := by omega
      clear hc
      go_wp2
      go_ret
      exact ⟨RetB.no (fun ⟨k, hk, h⟩ => unhide Hin k hk h), _, rfl⟩

end Go.Proofs.YtjefklagedidmaaGreat
