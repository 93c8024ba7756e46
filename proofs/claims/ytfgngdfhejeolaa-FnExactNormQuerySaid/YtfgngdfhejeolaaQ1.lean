import Derived.Test.YtfgngdfhejeolaaO2
import Derived.Test.YtfgngdfhejeolaaT3
namespace Go.Proofs.Ytfgngdfhejeolaa
open Go.RowKit

theorem asc_le {xs : List Int} (h : Asc xs) {i j : Nat} (hij : i ≤ j) (hj : j < xs.length) : xs[i]?.getD 0 ≤ xs[j]?.getD 0 := by
  by_cases e : i = j
  · subst e; exact Int.le_refl _
  · exact Int.le_of_lt (asc_get h (by omega) hj)

set_option maxHeartbeats 1000000 in
set_option maxRecDepth 100000 in
theorem l3found_any (v : Value) (xs : List Int) (z : Int) (w : World) (hv : SlAt mI 0 0 w.heap.size w v xs) (ha : Asc xs) (hl : xs.length ≤ 1048576) :
    Calls Try.prog 53 #[v, .int .i64 z] w fun e w' => RetB e (z ∈ xs) ∧ w' = w := by
  obtain ⟨a, cap, rfl, hml, hc⟩ := hv
  go_enter Try.func53, Try.ntmps53
  go_wp2_with fail
  go_loop [5, 6] (fun lo hi => ∃ l h : Nat, l ≤ h ∧ h ≤ xs.length ∧ lo = .int .i64 l ∧ hi = .int .i64 h ∧ (∀ k : Nat, k < l → xs[k]?.getD 0 < z) ∧ ∀ k : Nat, h ≤ k → k < xs.length → z < xs[k]?.getD 0) (fun lo hi => (intOf hi).toNat - (intOf lo).toNat)
  case atStart => exact ⟨0, xs.length, Nat.zero_le _, Nat.le_refl _, rfl, rfl, fun k hk => absurd hk (Nat.not_lt_zero _), fun k h1 h2 => absurd h2 (by omega)⟩
  case round =>
    obtain ⟨l, h, hlh, hh, rfl, rfl, hlow, hhigh⟩ := hrel
    have Hlow := hide hlow
    have Hhigh := hide hhigh
    clear hlow hhigh
    by_cases hlt : l < h
    · have hlt' : (l : Int) < (h : Int) := by omega
      obtain ⟨b, off, rfl, -, hbn, hcell⟩ := hc (by omega)
      have hx : w.cell? ⟨b, off + (l + h) / 2, none⟩ = some (.int .i64 (xs[(l + h) / 2]?.getD 0)) := hcell _ (by omega)
      have hm1 : l ≤ (l + h) / 2 := by omega
      have hm2 : (l + h) / 2 < h := by omega
      have hm3 : (l + h) / 2 < xs.length := by omega
      have hin : Hid (xs[(l + h) / 2]?.getD 0 ∈ xs) := mem_get.2 ⟨_, hm3, rfl⟩
      have hL : Hid (xs[(l + h) / 2]?.getD 0 < z → ∀ k : Nat, k < (l + h) / 2 + 1 → xs[k]?.getD 0 < z) := fun hlt k hk => Int.lt_of_le_of_lt (asc_le ha (by omega) hm3) hlt
      have hH : Hid (z < xs[(l + h) / 2]?.getD 0 → ∀ k : Nat, (l + h) / 2 ≤ k → k < xs.length → z < xs[k]?.getD 0) := fun hlt k h1 h2 => Int.lt_of_lt_of_le hlt (asc_le ha h1 h2)
      clear hcell hc
      generalize xs[(l + h) / 2]?.getD 0 = x at *
      generalize hM : (l + h) / 2 = m at *
      have hmI : ((l : Int) + (h : Int)) / 2 = (m : Int) := by omega
      have hm4 : (m : Int) < (xs.length : Int) := by omega
      clear hM
      by_cases g1 : x = z
      · subst g1
        go_wp2
        go_ret
        exact ⟨RetB.yes (unhide hin), rfl⟩
      · have g1' : (x == z) = false := by simp [g1]
        by_cases g2 : x < z
        · go_wp2
          go_round
          case rel => exact ⟨m + 1, h, by omega, by omega, by go_num, rfl, unhide hL g2, unhide Hhigh⟩
          case measure => simp [intOf]; omega
        · go_wp2
          go_round
          case rel => exact ⟨l, m, by omega, by omega, rfl, by rw [hmI], unhide Hlow, unhide hH (by omega)⟩
          case measure => simp [intOf]; omega
    · obtain rfl : l = h := by omega
      go_wp2
      go_ret
      exact ⟨RetB.no (fun hz => by
        obtain ⟨k, hk, e⟩ := mem_get.1 hz
        by_cases h1 : k < l
        · have := unhide Hlow k h1; omega
        · have := unhide Hhigh k (by omega) hk; omega), rfl⟩

set_option maxHeartbeats 1000000 in
set_option maxRecDepth 100000 in
theorem l3holds_any (u v : Value) (xs ys : List Int) (w : World) (hu : SlAt mI 0 0 w.heap.size w u xs) (ha : Asc xs) (hl : xs.length ≤ 1048576) (hv : SlAt mI 0 0 w.heap.size w v ys) :
    Calls Try.prog 41 #[u, v] w fun e w' => RetB e (∀ z, z ∈ ys → z ∈ xs) ∧ w' = w := by
  have Hu := hide hu
  have Ha := hide ha
  obtain ⟨a, cap, rfl, hml, -⟩ := hu
  obtain ⟨a2, cap2, rfl, hml2, hc⟩ := hv
  unfold maxLen at hml2
  clear ha
  go_enter Try.func41, Try.ntmps41
  go_wp2_with fail
  go_loop [5] (fun i => ∃ k : Nat, k ≤ ys.length ∧ i = .int .i64 k ∧ ∀ j : Nat, j < k → ys[j]?.getD 0 ∈ xs) (fun i => ys.length - (intOf i).toNat)
  case atStart => exact ⟨0, Nat.zero_le _, rfl, fun j hj => absurd hj (Nat.not_lt_zero _)⟩
  case round =>
    obtain ⟨k, hk, rfl, hin⟩ := hrel
    have Hin := hide hin
    clear hin
    by_cases hlt : k < ys.length
    · have hlt' : (k : Int) < (ys.length : Int) := by omega
      obtain ⟨b, off, rfl, -, hbn, hcell⟩ := hc (by omega)
      have hx : w.cell? ⟨b, off + k, none⟩ = some (.int .i64 (ys[k]?.getD 0)) := hcell k hlt
      have hmem : Hid (ys[k]?.getD 0 ∈ ys) := mem_get.2 ⟨k, hlt, rfl⟩
      have hnext : Hid (ys[k]?.getD 0 ∈ xs → ∀ j : Nat, j < k + 1 → ys[j]?.getD 0 ∈ xs) := fun h j hj => by
        by_cases e : j = k
        · subst e; exact h
        · exact unhide Hin j (by omega)
      clear hcell hc
      generalize ys[k]?.getD 0 = x at *
      go_wp2_with fail
      refine (l3found_any _ xs x _ (unhide Hu) (unhide Ha) hl).mono ?_
      rintro e w1 ⟨hret, rfl⟩
      rcases hret.cases with ⟨rfl, hy⟩ | ⟨rfl, hn⟩
      · go_wp2
        go_round
        case rel => exact ⟨k + 1, by omega, by go_num, unhide hnext hy⟩
        case measure => simp [intOf]; omega
      · go_wp2
        go_ret
        exact ⟨RetB.no (fun h => hn (h x (unhide hmem))), rfl⟩
    · obtain rfl : k = ys.length := by omega
      clear hc
      go_wp2
      go_ret
      exact ⟨RetB.yes (fun z hz => by
        obtain ⟨j, hj, e⟩ := mem_get.1 hz
        rw [← e]
        exact unhide Hin j hj), rfl⟩

/-- What a query is true of. -/
def EvalP (xss : List (List Int)) (ts : List Int) : Prop := ∃ k : Nat, k < xss.length ∧ ∀ z, z ∈ xss[k]?.getD [] → z ∈ ts

set_option maxHeartbeats 2000000 in
set_option maxRecDepth 100000 in
theorem specEval_any (u v : Value) (xss : List (List Int)) (ts : List Int) (w : World) (hu : SsAt mI 0 w.heap.size w u xss) (hv : SlAt mI 0 0 w.heap.size w v ts) (hcv : CapOk v) (hl : ts.length ≤ 1048576) :
    Calls Try.prog 21 #[.agg #[u], v] w fun e w' => RetB e (EvalP xss ts) ∧ Below w.heap.size w w' := by
  have Hv := hide hv
  have Hu := hide hu
  have Hcv := hide hcv
  obtain ⟨a2, cap2, rfl, hml2, -⟩ := hv
  obtain ⟨a, cap, rfl, hml, -⟩ := hu
  clear hcv
  unfold maxLen at hml
  go_enter Try.func21, Try.ntmps21
  go_wp2_with fail
  refine (l3order_any ts.length _ ts _ (Nat.le_refl _) hl ((unhide Hv).below (below1 w _) (Nat.le_refl _)) (unhide Hcv)).mono ?_
  rintro e w1 ⟨⟨v1, os, rfl, ho, hle, hs1⟩, hb1⟩
  have hz1 := hb1.size
  rw [sz_alloc] at hz1
  have hB1 : Below w.heap.size w w1 := (below1 w _).trans (hb1.mono (by rw [sz_alloc]; omega))
  have HS := hide (hs1.all (Nat.le_refl _))
  have HO := hide ho
  obtain ⟨a1, c1, rfl, -⟩ := hs1
  have hbox : w1.cell? ⟨w.heap.size, 0, none⟩ = some (.slice a xss.length cap) := Boxed.cell (t := 35) ((hb1.block w.heap.size (by rw [sz_alloc]; omega)).trans (Boxed.new w _ _))
  have HU := hide ((unhide Hu).below hB1 (Nat.le_refl _))
  clear ho hb1 Hu Hv
  go_wp2_with fail
  go_loop [5] (fun i => ∃ k : Nat, k ≤ xss.length ∧ i = .int .i64 k ∧ ∀ j : Nat, j < k → ¬ ∀ z, z ∈ xss[j]?.getD [] → z ∈ ts) (fun i => xss.length - (intOf i).toNat)
  case atStart => exact ⟨0, Nat.zero_le _, rfl, fun j hj => absurd hj (Nat.not_lt_zero _)⟩
  case round =>
    obtain ⟨k, hk, rfl, hin⟩ := hrel
    have Hin := hide hin
    clear hin
    by_cases hlt : k < xss.length
    · have hlt' : (k : Int) < (xss.length : Int) := by omega
      obtain ⟨_, _, e, -, hc⟩ := unhide HU
      cases e
      obtain ⟨b, off, rfl, hbn, hcell⟩ := hc (by omega)
      obtain ⟨sv, hx, hsv, -⟩ := hcell k hlt
      have Hsv := hide hsv
      obtain ⟨sa, sc, rfl, -⟩ := hsv
      have hex : Hid ((∀ z, z ∈ xss[k]?.getD [] → z ∈ ts) → EvalP xss ts) := fun h => ⟨k, hlt, h⟩
      have hnext : Hid ((¬ ∀ z, z ∈ xss[k]?.getD [] → z ∈ ts) → ∀ j : Nat, j < k + 1 → ¬ ∀ z, z ∈ xss[j]?.getD [] → z ∈ ts) := fun h j hj => by
        by_cases e : j = k
        · subst e; exact h
        · exact unhide Hin j (by omega)
      clear hcell hc HU
      generalize xss[k]?.getD [] = x at *
      go_wp2_with fail
      refine (l3holds_any _ _ os x _ (unhide HS) (unhide HO).asc (by omega) (unhide Hsv)).mono ?_
      rintro e w2 ⟨hret, rfl⟩
      rcases hret.cases with ⟨rfl, hy⟩ | ⟨rfl, hn⟩
      · go_wp2
        go_ret
        exact ⟨RetB.yes (unhide hex (fun z hz => ((unhide HO).mem z).1 (hy z hz))), hB1⟩
      · have hn' := hide (unhide hnext (fun h => hn (fun z hz => ((unhide HO).mem z).2 (h z hz))))
        clear hn hret
        go_wp2
        go_round
        case rel => exact ⟨k + 1, by omega, by go_num, unhide hn'⟩
        case measure => simp [intOf]; omega
    · obtain rfl : k = xss.length := by omega
      go_wp2
      go_ret
      exact ⟨RetB.no (fun ⟨j, hj, h⟩ => unhide Hin j hj h), hB1⟩

end Go.Proofs.Ytfgngdfhejeolaa
