import Derived.Test.YtfjnhmgmcldidaaSgm
import Derived.Test.YtfjnhmgmcldidaaQ1
namespace Go.Proofs.Ytfjnhmgmcldidaa
open Go.RowKit

/-- What Candidates looks at. -/
def Rch (xss : List (List Int)) (ks : List Int) (pss qss : List (List Int)) : Prop :=
  xss.length ≤ 1000 ∧ ks.length ≤ 20000 ∧ (∀ i : Nat, i < pss.length → (pss[i]?.getD []).length ≤ 1000) ∧ qss.length ≤ 1000 ∧ ∀ i : Nat, i < qss.length → (qss[i]?.getD []).length ≤ 1000
/-- A posting list gives line i to the number t. -/
def Lst (base : Int) (ks : List Int) (pss : List (List Int)) (t : Int) (i : Nat) : Prop :=
  ∃ j : Nat, j < ks.length ∧ j < pss.length ∧ ks[j]?.getD 0 = t ∧ wrap64 (base + i) ∈ pss[j]?.getD []
/-- Some clause leaves line i. -/
def Cnd (base : Int) (ks : List Int) (pss qss : List (List Int)) (i : Nat) : Prop :=
  ∃ c : Nat, c < qss.length ∧ ∀ t ∈ qss[c]?.getD [], Lst base ks pss t i
/-- The same as truths. -/
def lstB (base : Int) (ks : List Int) (pss : List (List Int)) (t : Int) (i : Nat) : Bool := (List.range ks.length).any fun j => decide (j < pss.length) && decide (ks[j]?.getD 0 = t) && (pss[j]?.getD []).contains (wrap64 (base + i))
theorem lstB_iff (base : Int) (ks : List Int) (pss : List (List Int)) (t : Int) (i : Nat) : lstB base ks pss t i = true ↔ Lst base ks pss t i := by
  unfold lstB Lst
  rw [List.any_eq_true]
  constructor
  · rintro ⟨j, h1, h2⟩
    rw [Bool.and_eq_true, Bool.and_eq_true, decide_eq_true_eq, decide_eq_true_eq, List.contains_iff_mem] at h2
    exact ⟨j, List.mem_range.1 h1, h2.1.1, h2.1.2, h2.2⟩
  · rintro ⟨j, h1, h2, h3, h4⟩
    exact ⟨j, List.mem_range.2 h1, by rw [Bool.and_eq_true, Bool.and_eq_true, decide_eq_true_eq, decide_eq_true_eq, List.contains_iff_mem]; exact ⟨⟨h2, h3⟩, h4⟩⟩
def mkB (base : Int) (ks : List Int) (pss : List (List Int)) (ts : List Int) (i : Nat) : Bool := ts.all fun t => lstB base ks pss t i
theorem mkB_iff (base : Int) (ks : List Int) (pss : List (List Int)) (ts : List Int) (i : Nat) : mkB base ks pss ts i = true ↔ ∀ t ∈ ts, Lst base ks pss t i := by
  unfold mkB
  rw [List.all_eq_true]
  exact ⟨fun h t ht => (lstB_iff _ _ _ _ _).1 (h t ht), fun h t ht => (lstB_iff _ _ _ _ _).2 (h t ht)⟩
/-- The lines that the first c clauses leave. -/
def smB (base : Int) (ks : List Int) (pss qss : List (List Int)) (c i : Nat) : Bool := (List.range c).any fun c' => mkB base ks pss (qss[c']?.getD []) i
theorem smB_iff (base : Int) (ks : List Int) (pss qss : List (List Int)) (c i : Nat) : smB base ks pss qss c i = true ↔ ∃ c', c' < c ∧ ∀ t ∈ qss[c']?.getD [], Lst base ks pss t i := by
  unfold smB
  rw [List.any_eq_true]
  constructor
  · rintro ⟨c', h1, h2⟩
    exact ⟨c', List.mem_range.1 h1, (mkB_iff _ _ _ _ _).1 h2⟩
  · rintro ⟨c', h1, h2⟩
    exact ⟨c', List.mem_range.2 h1, (mkB_iff _ _ _ _ _).2 h2⟩
/-- The positions of the lines that are left. -/
def cndL (base : Int) (n : Nat) (p : Nat → Bool) : List Int := ((List.range n).filter p).map (fun i : Nat => wrap64 (base + i))
theorem cndL_zero (base : Int) (p : Nat → Bool) : cndL base 0 p = [] := rfl
theorem cndL_yes {base : Int} {n : Nat} {p : Nat → Bool} (h : p n = true) : cndL base (n + 1) p = cndL base n p ++ [wrap64 (base + n)] := by
  unfold cndL
  rw [List.range_succ, List.filter_append, List.map_append]
  congr 1
  rw [List.filter_cons_of_pos h]
  rfl
theorem cndL_no {base : Int} {n : Nat} {p : Nat → Bool} (h : ¬ p n = true) : cndL base (n + 1) p = cndL base n p := by
  unfold cndL
  rw [List.range_succ, List.filter_append, List.map_append]
  rw [List.filter_cons_of_neg h]
  simp
theorem cndL_len (base : Int) (n : Nat) (p : Nat → Bool) : (cndL base n p).length ≤ n := by
  unfold cndL
  rw [List.length_map]
  exact Nat.le_trans (List.length_filter_le _ _) (by simp)
theorem pushd_al (w : World) (o : Obj) : Pushd w (w.alloc o) o := ⟨rfl, rfl, rfl, rfl⟩
/-- A list of lists: where element i lies. -/
theorem ss_at {w : World} {v : Value} {xss : List (List Int)} (h : SsAt mI 0 w.heap.size w v xss) : ∃ a cap, v = .slice a xss.length cap ∧ xss.length ≤ 9223372036854775807 ∧ ∀ i : Nat, i < xss.length → ∃ b off sa sc, a = some ⟨b, off, none⟩ ∧ b < w.heap.size ∧ w.cell? ⟨b, off + i, none⟩ = some (.slice sa (xss[i]?.getD []).length sc) ∧ SlAt mI 0 0 w.heap.size w (.slice sa (xss[i]?.getD []).length sc) (xss[i]?.getD []) ∧ CapOk (.slice sa (xss[i]?.getD []).length sc) := by
  obtain ⟨a, cap, rfl, hl, hc⟩ := h
  refine ⟨a, cap, rfl, by unfold maxLen at hl; omega, fun i hi => ?_⟩
  obtain ⟨b, off, rfl, hb, hcell⟩ := hc (by omega)
  obtain ⟨s, h1, h2, h3⟩ := hcell i hi
  obtain ⟨sa, sc, rfl, -, -⟩ := id h2
  exact ⟨b, off, sa, sc, rfl, hb, h1, h2, h3⟩

set_option maxHeartbeats 4000000 in
set_option maxRecDepth 100000 in
theorem l4great_any (v u : Value) (base : Int) (xss pss qss : List (List Int)) (ks : List Int) (w : World) (hv : SegRd w v base xss ks pss) (hu : SsAt mI 0 w.heap.size w u qss) :
    Calls Try.prog 20 #[v, .agg #[u]] w fun e w' => RetB e (¬ Rch xss ks pss qss) ∧ Below w.heap.size w w' := by
  obtain ⟨lv, kv, pv, rfl, h1, h2, h3⟩ := hv
  obtain ⟨la, lc, rfl, -, -⟩ := id h1
  obtain ⟨ka, kc, rfl, -, -⟩ := id h2
  obtain ⟨W2, hW2⟩ : ∃ W2, W2 = (w.alloc (.cells #[.int .i64 base, .slice la xss.length lc, .slice ka ks.length kc, pv] 32)).alloc (.cells #[u] 34) := ⟨_, rfl⟩
  have hB2 : Below w.heap.size w W2 := by rw [hW2]; exact below2 w _ _
  have hR2 : Row4 W2 w.heap.size 32 (.int .i64 base) (.slice la xss.length lc) (.slice ka ks.length kc) pv := by rw [hW2]; exact (Row4.new w _ _ _ _ _).alloc _
  have hq : W2.cell? ⟨w.heap.size + 1, 0, none⟩ = some u := by
    have := (pushd_al (w.alloc (.cells #[.int .i64 base, .slice la xss.length lc, .slice ka ks.length kc, pv] 32)) (.cells #[u] 34)).news 0 u rfl
    rw [sz_alloc] at this
    rw [hW2]
    exact this
  obtain ⟨pa, pc, rfl, hpl, hps⟩ := ss_at (h3.below hB2 (Nat.le_refl _))
  obtain ⟨ua, uc, rfl, hul, hus⟩ := ss_at (hu.below hB2 (Nat.le_refl _))
  obtain ⟨k0, k1, k2, k3, -⟩ := hR2.facts
  have HW2 := hide hW2
  have HB2 := hide hB2
  have HPS := hide hps
  have HUS := hide hus
  clear h1 h2 h3 hu hW2 hB2 hR2 hps hus
  go_enter Try.func20, Try.ntmps20
  by_cases e1 : xss.length ≤ 1000
  · by_cases e2 : ks.length ≤ 20000
    · by_cases e3 : qss.length ≤ 1000
      · have f1 : ¬ (1000 : Int) < (xss.length : Int) := by omega
        have f2 : ¬ (20000 : Int) < (ks.length : Int) := by omega
        have f3 : ¬ (1000 : Int) < (qss.length : Int) := by omega
        go_wp2_with fail
        rw [← unhide HW2]
        go_loopw [5] (fun iv wr => wr = W2 ∧ ∃ i : Nat, i ≤ pss.length ∧ iv = .int .i64 (i : Nat) ∧ ∀ j : Nat, j < i → (pss[j]?.getD []).length ≤ 1000) (fun iv _ => pss.length - (intOf iv).toNat)
        case atStart => exact ⟨rfl, 0, by omega, rfl, fun j hj => by omega⟩
        case round =>
          obtain ⟨rfl, i, hi, rfl, hj⟩ := hrel
          by_cases hlt : i < pss.length
          · have hlt' : (i : Int) < (pss.length : Int) := by omega
            obtain ⟨b, off, sa, sc, rfl, hb, hcell, -, -⟩ := unhide HPS i hlt
            obtain ⟨z, hz⟩ : ∃ z, z = (pss[i]?.getD []).length := ⟨_, rfl⟩
            rw [← hz] at hcell
            by_cases hg : z ≤ 1000
            · have hg' : ¬ (1000 : Int) < (z : Int) := by omega
              have HJ : Hid (∀ j : Nat, j < i + 1 → (pss[j]?.getD []).length ≤ 1000) := fun j hj2 => by
                by_cases e : j = i
                · subst e; omega
                · exact hj j (by omega)
              clear hj hz
              go_wp2
              go_roundw
              case rel => exact ⟨by first | trivial | rfl, i + 1, by omega, by go_num, unhide HJ⟩
              case measure => simp [intOf]; omega
            · have hg' : (1000 : Int) < (z : Int) := by omega
              have HX : Hid (RetB (.returned (.bool true)) (¬ Rch xss ks pss qss)) := RetB.yes (fun h => by have := h.2.2.1 i hlt; omega)
              clear hj hz
              go_wp2
              go_ret
              exact ⟨unhide HX, unhide HB2⟩
          · have hlt' : ¬ (i : Int) < (pss.length : Int) := by omega
            obtain rfl : i = pss.length := by omega
            have HJ := hide hj
            clear hj
            go_wp2_with fail
            go_loopw [6] (fun iv wr' => wr' = wr ∧ ∃ i : Nat, i ≤ qss.length ∧ iv = .int .i64 (i : Nat) ∧ ∀ j : Nat, j < i → (qss[j]?.getD []).length ≤ 1000) (fun iv _ => qss.length - (intOf iv).toNat)
            case atStart => exact ⟨rfl, 0, by omega, rfl, fun j hj => by omega⟩
            case round =>
              obtain ⟨rfl, i, hi, rfl, hj⟩ := hrel
              by_cases hlt : i < qss.length
              · have hlt' : (i : Int) < (qss.length : Int) := by omega
                obtain ⟨b, off, sa, sc, rfl, hb, hcell, -, -⟩ := unhide HUS i hlt
                obtain ⟨z, hz⟩ : ∃ z, z = (qss[i]?.getD []).length := ⟨_, rfl⟩
                rw [← hz] at hcell
                by_cases hg : z ≤ 1000
                · have hg' : ¬ (1000 : Int) < (z : Int) := by omega
                  have HJ2 : Hid (∀ j : Nat, j < i + 1 → (qss[j]?.getD []).length ≤ 1000) := fun j hj2 => by
                    by_cases e : j = i
                    · subst e; omega
                    · exact hj j (by omega)
                  clear hj hz
                  go_wp2
                  go_roundw
                  case rel => exact ⟨by first | trivial | rfl, i + 1, by omega, by go_num, unhide HJ2⟩
                  case measure => simp [intOf]; omega
                · have hg' : (1000 : Int) < (z : Int) := by omega
                  have HX : Hid (RetB (.returned (.bool true)) (¬ Rch xss ks pss qss)) := RetB.yes (fun h => by have := h.2.2.2.2 i hlt; omega)
                  clear hj hz
                  go_wp2
                  go_ret
                  exact ⟨unhide HX, unhide HB2⟩
              · have hlt' : ¬ (i : Int) < (qss.length : Int) := by omega
                obtain rfl : i = qss.length := by omega
                have HX : Hid (RetB (.returned (.bool false)) (¬ Rch xss ks pss qss)) := RetB.no (fun h => h ⟨e1, e2, fun j hj => unhide HJ j hj, e3, hj⟩)
                clear hj
                go_wp2
                go_ret
                exact ⟨unhide HX, unhide HB2⟩
      · have f1 : ¬ (1000 : Int) < (xss.length : Int) := by omega
        have f2 : ¬ (20000 : Int) < (ks.length : Int) := by omega
        have f3 : (1000 : Int) < (qss.length : Int) := by omega
        have HX : Hid (RetB (.returned (.bool true)) (¬ Rch xss ks pss qss)) := RetB.yes (fun h => e3 h.2.2.2.1)
        go_wp2
        rw [← unhide HW2]
        go_ret
        exact ⟨unhide HX, unhide HB2⟩
    · have f1 : ¬ (1000 : Int) < (xss.length : Int) := by omega
      have f2 : (20000 : Int) < (ks.length : Int) := by omega
      have HX : Hid (RetB (.returned (.bool true)) (¬ Rch xss ks pss qss)) := RetB.yes (fun h => e2 h.2.1)
      go_wp2
      rw [← unhide HW2]
      go_ret
      exact ⟨unhide HX, unhide HB2⟩
  · have f1 : (1000 : Int) < (xss.length : Int) := by omega
    have HX : Hid (RetB (.returned (.bool true)) (¬ Rch xss ks pss qss)) := RetB.yes (fun h => e1 h.1)
    go_wp2
    rw [← unhide HW2]
    go_ret
    exact ⟨unhide HX, unhide HB2⟩

end Go.Proofs.Ytfjnhmgmcldidaa
