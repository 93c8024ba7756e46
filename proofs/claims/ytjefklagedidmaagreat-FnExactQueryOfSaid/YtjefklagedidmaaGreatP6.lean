import Derived.Test.YtjefklagedidmaaGreatP5
import Derived.RangeFuncBox
import Derived.Test.YtjefklagedidmaaGreatP2
namespace Go.Proofs.YtjefklagedidmaaGreat
open Go.RowKit

set_option maxHeartbeats 4000000 in
set_option maxRecDepth 100000 in
theorem l3join_any (u v : Value) (a b : List Int) (w : World) (hu : SlAt mI 0 0 w.heap.size w u a) (hv : SlAt mI 0 0 w.heap.size w v b) (ha : a.length ≤ 1048576) (hb : b.length ≤ 1048576) :
    Calls Tryz.prog 57 #[u, v] w fun e w' => ∃ v', e = .returned v' ∧ w'.ownsRow w.heap.size 3 1 v' (jn2 a b).length ((jn2 a b).map mI) ∧ Below w.heap.size w w' := by
  obtain ⟨i0, hi, hz0, hz1, hz2⟩ := info_parts Tryz.zinInt
  have Hu := hide hu
  have Hv := hide hv
  obtain ⟨ua, uc, rfl, -, -⟩ := hu
  obtain ⟨va, vc, rfl, -, -⟩ := hv
  go_enter Tryz.func57, Tryz.ntmps57
  go_wp2_with (at_builtin; refine app_ints_own rfl _ _ rfl rfl _ rfl a (by exact unhide Hu) ha ?_; intro v1 w1 hb1 hs1 ho1; obtain ⟨pa, pc, rfl⟩ := own_is hs1)
  have H1 := hide hs1
  have hz1' := hb1.size
  clear hs1
  go_loopw [5, 6] (fun ov iv wr => ∃ k : Nat, k ≤ b.length ∧ iv = .int .i64 k ∧ wr.ownsRow w.heap.size 3 1 ov (jpt a b k).length ((jpt a b k).map mI) ∧ Below w.heap.size w wr) (fun _ iv _ => b.length - (intOf iv).toNat)
  case atStart => exact ⟨0, Nat.zero_le _, rfl, by rw [jpt_zero]; exact unhide H1, hb1⟩
  case round =>
    clear H1 hb1 hz1' ho1
    obtain ⟨k, hk, rfl, hown, hbw⟩ := hrel
    have hszr := hbw.size
    have Hown := hide hown
    have hjl := jpt_len a b k
    obtain ⟨oa, oc, rfl⟩ := own_is hown
    clear hown
    by_cases hlt : k < b.length
    · have hlt' : (k : Int) < (b.length : Int) := by omega
      obtain ⟨_, _, e, -, hcv⟩ := (unhide Hv).below hbw (Nat.le_refl _)
      cases e
      obtain ⟨vb, vo, rfl, -, -, hcell⟩ := hcv (by omega)
      have hy : wr.cell? ⟨vb, vo + k, none⟩ = some (.int .i64 (b[k]?.getD 0)) := hcell k hlt
      have Happ : Hid (¬ (k = 0 ∧ a.getLast? = some 256 ∧ b.head? = some 256) → jpt a b (k + 1) = jpt a b k ++ [b[k]?.getD 0]) := fun h => jpt_next hlt h
      have Hskip : Hid (k = 0 → a.getLast? = some 256 → b.head? = some 256 → jpt a b (k + 1) = jpt a b k) := fun h0 h1 h2 => by
        subst h0
        rw [jpt_zero]
        exact jpt_skip hlt h1 h2
      clear hcell hcv
      by_cases k0 : k = 0
      · have hh := hide (head_at (a := b) (by omega))
        subst k0
        rw [Nat.add_zero] at hy
        generalize jpt a b 0 = os at *
        generalize b[0]?.getD 0 = y at *
        by_cases g1 : y = 256
        · subst g1
          by_cases ga : 0 < a.length
          · have ga' : (0 : Int) < (a.length : Int) := by omega
            have gb' : (a.length : Int) - 1 < (a.length : Int) := by omega
            have gc' : (0 : Int) ≤ (a.length : Int) - 1 := by omega
            obtain ⟨_, _, e, -, hcu⟩ := (unhide Hu).below hbw (Nat.le_refl _)
            cases e
            obtain ⟨ub, uo, rfl, -, -, hcell⟩ := hcu (by omega)
            have hx : wr.cell? ⟨ub, uo + (a.length - 1), none⟩ = some (.int .i64 (a[a.length - 1]?.getD 0)) := hcell _ (by omega)
            have hla := hide (last_at ga)
            clear hcell hcu
            generalize a[a.length - 1]?.getD 0 = x at *
            by_cases g2 : x = 256
            · subst g2
              have HN := hide (unhide Hskip rfl (unhide hla) (unhide hh))
              clear Happ Hskip
              go_wp2
              go_roundw
              case rel => exact ⟨1, by omega, by go_num, by rw [unhide HN]; exact unhide Hown, hbw⟩
              case measure => simp [intOf]; omega
            · have g2' : (x == 256) = false := by simpa using g2
              have HN := hide (unhide Happ (fun h => by rw [unhide hla] at h; exact g2 (by simpa using h.2.1)))
              clear Happ Hskip
              go_wp2_with (at_builtin; refine wpList_append_own _ rfl _ _ 41 rfl w.heap.size 3 i0 (.int .i64 0) 1 8 Tryz.underlying41 hi hz0 hz1 hz2 rfl (by decide) _ _ _ rfl (World.ownsRow.alloc (w := wr) (unhide Hown) _) ⟨wr.heap.size, 0, none⟩ 1 1 [.int .i64 256] rfl rfl (cell_1 (by simp)) (fun u' hu => by simp at hu; subst hu; rfl) (by unfold maxLen; omega) (by omega) (by rw [sz_alloc]; omega) ?_)
              intro v' w3 h5 hg5 _
              have hst := hide (grow_int (unhide Hown) hszr (pushd_alloc wr _) h5 hg5)
              clear h5 hg5
              go_wp2
              go_roundw
              case rel => exact ⟨0 + 1, by omega, by go_num, by rw [unhide HN]; exact (unhide hst).1, hbw.trans (unhide hst).2⟩
              case measure => simp [intOf]; omega
          · have ga' : ¬ (0 : Int) < (a.length : Int) := by omega
            have gad : decide (0 < a.length) = false := decide_eq_false ga
            have Hnil := hide (show a = [] from List.eq_nil_of_length_eq_zero (by omega))
            have HN := hide (unhide Happ (fun h => by rw [unhide Hnil] at h; simp at h))
            clear Happ Hskip
            go_wp2_with (at_builtin; refine wpList_append_own _ rfl _ _ 41 rfl w.heap.size 3 i0 (.int .i64 0) 1 8 Tryz.underlying41 hi hz0 hz1 hz2 rfl (by decide) _ _ _ rfl (World.ownsRow.alloc (w := wr) (unhide Hown) _) ⟨wr.heap.size, 0, none⟩ 1 1 [.int .i64 256] rfl rfl (cell_1 (by simp)) (fun u' hu => by simp at hu; subst hu; rfl) (by unfold maxLen; omega) (by omega) (by rw [sz_alloc]; omega) ?_)
            intro v' w3 h5 hg5 _
            have hst := hide (grow_int (unhide Hown) hszr (pushd_alloc wr _) h5 hg5)
            clear h5 hg5
            go_wp2
            go_roundw
            case rel => exact ⟨0 + 1, by omega, by go_num, by rw [unhide HN]; exact (unhide hst).1, hbw.trans (unhide hst).2⟩
            case measure => simp [intOf]; omega
        · have g1' : (y == 256) = false := by simpa using g1
          have HN := hide (unhide Happ (fun h => by rw [unhide hh] at h; exact g1 (by simpa using h.2.2)))
          clear Happ Hskip
          go_wp2_with (at_builtin; refine wpList_append_own _ rfl _ _ 41 rfl w.heap.size 3 i0 (.int .i64 0) 1 8 Tryz.underlying41 hi hz0 hz1 hz2 rfl (by decide) _ _ _ rfl (World.ownsRow.alloc (w := wr) (unhide Hown) _) ⟨wr.heap.size, 0, none⟩ 1 1 [.int .i64 y] rfl rfl (cell_1 (by simp)) (fun u' hu => by simp at hu; subst hu; rfl) (by unfold maxLen; omega) (by omega) (by rw [sz_alloc]; omega) ?_)
          intro v' w3 h5 hg5 _
          have hst := hide (grow_int (unhide Hown) hszr (pushd_alloc wr _) h5 hg5)
          clear h5 hg5
          go_wp2
          go_roundw
          case rel => exact ⟨0 + 1, by omega, by go_num, by rw [unhide HN]; exact (unhide hst).1, hbw.trans (unhide hst).2⟩
          case measure => simp [intOf]; omega
      · have k0' : ((k : Int) == 0) = false := by simp; omega
        generalize jpt a b k = os at *
        generalize b[k]?.getD 0 = y at *
        have HN := hide (unhide Happ (fun h => k0 h.1))
        clear Happ Hskip
        go_wp2_with (at_builtin; refine wpList_append_own _ rfl _ _ 41 rfl w.heap.size 3 i0 (.int .i64 0) 1 8 Tryz.underlying41 hi hz0 hz1 hz2 rfl (by decide) _ _ _ rfl (World.ownsRow.alloc (w := wr) (unhide Hown) _) ⟨wr.heap.size, 0, none⟩ 1 1 [.int .i64 y] rfl rfl (cell_1 (by simp)) (fun u' hu => by simp at hu; subst hu; rfl) (by unfold maxLen; omega) (by omega) (by rw [sz_alloc]; omega) ?_)
        intro v' w3 h5 hg5 _
        have hst := hide (grow_int (unhide Hown) hszr (pushd_alloc wr _) h5 hg5)
        clear h5 hg5
        go_wp2
        go_roundw
        case rel => exact ⟨k + 1, by omega, by go_num, by rw [unhide HN]; exact (unhide hst).1, hbw.trans (unhide hst).2⟩
        case measure => simp [intOf]; omega
    · obtain rfl : k = b.length := by omega
      rw [jpt_all] at *
      go_wp2
      go_ret
      exact ⟨_, rfl, unhide Hown, hbw⟩

set_option maxHeartbeats 4000000 in
set_option maxRecDepth 100000 in
theorem l3member_any (u v : Value) (xss : List (List Int)) (x : List Int) (w : World) (hu : SsAt mI 0 w.heap.size w u xss) (hv : SlAt mI 0 0 w.heap.size w v x) :
    Calls Tryz.prog 86 #[u, v] w fun e w' => RetB e (x ∈ xss) ∧ ∃ q, w' = w.drewN q := by
  have Hu := hide hu
  have Hv := hide hv
  obtain ⟨ua, uc, rfl, hml, -⟩ := hu
  obtain ⟨va, vc, rfl, -, -⟩ := hv
  unfold maxLen at hml
  go_enter Tryz.func86, Tryz.ntmps86
  go_wp2_with fail
  go_loopw [5] (fun iv wr => (∃ k : Nat, k ≤ xss.length ∧ iv = .int .i64 k ∧ ∀ j : Nat, j < k → xss[j]?.getD [] ≠ x) ∧ ∃ q, wr = w.drewN q) (fun iv _ => xss.length - (intOf iv).toNat)
  case atStart => exact ⟨⟨0, Nat.zero_le _, rfl, fun j hj => absurd hj (Nat.not_lt_zero _)⟩, 0, rfl⟩
  case round =>
    obtain ⟨⟨k, hk, rfl, hne⟩, q, rfl⟩ := hrel
    have Hne := hide hne
    clear hne
    by_cases hlt : k < xss.length
    · have hlt' : (k : Int) < (xss.length : Int) := by omega
      obtain ⟨_, _, e, -, hc⟩ := unhide Hu
      cases e
      obtain ⟨b, off, rfl, hbn, hcell⟩ := hc (by omega)
      obtain ⟨sv, hx, hsx, -⟩ := hcell k hlt
      have HX := hide hsx
      obtain ⟨sa, sc, rfl, -⟩ := id hsx
      have Hyes : Hid (xss[k]?.getD [] = x → x ∈ xss) := fun h => by rw [← h, List.getElem?_eq_getElem hlt]; exact List.getElem_mem _
      have Hno : Hid (xss[k]?.getD [] ≠ x → ∀ j : Nat, j < k + 1 → xss[j]?.getD [] ≠ x) := fun h j hj => by
        by_cases e : j = k
        · subst e; exact h
        · exact unhide Hne j (by omega)
      clear hcell hc hsx Hne
      generalize xss[k]?.getD [] = y at *
      by_cases hxy : y = x
      · have HQ := hide (unhide Hyes hxy)
        have HE := hide hxy
        clear Hyes Hno hxy
        go_wp2_with fail
        refine (l1same_yes _ _ y x _ (by exact unhide HX) (by exact unhide Hv) (unhide HE)).mono ?_
        rintro e w1 ⟨rfl, q1, rfl⟩
        go_wp2
        go_ret
        exact ⟨RetB.yes (unhide HQ), _, rfl⟩
      · have HQ := hide (unhide Hno hxy)
        have HE := hide hxy
        clear Hyes Hno hxy
        go_wp2_with fail
        refine (l1same_no _ _ y x _ (by exact unhide HX) (by exact unhide Hv) (unhide HE)).mono ?_
        rintro e w1 ⟨rfl, q1, rfl⟩
        go_wp2
        go_roundw
        case rel => exact ⟨⟨k + 1, by omega, by go_num, unhide HQ⟩, q + q1, by first | rfl | exact drew2 _ _ _⟩
        case measure => simp [intOf]; omega
    · obtain rfl : k = xss.length := by omega
      have HQ : Hid (x ∉ xss) := fun hm => by
        obtain ⟨i, hi, e⟩ := List.mem_iff_getElem.1 hm
        exact unhide Hne i hi (by rw [List.getElem?_eq_getElem hi]; exact e)
      go_wp2
      go_ret
      exact ⟨RetB.no (unhide HQ), q, rfl⟩

end Go.Proofs.YtjefklagedidmaaGreat

namespace Go.Proofs.YtjefklagedidmaaGreat
open Go.RowKit

set_option maxHeartbeats 1000000 in
theorem eqQuery_w (u v : Value) (xss : List (List Int)) (w : World) (hu : SsAt mI 0 w.heap.size w u xss) (hv : SsAt mI 0 w.heap.size w v xss) :
    Calls Tryz.prog 8 #[.agg #[u], .agg #[v]] w fun e w' => e = .returned (.bool true) ∧ Below w.heap.size w w' := by
  have Hu := hide hu
  have Hv := hide hv
  obtain ⟨a, cap, rfl, -, -⟩ := hv
  obtain ⟨a2, cap2, rfl, -, -⟩ := hu
  go_enter Tryz.func8, Tryz.ntmps8
  go_wp2_with fail
  refine (eqIntSS_w _ _ xss _ ((unhide Hu).below (below2 w _ _) (Nat.le_refl _)) ((unhide Hv).below (below2 w _ _) (Nat.le_refl _))).mono ?_
  rintro e w1 ⟨rfl, hb1⟩
  go_wp2_with fail
  go_ret
  exact ⟨rfl, (below2 w _ _).trans (hb1.mono (by simp; omega))⟩

set_option maxHeartbeats 1000000 in
theorem markQuery_w (v : Value) (xss : List (List Int)) (k : Int) (S : Nat → Prop) (w : World) (hv : SsF mI 0 S w v xss) (hS : ∀ j, S j → j < w.heap.size) (k0 : 0 ≤ k) (k1 : k ≤ 4194304) (hlen : tot xss ≤ 4194304) :
    Calls Tryz.prog 11 #[.agg #[v], .int .i64 k] w fun e w' => e = .returned (.int .i64 (k + tot xss)) ∧ SsF mI 0 S w' v (marksL cnts k xss) ∧ w.heap.size ≤ w'.heap.size ∧ (∀ j, j < w.heap.size → ¬ S j → w'.heap[j]? = w.heap[j]?) ∧ w'.os = w.os ∧ w'.tape = w.tape ∧ w'.output = w.output := by
  have Hv := hide (hv.same (w' := w.alloc (.cells #[v] 28)) (fun j hj => (below1 w _).block j (hS j hj)))
  obtain ⟨a, cap, rfl, -, -⟩ := hv
  go_enter Tryz.func11, Tryz.ntmps11
  go_wp2_with fail
  refine (markIntSS_w _ xss k S _ (unhide Hv) k0 k1 hlen).mono ?_
  rintro e w1 ⟨rfl, hs1, hc1⟩
  have hz := hc1.size
  rw [sz_alloc] at hz
  go_wp2_with fail
  go_ret
  exact ⟨rfl, hs1, by omega, fun j hj hn => (hc1.block j hn).trans ((below1 w _).block j hj), hc1.os, hc1.tape, hc1.output⟩

set_option maxHeartbeats 1000000 in
theorem heldQuery_w (v : Value) (xss : List (List Int)) (k : Int) (w : World) (hv : SsAt mI 0 w.heap.size w v (marksL cnts k xss)) (k0 : 0 ≤ k) (k1 : k ≤ 4194304) (hlen : tot xss ≤ 4194304) :
    Calls Tryz.prog 12 #[.agg #[v], .int .i64 k] w fun e w' => e = .returned (.int .i64 (k + tot xss)) ∧ Below w.heap.size w w' := by
  have Hv := hide (hv.below (below1 w (.cells #[v] 28)) (Nat.le_refl _))
  obtain ⟨a, cap, rfl, -, -⟩ := hv
  rw [marksL_len] at *
  go_enter Tryz.func12, Tryz.ntmps12
  go_wp2_with fail
  refine (heldIntSS_w _ xss k _ (unhide Hv) k0 k1 hlen).mono ?_
  rintro e w1 ⟨rfl, rfl⟩
  go_wp2_with fail
  go_ret
  exact ⟨rfl, below1 w _⟩

end Go.Proofs.YtjefklagedidmaaGreat

namespace Go.Proofs.YtjefklagedidmaaGreat
open Go.RowKit

theorem asc_le {xs : List Int} (h : Asc xs) {i j : Nat} (hij : i ≤ j) (hj : j < xs.length) : xs[i]?.getD 0 ≤ xs[j]?.getD 0 := by
  by_cases e : i = j
  · subst e; exact Int.le_refl _
  · exact Int.le_of_lt (asc_get h (by omega) hj)

set_option maxHeartbeats 1000000 in
set_option maxRecDepth 100000 in
theorem l3found_any (v : Value) (xs : List Int) (z : Int) (w : World) (hv : SlAt mI 0 0 w.heap.size w v xs) (ha : Asc xs) (hl : xs.length ≤ 1048576) :
    Calls Tryz.prog 65 #[v, .int .i64 z] w fun e w' => RetB e (z ∈ xs) ∧ w' = w := by
  obtain ⟨a, cap, rfl, hml, hc⟩ := hv
  go_enter Tryz.func65, Tryz.ntmps65
  go_wp2_with fail
  go_loop [5, 6] (fun lo hi => ∃ l h : Nat, l ≤ h ∧ h ≤ xs.length ∧ lo = .int .i64 l ∧ hi = .int .i64 h ∧ (∀ k : Nat, k < l → xs[k]?.getD 0 < z) ∧ ∀ k : Nat, h ≤ k → k < xs.length → z < xs[k]?.getD 0) (fun lo hi => (intOf hi).toNat - (intOf lo).toNat)
  case atStart => exact ⟨0, xs.length, Nat.zero_le _, Nat.le_refl _, rfl, rfl, fun k hk => absurd hk (Nat.not_lt_zero _), fun k h1 h2 => absurd h2 (by omega)⟩
  case round =>
    obtain ⟨l, h, hlh, hh, rfl, rfl, hlow, hhigh⟩ := hrel
    have Hlow := hide hlow
    have Hhigh := hide hhigh
    clear hlow hhigh
    by_cases hlt : l < h
    · have hlt' : (l : Int) < (h : Int) := by omega
      obtain ⟨b, off, rfl, -, hbn, hcell⟩ := hc (by omega)
      have hx : w.cell? ⟨b, off + (l + h) / 2, none⟩ = some (.int .i64 (xs[(l + h) / 2]?.getD 0)) := hcell _ (by omega)
      have hm1 : l ≤ (l + h) / 2 := by omega
      have hm2 : (l + h) / 2 < h := by omega
      have hm3 : (l + h) / 2 < xs.length := by omega
      have hin : Hid (xs[(l + h) / 2]?.getD 0 ∈ xs) := mem_get.2 ⟨_, hm3, rfl⟩
      have hL : Hid (xs[(l + h) / 2]?.getD 0 < z → ∀ k : Nat, k < (l + h) / 2 + 1 → xs[k]?.getD 0 < z) := fun hlt k hk => Int.lt_of_le_of_lt (asc_le ha (by omega) hm3) hlt
      have hH : Hid (z < xs[(l + h) / 2]?.getD 0 → ∀ k : Nat, (l + h) / 2 ≤ k → k < xs.length → z < xs[k]?.getD 0) := fun hlt k h1 h2 => Int.lt_of_lt_of_le hlt (asc_le ha h1 h2)
      clear hcell hc
      generalize xs[(l + h) / 2]?.getD 0 = x at *
      generalize hM : (l + h) / 2 = m at *
      have hmI : ((l : Int) + (h : Int)) / 2 = (m : Int) := by omega
      have hm4 : (m : Int) < (xs.length : Int) := by omega
      clear hM
      by_cases g1 : x = z
      · subst g1
        go_wp2
        go_ret
        exact ⟨RetB.yes (unhide hin), rfl⟩
      · have g1' : (x == z) = false := by simp [g1]
        by_cases g2 : x < z
        · go_wp2
          go_round
          case rel => exact ⟨m + 1, h, by omega, by omega, by go_num, rfl, unhide hL g2, unhide Hhigh⟩
          case measure => simp [intOf]; omega
        · go_wp2
          go_round
          case rel => exact ⟨l, m, by omega, by omega, rfl, by rw [hmI], unhide Hlow, unhide hH (by omega)⟩
          case measure => simp [intOf]; omega
    · obtain rfl : l = h := by omega
      go_wp2
      go_ret
      exact ⟨RetB.no (fun hz => by
        obtain ⟨k, hk, e⟩ := mem_get.1 hz
        by_cases h1 : k < l
        · have := unhide Hlow k h1; omega
        · have := unhide Hhigh k (by omega) hk; omega), rfl⟩

set_option maxHeartbeats 1000000 in
set_option maxRecDepth 100000 in
theorem l3holds_any (u v : Value) (xs ys : List Int) (w : World) (hu : SlAt mI 0 0 w.heap.size w u xs) (ha : Asc xs) (hl : xs.length ≤ 1048576) (hv : SlAt mI 0 0 w.heap.size w v ys) :
    Calls Tryz.prog 32 #[u, v] w fun e w' => RetB e (∀ z, z ∈ ys → z ∈ xs) ∧ w' = w := by
  have Hu := hide hu
  have Ha := hide ha
  obtain ⟨a, cap, rfl, hml, -⟩ := hu
  obtain ⟨a2, cap2, rfl, hml2, hc⟩ := hv
  unfold maxLen at hml2
  clear ha
  go_enter Tryz.func32, Tryz.ntmps32
  go_wp2_with fail
  go_loop [5] (fun i => ∃ k : Nat, k ≤ ys.length ∧ i = .int .i64 k ∧ ∀ j : Nat, j < k → ys[j]?.getD 0 ∈ xs) (fun i => ys.length - (intOf i).toNat)
  case atStart => exact ⟨0, Nat.zero_le _, rfl, fun j hj => absurd hj (Nat.not_lt_zero _)⟩
  case round =>
    obtain ⟨k, hk, rfl, hin⟩ := hrel
    have Hin := hide hin
    clear hin
    by_cases hlt : k < ys.length
    · have hlt' : (k : Int) < (ys.length : Int) := by omega
      obtain ⟨b, off, rfl, -, hbn, hcell⟩ := hc (by omega)
      have hx : w.cell? ⟨b, off + k, none⟩ = some (.int .i64 (ys[k]?.getD 0)) := hcell k hlt
      have hmem : Hid (ys[k]?.getD 0 ∈ ys) := mem_get.2 ⟨k, hlt, rfl⟩
      have hnext : Hid (ys[k]?.getD 0 ∈ xs → ∀ j : Nat, j < k + 1 → ys[j]?.getD 0 ∈ xs) := fun h j hj => by
        by_cases e : j = k
        · subst e; exact h
        · exact unhide Hin j (by omega)
      clear hcell hc
      generalize ys[k]?.getD 0 = x at *
      go_wp2_with fail
      refine (l3found_any _ xs x _ (unhide Hu) (unhide Ha) hl).mono ?_
      rintro e w1 ⟨hret, rfl⟩
      rcases hret.cases with ⟨rfl, hy⟩ | ⟨rfl, hn⟩
      · go_wp2
        go_round
        case rel => exact ⟨k + 1, by omega, by go_num, unhide hnext hy⟩
        case measure => simp [intOf]; omega
      · go_wp2
        go_ret
        exact ⟨RetB.no (fun h => hn (h x (unhide hmem))), rfl⟩
    · obtain rfl : k = ys.length := by omega
      clear hc
      go_wp2
      go_ret
      exact ⟨RetB.yes (fun z hz => by
        obtain ⟨j, hj, e⟩ := mem_get.1 hz
        rw [← e]
        exact unhide Hin j hj), rfl⟩

/-- What a query is true of. -/
def EvalP (xss : List (List Int)) (ts : List Int) : Prop := ∃ k : Nat, k < xss.length ∧ ∀ z, z ∈ xss[k]?.getD [] → z ∈ ts

end Go.Proofs.YtjefklagedidmaaGreat

namespace Go.Proofs.YtjefklagedidmaaGreat
open Go.RowKit

/-- A row of its own of lists that lie somewhere. -/
structure LR (base : Nat) (w : World) (v : Value) (ps : List (Cl Int)) : Prop where
  own : w.ownsRow base 41 1 v ps.length (ps.map Cl.v)
  ok : ∀ p ∈ ps, p.ok mI 0 3 w
theorem LR.nil {base : Nat} {w : World} : LR base w (.slice none 0 0) [] := ⟨World.ownsRow_nil _ _ _ _, by simp⟩
theorem LL.lr {base : Nat} {w : World} {v : Value} {ps : List (Cl Int)} (h : LL mI 0 3 41 base w v ps) : LR base w v ps := ⟨h.own, h.ok⟩
theorem LR.keep {base m : Nat} {w w' : World} {v : Value} {ps : List (Cl Int)} (h : LR base w v ps) (hb : Below m w w') (hm : w.heap.size ≤ m) : LR base w' v ps := ⟨own_keep h.own hb hm, fun p hp => (h.ok p hp).below hb hm⟩
theorem ok_not_row {base : Nat} {w : World} {v : Value} {n : Nat} {vs : List Value} (h : w.ownsRow base 41 1 v n vs) {q : Cl Int} (hq : q.ok mI 0 3 w) (hp : 0 < q.xs.length) : some q.b ≠ v.ownBlock := by
  intro e1
  obtain ⟨a, cap, -, -, hc⟩ := hq
  obtain ⟨off, -, ⟨c, h1⟩, -⟩ := hc hp
  rcases h.2 with ⟨rfl, _⟩ | ⟨g, cap', cur, rfl, _, hgb, _⟩
  · simp [Value.ownBlock] at e1
  · obtain rfl : q.b = g := by simpa [Value.ownBlock] using e1
    rw [h1] at hgb
    simp at hgb
/-- What lies, lies on behind an append to a row of lists. -/
theorem ok_app {base : Nat} {w W w' : World} {v : Value} {n : Nat} {vs : List Value} {o : Obj} (h : w.ownsRow base 41 1 v n vs) (hP : Pushd w W o) (hg : W.grownBy w' v.ownBlock) {q : Cl Int} (hq : q.ok mI 0 3 w) : q.ok mI 0 3 w' :=
  hq.same (fun hq0 => by
    have hlt := hq.lt hq0
    rw [hg.block q.b (by rw [hP.size]; omega) (ok_not_row h hq hq0), hP.old hlt])
theorem LR.app {base : Nat} {w W w' : World} {v v' : Value} {ps : List (Cl Int)} {p : Cl Int} {o : Obj} (h : LR base w v ps) (hbase : base ≤ w.heap.size) (hp : p.ok mI 0 3 w)
    (hP : Pushd w W o) (h1 : w'.ownsRow base 41 1 v' (ps.length + 1) (ps.map Cl.v ++ [p.v])) (hg : W.grownBy w' v.ownBlock) : LR base w' v' (ps ++ [p]) ∧ Below base w w' := by
  refine ⟨⟨by rw [List.length_append, List.map_append]; exact h1, fun q hq => ?_⟩, (hP.below.mono hbase).grown hg (by rw [hP.size]; omega) (fun k hk => (h.own.lt k hk).1)⟩
  rcases List.mem_append.1 hq with hq | hq
  · exact ok_app h.own hP hg (h.ok q hq)
  · rw [List.mem_singleton] at hq
    subst hq
    exact ok_app h.own hP hg hp
theorem LR.at {base : Nat} {w : World} {v : Value} {ps : List (Cl Int)} (h : LR base w v ps) : SsAt mI 0 w.heap.size w v (ps.map Cl.xs) := by
  rcases h.own.2 with ⟨rfl, hz⟩ | ⟨g, cap, cur, rfl, hbg, hg, hnc, hcm, hcs, htake⟩
  · have : ps = [] := List.eq_nil_of_length_eq_zero hz
    subst this
    exact ⟨none, 0, rfl, ⟨Nat.le_refl _, Nat.zero_le _⟩, fun h => absurd h (by simp)⟩
  · have hgl : g < w.heap.size := (h.own.lt g rfl).2
    refine ⟨some ⟨g, 0, none⟩, cap, by rw [List.length_map], ⟨by rw [List.length_map]; exact hnc, hcm⟩, fun _ => ⟨g, 0, rfl, hgl, fun i hi => ?_⟩⟩
    rw [List.length_map] at hi
    have hm : ps[i] ∈ ps := List.getElem_mem hi
    refine ⟨(ps[i]).v, ?_, ?_, (h.ok _ hm).cap⟩
    · rw [Nat.zero_add, h.own.cellAt i (by omega), List.getElem?_map, List.getElem?_eq_getElem hi]
      rfl
    · rw [List.getElem?_map, List.getElem?_eq_getElem hi]
      exact (h.ok _ hm).at
theorem LL.of_sub {base' : Nat} {w : World} {v : Value} {ps qs : List (Cl Int)} (h : LR base' w v ps) (hs : ps.Sublist qs) (hl : ∀ p ∈ qs, 0 < p.xs.length → base' ≤ p.b) (ha : ApartC qs) : LL mI 0 3 41 base' w v ps :=
  ⟨h.own, h.ok, fun p hp => hl p (hs.subset hp), List.Pairwise.sublist hs ha⟩

/-- No other list has all its numbers in c. -/
def mn (cs : List (List Int)) (c : List Int) : Bool := cs.all (fun d => decide (d = c) || !(d.all (fun z => decide (z ∈ c))))
theorem mn_iff {cs : List (List Int)} {c : List Int} : mn cs c = true ↔ ∀ d, d ∈ cs → d ≠ c → ¬ ∀ z, z ∈ d → z ∈ c := by
  unfold mn
  simp only [List.all_eq_true, Bool.or_eq_true, decide_eq_true_eq, Bool.not_eq_true']
  constructor
  · intro h d hd hne hall
    rcases h d hd with e | e
    · exact hne e
    · rw [List.all_eq_false] at e
      obtain ⟨z, hz, hn⟩ := e
      exact hn (by simpa using hall z hz)
  · intro h d hd
    by_cases e : d = c
    · exact Or.inl e
    · refine Or.inr ?_
      rw [List.all_eq_false]
      have := h d hd e
      by_cases ex : ∃ z, z ∈ d ∧ z ∉ c
      · obtain ⟨z, hz, hn⟩ := ex
        exact ⟨z, hz, by simpa using hn⟩
      · exact absurd (fun z hz => by
          by_cases hc : z ∈ c
          · exact hc
          · exact absurd ⟨z, hz, hc⟩ ex) this

structure NormV (xss rs : List (List Int)) : Prop where
  ex : ∃ cs, LAsc cs ∧ (∀ z, z ∈ cs ↔ ∃ xs, xs ∈ xss ∧ Ord xs z) ∧ rs = cs.filter (mn cs)
theorem NormV.uniq {xss rs rs' : List (List Int)} (h : NormV xss rs) (k : NormV xss rs') : rs = rs' := by
  obtain ⟨cs, h1, h2, rfl⟩ := h.ex
  obtain ⟨ds, k1, k2, rfl⟩ := k.ex
  rw [lasc_uniq h1 k1 (fun z => (h2 z).trans (k2 z).symm)]

/-- What stands in order, of lists each of which is put into order. -/
structure Each (xss : List (List Int)) (ps : List (Cl Int)) : Prop where
  len : ps.length = xss.length
  ord : ∀ i : Nat, i < ps.length → Ord (xss[i]?.getD []) (ps[i]?.getD dC).xs
  tot : tot (ps.map Cl.xs) ≤ tot xss
theorem tot_app {α : Type} (xs : List (List α)) (x : List α) : tot (xs ++ [x]) = tot xs + x.length := by
  induction xs with
  | nil => simp [Go.Proofs.YtjefklagedidmaaGreat.tot]
  | cons y ys ih => simp only [List.cons_append, Go.Proofs.YtjefklagedidmaaGreat.tot, ih]; omega
theorem Each.nil : Each [] [] := ⟨rfl, fun i h => by simp at h, by simp [Go.Proofs.YtjefklagedidmaaGreat.tot]⟩
theorem Each.next {xss : List (List Int)} {n : Nat} {ps : List (Cl Int)} {p : Cl Int} (h : Each (xss.take n) ps) (hn : n < xss.length) (ho : Ord (xss[n]?.getD []) p.xs) (hl : p.xs.length ≤ (xss[n]?.getD []).length) : Each (xss.take (n + 1)) (ps ++ [p]) := by
  have hlen := h.len
  simp only [List.length_take] at hlen
  refine ⟨by simp; omega, fun i hi => ?_, ?_⟩
  · rw [List.length_append, List.length_singleton] at hi
    by_cases e : i = n
    · subst e
      have e1 : (xss.take (i + 1))[i]?.getD [] = xss[i]?.getD [] := by rw [List.getElem?_take, if_pos (by omega)]
      have e2 : (ps ++ [p])[i]?.getD dC = p := by rw [List.getElem?_append_right (by omega), show i - ps.length = 0 by omega]; rfl
      rw [e1, e2]
      exact ho
    · have := h.ord i (by omega)
      rw [List.getElem?_take, if_pos (by omega)] at this
      rw [List.getElem?_take, if_pos (by omega), List.getElem?_append_left (by omega)]
      exact this
  · have h1 := h.tot
    rw [List.map_append, List.map_singleton, tot_app, tot_step xss n hn]
    omega
theorem Each.mem {xss : List (List Int)} {ps : List (Cl Int)} (h : Each xss ps) (z : List Int) : z ∈ ps.map Cl.xs ↔ ∃ xs, xs ∈ xss ∧ Ord xs z := by
  constructor
  · intro hz
    obtain ⟨i, hi, e⟩ := List.mem_iff_getElem.1 hz
    simp only [List.length_map] at hi
    have := h.ord i hi
    have hl := h.len
    have e1 : (ps[i]?.getD dC).xs = z := by rw [← e]; simp [hi]
    rw [e1] at this
    exact ⟨_, by rw [List.getElem?_eq_getElem (by omega)]; exact List.getElem_mem _, this⟩
  · rintro ⟨xs, hx, ho⟩
    obtain ⟨i, hi, e⟩ := List.mem_iff_getElem.1 hx
    have hl := h.len
    have h1 := h.ord i (by omega)
    have e1 : xss[i]?.getD [] = xs := by rw [← e]; simp [hi]
    rw [e1] at h1
    rw [ho.uniq h1, List.getElem?_eq_getElem (by omega)]
    exact List.mem_map_of_mem (List.getElem_mem _)

end Go.Proofs.YtjefklagedidmaaGreat

namespace Go.Proofs.YtjefklagedidmaaGreat
open Go.RowKit

/-- What l3add makes of ps. -/
def AddR (ps : List (Cl Int)) (p : Cl Int) (ps' : List (Cl Int)) : Prop :=
  (ps' = ps ∧ (50 < ps.length ∨ p.xs ∈ ps.map Cl.xs)) ∨ (ps' = ps ++ [p] ∧ ps.length ≤ 50 ∧ p.xs ∉ ps.map Cl.xs)
theorem AddR.out {L : List (List Int)} {ps ps' : List (Cl Int)} {p : Cl Int} (h : AddR ps p ps') (k : OutS L (ps.map Cl.xs)) : OutS (L ++ [p.xs]) (ps'.map Cl.xs) := by
  rcases h with ⟨rfl, h | h⟩ | ⟨rfl, h1, h2⟩
  · exact k.full (by rw [List.length_map]; exact h) _
  · exact k.known h
  · rw [List.map_append]
    exact k.new (by rw [List.length_map]; exact h1) h2

set_option maxHeartbeats 4000000 in
set_option maxRecDepth 100000 in
theorem l3add_any (base : Nat) (v : Value) (ps : List (Cl Int)) (p : Cl Int) (w : World) (h : LR base w v ps) (hbase : base ≤ w.heap.size) (hp : p.ok mI 0 3 w) (hlen : ps.length ≤ 51) :
    Calls Tryz.prog 56 #[v, p.v] w fun e w' => ∃ v' ps', e = .returned v' ∧ AddR ps p ps' ∧ LR base w' v' ps' ∧ Below base w w' := by
  obtain ⟨i0, hi, hz0, hz1, hz2⟩ := info_parts Tryz.zinIntS
  have H := hide h
  have HA := hide h.at
  have Hp := hide hp
  obtain ⟨va, vc, rfl⟩ := own_is h.own
  obtain ⟨pa, pc, e1⟩ : ∃ a c, p.v = .slice a p.xs.length c := by obtain ⟨a, c, e, -⟩ := hp; exact ⟨a, c, e⟩
  have E1 := hide e1
  have SP := hide hp.at
  rw [e1] at SP
  rw [e1]
  clear h hp e1
  by_cases h50 : 50 < ps.length
  · have h50' : (50 : Int) < (ps.length : Int) := by omega
    go_enter Tryz.func56, Tryz.ntmps56
    go_wp2
    go_ret
    exact ⟨_, ps, rfl, Or.inl ⟨rfl, Or.inl h50⟩, unhide H, Below.refl _ _⟩
  · have h50' : ¬ (50 : Int) < (ps.length : Int) := by omega
    go_enter Tryz.func56, Tryz.ntmps56
    go_wp2_with fail
    refine (l3member_any _ _ (ps.map Cl.xs) p.xs _ (unhide HA) (unhide SP)).mono ?_
    rintro e w1 ⟨hret, q1, hw1⟩
    have H1 : LR base w1 (.slice va ps.length vc) ps := by rw [hw1]; exact ⟨(unhide H).own, (unhide H).ok⟩
    have Hp1 : Hid (p.ok mI 0 3 w1) := by rw [hw1]; exact unhide Hp
    have hB1 : Below base w w1 := by rw [hw1]; exact below_drewN (Below.refl _ _) q1
    have hz1' : base ≤ w1.heap.size := Nat.le_trans hbase hB1.size
    have HH1 := hide H1
    clear hw1 H1
    rcases hret.cases with ⟨rfl, hm⟩ | ⟨rfl, hm⟩
    · have Hm := hide hm
      clear hm hret
      go_wp2
      go_ret
      exact ⟨_, ps, rfl, Or.inl ⟨rfl, Or.inr (unhide Hm)⟩, unhide HH1, hB1⟩
    · have Hm := hide hm
      clear hm hret
      have Hst : Hid (∀ (w' : World) (v' : Value), w'.ownsRow base 41 1 v' (ps.length + 1) (ps.map Cl.v ++ [.slice pa p.xs.length pc]) → (w1.alloc (.cells #[.slice pa p.xs.length pc] 41)).grownBy w' (Value.slice va ps.length vc).ownBlock → LR base w' v' (ps ++ [p]) ∧ Below base w1 w') := fun w' v' g1 g2 =>
        (unhide HH1).app hz1' (unhide Hp1) (pushd_alloc w1 _) (by rw [unhide E1]; exact g1) g2
      go_wp2_with (at_builtin; refine wpList_append_own _ rfl _ _ 26 rfl base 41 i0 (.slice none 0 0) 1 24 Tryz.underlying26 hi hz0 hz1 hz2 rfl (by decide) _ _ _ rfl (World.ownsRow.alloc (w := w1) (unhide HH1).own _) ⟨w1.heap.size, 0, none⟩ 1 1 [.slice pa p.xs.length pc] rfl rfl ?_ ?_ ?_ ?_ ?_ ?_)
      · exact cell_1 (by simp)
      · intro u hu; simp at hu; subst hu; rfl
      · unfold maxLen; omega
      · omega
      · rw [sz_alloc]; omega
      intro v3 w3 h5 hg5 _
      have h3 := hide (unhide Hst w3 v3 h5 hg5)
      obtain ⟨g3, cap3, rfl⟩ := ownsRow_succ h5
      clear h5 hg5
      go_wp2
      go_ret
      exact ⟨_, _, rfl, Or.inr ⟨rfl, by omega, unhide Hm⟩, (unhide h3).1, hB1.trans (unhide h3).2⟩

set_option maxHeartbeats 4000000 in
set_option maxRecDepth 100000 in
theorem l3gap_any (w : World) :
    Calls Tryz.prog 55 #[] w fun e w' => ∃ v', e = .returned v' ∧ (∃ p : Cl Int, p.xs = [256] ∧ LR w.heap.size w' v' [p]) ∧ Below w.heap.size w w' := by
  go_enter Tryz.func55, Tryz.ntmps55
  go_wp2
  go_ret
  have hb2 := below2 w (.cells #[.int .i64 256] 3) (.cells #[.slice (some ⟨w.heap.size, 0, none⟩) 1 1] 41)
  have hblk : ((w.alloc (.cells #[.int .i64 256] 3)).alloc (.cells #[.slice (some ⟨w.heap.size, 0, none⟩) 1 1] 41)).heap[w.heap.size]? = some (.cells #[.int .i64 256] 3 (0, 0)) := by
    rw [(pushd_alloc _ _).old (by rw [sz_alloc]; omega), (pushd_alloc w _).new]
  have hblk2 : ((w.alloc (.cells #[.int .i64 256] 3)).alloc (.cells #[.slice (some ⟨w.heap.size, 0, none⟩) 1 1] 41)).heap[w.heap.size + 1]? = some (.cells #[.slice (some ⟨w.heap.size, 0, none⟩) 1 1] 41 (0, 0)) := by
    have := (pushd_alloc (w.alloc (.cells #[.int .i64 256] 3)) (.cells #[.slice (some ⟨w.heap.size, 0, none⟩) 1 1] 41)).new
    rwa [sz_alloc] at this
  refine ⟨_, rfl, ⟨⟨.slice (some ⟨w.heap.size, 0, none⟩) 1 1, [256], w.heap.size⟩, rfl, ⟨rfl, Or.inr ⟨w.heap.size + 1, 1, _, rfl, by omega, hblk2, Nat.le_refl _, by unfold maxLen; omega, rfl, rfl⟩⟩, fun q hq => ?_⟩, hb2⟩
  rw [List.mem_singleton.1 hq]
  refine ⟨some ⟨w.heap.size, 0, none⟩, 1, rfl, ⟨Nat.le_refl _, by unfold maxLen; omega⟩, fun _ => ⟨0, rfl, ⟨_, hblk⟩, fun i hi => ?_⟩⟩
  obtain rfl : i = 0 := by have : i < 1 := hi; omega
  simp [World.cell?, hblk]
  rfl

end Go.Proofs.YtjefklagedidmaaGreat
