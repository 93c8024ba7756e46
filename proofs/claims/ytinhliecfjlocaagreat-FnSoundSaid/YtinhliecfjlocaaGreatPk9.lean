import Derived.Test.YtinhliecfjlocaaGreatPk7
import Derived.Test.YtinhliecfjlocaaGreatPk2
import Derived.BigQuiet
import Derived.Test.YtinhliecfjlocaaGreatPk8
import Derived.Lib.SliceRun
import Derived.Deep.RegionHeld3
import Derived.Deep.RegionWith
import Derived.Test.YtinhliecfjlocaaGreatPk4
import Derived.RangeFuncBox
namespace Go.Proofs.YtinhliecfjlocaaGreat
open Go.RowKit
def lexc : List Int → List Int → Int
  | [], [] => 0
  | [], _ :: _ => -1
  | _ :: _, [] => 1
  | x :: xs, y :: ys => if x < y then -1 else if y < x then 1 else lexc xs ys
theorem lexc_zero : ∀ {xs ys : List Int}, lexc xs ys = 0 ↔ xs = ys
  | [], [] => by simp [lexc]
  | [], _ :: _ => by simp [lexc]
  | _ :: _, [] => by simp [lexc]
  | x :: xs, y :: ys => by
    simp only [lexc, List.cons.injEq]
    have ih := lexc_zero (xs := xs) (ys := ys)
    by_cases h1 : x < y
    · rw [if_pos h1]
      constructor
      · intro h; omega
      · rintro ⟨rfl, -⟩; omega
    · rw [if_neg h1]
      by_cases h2 : y < x
      · rw [if_pos h2]
        constructor
        · intro h; omega
        · rintro ⟨rfl, -⟩; omega
      · rw [if_neg h2, ih]
        constructor
        · intro h; exact ⟨by omega, h⟩
        · rintro ⟨-, h⟩; exact h
theorem lexc_swap : ∀ xs ys : List Int, lexc ys xs = - lexc xs ys
  | [], [] => by simp [lexc]
  | [], _ :: _ => by simp [lexc]
  | _ :: _, [] => by simp [lexc]
  | x :: xs, y :: ys => by
    simp only [lexc]
    have ih := lexc_swap xs ys
    by_cases h1 : x < y
    · rw [if_pos h1, if_neg (by omega), if_pos h1]
      rfl
    · by_cases h2 : y < x
      · rw [if_pos h2, if_neg h1, if_pos h2]
      · rw [if_neg h2, if_neg h1, if_neg h1, if_neg h2, ih]
theorem lexc_trans : ∀ {xs ys zs : List Int}, lexc xs ys < 0 → lexc ys zs < 0 → lexc xs zs < 0
  | [], [], _, h, _ => by simp [lexc] at h
  | _ :: _, [], _, h, _ => by simp [lexc] at h
  | _, _ :: _, [], _, h => by simp [lexc] at h
  | [], _ :: _, _ :: _, _, _ => by simp [lexc]
  | x :: xs, y :: ys, z :: zs, h1, h2 => by
    simp only [lexc] at h1 h2 ⊢
    have ih := lexc_trans (xs := xs) (ys := ys) (zs := zs)
    by_cases a1 : x < y
    · by_cases b1 : y < z
      · rw [if_pos (by omega)]; omega
      · rw [if_neg b1] at h2
        by_cases b2 : z < y
        · rw [if_pos b2] at h2; omega
        · rw [if_pos (by omega)]; omega
    · rw [if_neg a1] at h1
      by_cases a2 : y < x
      · rw [if_pos a2] at h1; omega
      · rw [if_neg a2] at h1
        by_cases b1 : y < z
        · rw [if_pos (by omega)]; omega
        · rw [if_neg b1] at h2
          by_cases b2 : z < y
          · rw [if_pos b2] at h2; omega
          · rw [if_neg b2] at h2
            rw [if_neg (by omega), if_neg (by omega)]
            exact ih h1 h2
theorem drop_cons {xs : List Int} {i : Nat} (h : i < xs.length) : xs.drop i = xs[i]?.getD 0 :: xs.drop (i + 1) := by
  rw [List.drop_eq_getElem_cons h]
  simp [h]
theorem drop_nil {xs : List Int} : xs.drop xs.length = [] := by simp
set_option maxHeartbeats 400000 in
theorem cmpInt_any (x y : Int) (w : World) : Calls Tryz.prog 87 #[.int .i64 x, .int .i64 y] w fun e w' => e = .returned (.int .i64 (if x < y then -1 else if y < x then 1 else 0)) ∧ w' = w := by
  by_cases h1 : x < y
  · rw [if_pos h1]
    go_enter Tryz.func87, Tryz.ntmps87
    go_wp2
    go_ret
    exact ⟨rfl, rfl⟩
  · rw [if_neg h1]
    by_cases h2 : y < x
    · rw [if_pos h2]
      go_enter Tryz.func87, Tryz.ntmps87
      go_wp2
      go_ret
      exact ⟨rfl, rfl⟩
    · rw [if_neg h2]
      go_enter Tryz.func87, Tryz.ntmps87
      go_wp2
      go_ret
      exact ⟨rfl, rfl⟩
set_option maxHeartbeats 1000000 in
set_option maxRecDepth 100000 in
theorem compare_any (u v : Value) (xs ys : List Int) (w : World) (hu : SlAt mI 0 0 w.heap.size w u xs) (hv : SlAt mI 0 0 w.heap.size w v ys) :
    Calls Tryz.prog 48 #[u, v] w fun e w' => e = .returned (.int .i64 (lexc xs ys)) ∧ w' = w := by
  obtain ⟨a, cap, rfl, hl, hc⟩ := hu
  obtain ⟨a2, cap2, rfl, hl2, hc2⟩ := hv
  unfold maxLen at hl hl2
  go_enter Tryz.func48, Tryz.ntmps48
  go_wp2_with fail
  go_loop [11] (fun i => ∃ k : Nat, k ≤ xs.length ∧ k ≤ ys.length ∧ i = .int .i64 k ∧ lexc xs ys = lexc (xs.drop k) (ys.drop k)) (fun i => xs.length - (intOf i).toNat)
  case atStart => exact ⟨0, Nat.zero_le _, Nat.zero_le _, rfl, rfl⟩
  case round =>
    obtain ⟨k, hk, hk2, rfl, he⟩ := hrel
    have He := hide he
    clear he
    by_cases h1 : k < xs.length
    · have h1' : (k : Int) < (xs.length : Int) := by omega
      obtain ⟨b, off, rfl, -, -, hcell⟩ := hc (by omega)
      have hx : w.cell? ⟨b, off + k, none⟩ = some (.int .i64 (xs[k]?.getD 0)) := hcell k h1
      by_cases h2 : k < ys.length
      · have h2' : (k : Int) < (ys.length : Int) := by omega
        obtain ⟨b2, off2, rfl, -, -, hcell2⟩ := hc2 (by omega)
        have hy : w.cell? ⟨b2, off2 + k, none⟩ = some (.int .i64 (ys[k]?.getD 0)) := hcell2 k h2
        have Hst : Hid (lexc xs ys = if xs[k]?.getD 0 < ys[k]?.getD 0 then -1 else if ys[k]?.getD 0 < xs[k]?.getD 0 then 1 else lexc (xs.drop (k + 1)) (ys.drop (k + 1))) := by
          have := unhide He
          rw [drop_cons h1, drop_cons h2] at this
          exact this
        clear hcell hcell2 hc hc2 He
        generalize xs[k]?.getD 0 = x at *
        generalize ys[k]?.getD 0 = y at *
        go_wp2_with fail
        refine (cmpInt_any x y _).mono ?_
        rintro e w1 ⟨rfl, rfl⟩
        by_cases g1 : x < y
        · simp only [if_pos g1]
          have Hq := unhide Hst
          rw [if_pos g1] at Hq
          have HQ := hide Hq
          clear Hq Hst
          go_wp2
          go_ret
          exact ⟨ret_int (unhide HQ).symm, rfl⟩
        · have Hq := unhide Hst
          rw [if_neg g1] at Hq
          by_cases g2 : y < x
          · simp only [if_neg g1, if_pos g2]
            rw [if_pos g2] at Hq
            have HQ := hide Hq
            clear Hq Hst
            go_wp2
            go_ret
            exact ⟨ret_int (unhide HQ).symm, rfl⟩
          · simp only [if_neg g1, if_neg g2]
            rw [if_neg g2] at Hq
            have HQ := hide Hq
            clear Hq Hst
            go_wp2
            go_round
            case rel => exact ⟨k + 1, by omega, by omega, by go_num, unhide HQ⟩
            case measure => simp [intOf]; omega
      · obtain rfl : k = ys.length := by omega
        have HQ : Hid (lexc xs ys = 1) := by
          have := unhide He
          rw [drop_cons h1, drop_nil] at this
          exact this
        clear hcell hc hc2 He
        generalize xs[ys.length]?.getD 0 = x at *
        go_wp2
        go_ret
        exact ⟨ret_int (unhide HQ).symm, rfl⟩
    · obtain rfl : k = xs.length := by omega
      clear hc hc2
      by_cases h2 : xs.length < ys.length
      · have h2' : (xs.length : Int) < (ys.length : Int) := by omega
        have HQ : Hid (lexc xs ys = -1) := by
          have := unhide He
          rw [drop_nil, drop_cons h2] at this
          exact this
        go_wp2
        go_ret
        exact ⟨ret_int (unhide HQ).symm, rfl⟩
      · have h2' : ¬ (xs.length : Int) < (ys.length : Int) := by omega
        have HQ : Hid (lexc xs ys = 0) := by
          have := unhide He
          rw [drop_nil, show xs.length = ys.length by omega, drop_nil] at this
          exact this
        go_wp2
        go_ret
        exact ⟨ret_int (unhide HQ).symm, rfl⟩
set_option maxHeartbeats 1000000 in
set_option maxRecDepth 100000 in
theorem equal_any (u v : Value) (xs ys : List Int) (w : World) (hu : SlAt mI 0 0 w.heap.size w u xs) (hv : SlAt mI 0 0 w.heap.size w v ys) :
    Calls Tryz.prog 51 #[u, v] w fun e w' => RetB e (xs = ys) ∧ ∃ q, w' = w.drewN q := by
  obtain ⟨a, cap, rfl, hl, hc⟩ := hu
  obtain ⟨a2, cap2, rfl, hl2, hc2⟩ := hv
  unfold maxLen at hl hl2
  by_cases hn : xs.length = ys.length
  · have hn' : ((xs.length : Int) != (ys.length : Int)) = false := by simp [hn]
    have HN := hide hn
    have hle1 : xs.length ≤ ys.length := by omega
    have hle2 : ys.length ≤ xs.length := by omega
    clear hn
    go_enter Tryz.func51, Tryz.ntmps51
    go_wp2_with fail
    go_loopw [13] (fun i wr => (∃ k : Nat, k ≤ xs.length ∧ i = .int .i64 k ∧ ∀ j : Nat, j < k → xs[j]?.getD 0 = ys[j]?.getD 0) ∧ ∃ q, wr = w.drewN q) (fun i _ => xs.length - (intOf i).toNat)
    case atStart => exact ⟨⟨0, Nat.zero_le _, rfl, fun j hj => absurd hj (Nat.not_lt_zero _)⟩, 0, rfl⟩
    case round =>
      obtain ⟨⟨k, hk, rfl, he⟩, q, rfl⟩ := hrel
      have He := hide he
      clear he
      by_cases h1 : k < xs.length
      · have h1' : (k : Int) < (xs.length : Int) := by omega
        have h2' : (k : Int) < (ys.length : Int) := by omega
        obtain ⟨b, off, rfl, -, -, hcell⟩ := hc (by omega)
        obtain ⟨b2, off2, rfl, -, -, hcell2⟩ := hc2 (by omega)
        have hx : w.cell? ⟨b, off + k, none⟩ = some (.int .i64 (xs[k]?.getD 0)) := hcell k h1
        have hy : w.cell? ⟨b2, off2 + k, none⟩ = some (.int .i64 (ys[k]?.getD 0)) := hcell2 k (by omega)
        have Hst : Hid (xs[k]?.getD 0 = ys[k]?.getD 0 → ∀ j : Nat, j < k + 1 → xs[j]?.getD 0 = ys[j]?.getD 0) := fun h j hj => by
          by_cases e : j = k
          · subst e; exact h
          · exact unhide He j (by omega)
        have Hno : Hid (xs[k]?.getD 0 ≠ ys[k]?.getD 0 → xs ≠ ys) := fun h e => h (by rw [e])
        clear hcell hcell2 hc hc2 He
        generalize xs[k]?.getD 0 = x at *
        generalize ys[k]?.getD 0 = y at *
        by_cases g0 : x = y
        · subst g0
          have HQ := hide (unhide Hst rfl)
          clear Hst Hno
          go_wp2_with fail
          go_quiet (fail)
          go_wp2
          go_roundw
          case rel => exact ⟨⟨k + 1, by omega, by go_num, unhide HQ⟩, _, rfl⟩
          case measure => simp [intOf]; omega
        · have g0' : (x != y) = true := by simp [g0]
          have HQ := hide (unhide Hno g0)
          clear Hst Hno
          go_wp2_with fail
          go_quiet (fail)
          go_wp2
          go_ret
          exact ⟨RetB.no (unhide HQ), _, drew2 _ _ _⟩
      · obtain rfl : k = xs.length := by omega
        clear hc hc2
        have HQ : Hid (xs = ys) := by
          apply List.ext_getElem (unhide HN)
          intro i h1 h2
          have := unhide He i h1
          simpa [h1, h2] using this
        go_wp2
        go_ret
        exact ⟨RetB.yes (unhide HQ), _, rfl⟩
  · have hn' : ((xs.length : Int) != (ys.length : Int)) = true := by simp; omega
    clear hc hc2
    go_enter Tryz.func51, Tryz.ntmps51
    go_wp2
    go_ret
    exact ⟨RetB.no (fun h => hn (by rw [h])), 0, rfl⟩
theorem own_cut {base e g n cap k : Nat} {w : World} {xs : List Value} (h : w.ownsRow base e 1 (.slice (some ⟨g, 0, none⟩) n cap) n xs) (hk : k ≤ n) : w.ownsRow base e 1 (.slice (some ⟨g, 0, none⟩) k cap) k (xs.take k) := by
  have hlen := h.1
  rcases h.2 with ⟨e0, _⟩ | ⟨g', cap', cur, e0, hb, hg, hn, hm, hs, ht⟩
  · cases e0
  · cases e0
    refine ⟨by rw [List.length_take]; omega, .inr ⟨g, cap, cur, rfl, hb, hg, by omega, hm, hs, ?_⟩⟩
    rw [← ht, List.take_take]
    congr 1
    omega
theorem own_past {base e g cap k j : Nat} {w : World} {xs : List Value} {u : Value} (h : w.ownsRow base e 1 (.slice (some ⟨g, 0, none⟩) k cap) k xs) (hj : k ≤ j) : (w.setCell ⟨g, j, none⟩ u).ownsRow base e 1 (.slice (some ⟨g, 0, none⟩) k cap) k xs := by
  have hlen := h.1
  rcases h.2 with ⟨e0, _⟩ | ⟨g', cap', cur, e0, hb, hg, hn, hm, hs, ht⟩
  · cases e0
  · cases e0
    refine ⟨hlen, .inr ⟨g, cap, cur.setIfInBounds j u, rfl, hb, ?_, hn, hm, by rw [Array.size_setIfInBounds]; exact hs, ?_⟩⟩
    · simp [World.setCell, Array.getElem?_modify, hg]
    · rw [Array.toList_setIfInBounds, List.take_set, ht]
      exact List.set_eq_of_length_le (by omega)
theorem own_pasts {base e g cap k : Nat} : ∀ {us : List Value} {j : Nat} {w : World} {xs : List Value}, w.ownsRow base e 1 (.slice (some ⟨g, 0, none⟩) k cap) k xs → k ≤ j → (w.setCells g j us).ownsRow base e 1 (.slice (some ⟨g, 0, none⟩) k cap) k xs
  | [], _, _, _, h, _ => h
  | _ :: us, j, _, _, h, hj => own_pasts (us := us) (j := j + 1) (own_past h hj) (by omega)
theorem chg_sets {g : Nat} : ∀ {us : List Value} {j : Nat} {w : World}, ChgF (fun k => k = g) w (w.setCells g j us)
  | [], _, _ => ChgF.refl _ _
  | u :: us, j, w => ((ChgF.refl (fun k => k = g) w).put (b := g) (o := j) rfl u).trans (chg_sets (us := us) (j := j + 1))
theorem own_at_s {base n e : Nat} {w : World} {v : Value} {xs : List Value} (h : w.ownsRow base e 1 v n xs) (hp : 0 < n) : ∃ g cap, v = .slice (some ⟨g, 0, none⟩) n cap ∧ ∀ j : Nat, j < n → w.cell? ⟨g, j, none⟩ = xs[j]? := by
  rcases h.2 with ⟨rfl, hz⟩ | ⟨g, cap, cur, rfl, hbg, hg, hnc, hcm, hcs, htake⟩
  · omega
  · exact ⟨g, cap, rfl, fun j hj => h.cellAt j (by omega)⟩
def dC : Cl Int := ⟨.slice none 0 0, [], 0⟩
def kpc (ps : List (Cl Int)) (j : Nat) : Bool := decide (j = 0) || decide ((ps[j]?.getD dC).xs ≠ (ps[j - 1]?.getD dC).xs)
def KpC (ps : List (Cl Int)) (j : Nat) : Prop := kpc ps j = true
theorem kpc_iff {ps : List (Cl Int)} {j : Nat} : KpC ps j ↔ j = 0 ∨ (ps[j]?.getD dC).xs ≠ (ps[j - 1]?.getD dC).xs := by unfold KpC kpc; simp
def cpt (ps : List (Cl Int)) : Nat → List (Cl Int)
  | 0 => []
  | m + 1 => if kpc ps m = true then cpt ps m ++ [ps[m]?.getD dC] else cpt ps m
theorem cpt_keep {ps : List (Cl Int)} {m : Nat} (h : KpC ps m) : cpt ps (m + 1) = cpt ps m ++ [ps[m]?.getD dC] := by simp only [cpt]; exact if_pos h
theorem cpt_skip {ps : List (Cl Int)} {m : Nat} (h : ¬ KpC ps m) : cpt ps (m + 1) = cpt ps m := by simp only [cpt]; exact if_neg h
theorem cpt_all {ps : List (Cl Int)} {m : Nat} (hm : m ≤ ps.length) (h : ∀ j, j < m → KpC ps j) : cpt ps m = ps.take m := by
  induction m with
  | zero => simp [cpt]
  | succ m ih =>
    rw [cpt_keep (h m (Nat.lt_succ_self _)), ih (by omega) (fun j hj => h j (by omega)), List.take_add_one]
    simp [show m < ps.length by omega]
theorem equal_yes (u v : Value) (xs ys : List Int) (w : World) (hu : SlAt mI 0 0 w.heap.size w u xs) (hv : SlAt mI 0 0 w.heap.size w v ys) (h : xs = ys) :
    Calls Tryz.prog 51 #[u, v] w fun e w' => e = .returned (.bool true) ∧ ∃ q, w' = w.drewN q :=
  (equal_any u v xs ys w hu hv).mono (fun _ _ ⟨h1, h2⟩ => ⟨by
    rcases h1.cases with ⟨h3, -⟩ | ⟨-, h4⟩
    · exact h3
    · exact absurd h h4, h2⟩)
theorem equal_no (u v : Value) (xs ys : List Int) (w : World) (hu : SlAt mI 0 0 w.heap.size w u xs) (hv : SlAt mI 0 0 w.heap.size w v ys) (h : ¬ xs = ys) :
    Calls Tryz.prog 51 #[u, v] w fun e w' => e = .returned (.bool false) ∧ ∃ q, w' = w.drewN q :=
  (equal_any u v xs ys w hu hv).mono (fun _ _ ⟨h1, h2⟩ => ⟨by
    rcases h1.cases with ⟨-, h4⟩ | ⟨h3, -⟩
    · exact absurd h4 h
    · exact h3, h2⟩)
structure CI (ps : List (Cl Int)) (m kk : Nat) (dk : List (Cl Int)) : Prop where
  len : dk.length = ps.length
  kept : (cpt ps m).length = kk
  low : dk.take kk = cpt ps m
  high : ∀ j, m ≤ j + 1 → j < ps.length → dk[j]?.getD dC = ps[j]?.getD dC
  lt : kk < m
  le : m ≤ ps.length
theorem CI.start {ps : List (Cl Int)} {k : Nat} (hk : k < ps.length) (hall : ∀ j, j < k → KpC ps j) (hno : ¬ KpC ps k) : CI ps (k + 1) k ps := by
  have e := cpt_all (by omega) hall
  exact ⟨rfl, by rw [cpt_skip hno, e]; simp; omega, by rw [cpt_skip hno, e], fun _ _ _ => rfl, by omega, by omega⟩
theorem CI.skip {ps : List (Cl Int)} {m kk : Nat} {dk : List (Cl Int)} (h : CI ps m kk dk) (hm : m < ps.length) (hno : ¬ KpC ps m) : CI ps (m + 1) kk dk :=
  ⟨h.len, by rw [cpt_skip hno]; exact h.kept, by rw [cpt_skip hno]; exact h.low, fun j h1 h2 => h.high j (by omega) h2, by have := h.lt; omega, by omega⟩
theorem CI.keep {ps : List (Cl Int)} {m kk : Nat} {dk : List (Cl Int)} (h : CI ps m kk dk) (hm : m < ps.length) (hy : KpC ps m) : CI ps (m + 1) (kk + 1) (dk.set kk (ps[m]?.getD dC)) := by
  have h1 := h.lt
  have h2 := h.len
  refine ⟨by simpa using h2, by rw [cpt_keep hy]; simp [h.kept], ?_, fun j k1 k2 => ?_, by omega, by omega⟩
  · rw [cpt_keep hy, ← h.low]
    apply List.ext_getElem
    · simp; omega
    · intro i i1 i2
      simp at i1 i2
      by_cases e : i = kk
      · subst e
        rw [List.getElem_append_right (by simp; omega)]
        simp
      · rw [List.getElem_take, List.getElem_set_ne (by omega), List.getElem_append_left (by simp; omega), List.getElem_take]
  · rw [List.getElem?_set_ne (by omega)]
    exact h.high j (by omega) k2
theorem ok_chg {w w' : World} {g : Nat} {p : Cl Int} (h : p.ok mI 0 3 w) (hne : 0 < p.xs.length → p.b ≠ g) (hc : ChgF (fun k => k = g) w w') : p.ok mI 0 3 w' := h.same (fun hp => hc.block _ (fun e => hne hp e))
theorem zeroIntS (w : World) : (zeroValue 34).run Tryz.prog w = .ok (.slice none 0 0) w := Tryz.zeroValue34 w
set_option maxHeartbeats 4000000 in
set_option maxRecDepth 100000 in
theorem compactF_any (base g cap : Nat) (ps : List (Cl Int)) (w : World) (hown : w.ownsRow base 34 1 (.slice (some ⟨g, 0, none⟩) ps.length cap) ps.length (ps.map Cl.v)) (hok : ∀ p ∈ ps, p.ok mI 0 3 w) (hne : ∀ p ∈ ps, 0 < p.xs.length → p.b ≠ g) (hl : ps.length ≤ 1048576) :
    Calls Tryz.prog 50 #[.slice (some ⟨g, 0, none⟩) ps.length cap, .func (.func 51) #[] #[]] w fun e w' => e = .returned (.slice (some ⟨g, 0, none⟩) (cpt ps ps.length).length cap) ∧ w'.ownsRow base 34 1 (.slice (some ⟨g, 0, none⟩) (cpt ps ps.length).length cap) (cpt ps ps.length).length ((cpt ps ps.length).map Cl.v) ∧ ChgF (fun k => k = g) w w' := by
  obtain ⟨hcp, hcm⟩ := (own_cap hown).le
  unfold maxLen at hcm
  have Hown := hide hown
  have Hok := hide hok
  have Hne := hide hne
  have hrd : Hid (∀ j : Nat, j < ps.length → w.cell? ⟨g, j, none⟩ = some (ps[j]?.getD dC).v) := fun j hj => by
    obtain ⟨g', c', e, hc⟩ := own_at_s hown (by omega)
    cases e
    rw [hc j hj, List.getElem?_map, List.getElem?_eq_getElem hj]
    rfl
  clear hown hok hne
  by_cases h2 : ps.length < 2
  · have h2' : (ps.length : Int) < 2 := by omega
    have e : cpt ps ps.length = ps := by
      rw [cpt_all (Nat.le_refl _) (fun j hj => kpc_iff.2 (Or.inl (by omega))), List.take_length]
    rw [e]
    go_enter Tryz.func50, Tryz.ntmps50
    go_wp2
    go_ret
    exact ⟨rfl, unhide Hown, ChgF.refl _ _⟩
  · have h2' : ¬ (ps.length : Int) < 2 := by omega
    go_enter Tryz.func50, Tryz.ntmps50
    go_wp2_with fail
    go_loopw [5] (fun i wr => (∃ k : Nat, 1 ≤ k ∧ k ≤ ps.length ∧ i = .int .i64 k ∧ ∀ j : Nat, j < k → KpC ps j) ∧ ∃ q, wr = w.drewN q) (fun i _ => ps.length - (intOf i).toNat)
    case atStart => exact ⟨⟨1, Nat.le_refl _, by omega, rfl, fun j hj => kpc_iff.2 (Or.inl (by omega))⟩, 0, rfl⟩
    case round =>
      obtain ⟨⟨k, hk1, hk, rfl, hall⟩, q, rfl⟩ := hrel
      have Hall := hide hall
      clear hall
      by_cases hlt : k < ps.length
      · obtain ⟨k, rfl⟩ : ∃ j, k = j + 1 := ⟨k - 1, by omega⟩
        have hlt' : (k : Int) + 1 < (ps.length : Int) := by omega
        have hlt0 : (k : Int) < (ps.length : Int) := by omega
        have hp1 : (0 : Int) ≤ (k : Int) + 1 := by omega
        have hki : IntKind.i64.wrap (k : Int) = (k : Int) := k64i (by omega) (by omega)
        have hx := unhide hrd (k + 1) hlt
        have hy := unhide hrd k (by omega)
        have hm1 : ps[k + 1]?.getD dC ∈ ps := by rw [List.getElem?_eq_getElem hlt]; exact List.getElem_mem hlt
        have hm2 : ps[k]?.getD dC ∈ ps := by rw [List.getElem?_eq_getElem (by omega)]; exact List.getElem_mem _
        have S1 := hide (unhide Hok _ hm1).at
        have S2 := hide (unhide Hok _ hm2).at
        have HK : Hid (KpC ps (k + 1) ↔ (ps[k + 1]?.getD dC).xs ≠ (ps[k]?.getD dC).xs) := by rw [kpc_iff]; exact ⟨fun h => h.resolve_left (by omega), Or.inr⟩
        clear hm1 hm2
        generalize ps[k + 1]?.getD dC = p at *
        generalize ps[k]?.getD dC = r at *
        obtain ⟨a1, c1, e1⟩ : ∃ a c, p.v = .slice a p.xs.length c := by obtain ⟨a, c, e, -⟩ := unhide S1; exact ⟨a, c, e⟩
        obtain ⟨a2, c2, e2⟩ : ∃ a c, r.v = .slice a r.xs.length c := by obtain ⟨a, c, e, -⟩ := unhide S2; exact ⟨a, c, e⟩
        rw [e1] at hx S1
        rw [e2] at hy S2
        clear e1 e2
        obtain ⟨W, hW⟩ : ∃ W, w.drewN q = W := ⟨_, rfl⟩
        have HW := hide hW
        replace hx : W.cell? ⟨g, k + 1, none⟩ = some (.slice a1 p.xs.length c1) := by rw [← hW]; exact hx
        replace hy : W.cell? ⟨g, k, none⟩ = some (.slice a2 r.xs.length c2) := by rw [← hW]; exact hy
        replace S1 : Hid (SlAt mI 0 0 W.heap.size W (.slice a1 p.xs.length c1) p.xs) := by rw [← hW]; exact unhide S1
        replace S2 : Hid (SlAt mI 0 0 W.heap.size W (.slice a2 r.xs.length c2) r.xs) := by rw [← hW]; exact unhide S2
        rw [hW]
        clear hW
        by_cases hdup : p.xs = r.xs
        · have hno : Hid (¬ KpC ps (k + 1)) := fun h => (unhide HK).1 h hdup
          have Hdup := hide hdup
          clear HK hdup
          go_wp2_with fail
          go_quiet ((go_at_call 51; refine Calls.quiet_of (equal_yes _ _ _ _ _ (by exact unhide S1) (by exact unhide S2) (unhide Hdup))))
          go_wp2_with fail
          have hci := hide (CI.start hlt (unhide Hall) (unhide hno))
          have HW2 : Hid (ChgF (fun k => k = g) w (W.drewN nq)) := by rw [← unhide HW]; exact ⟨rfl, rfl, rfl, rfl, fun _ _ => rfl⟩
          have Hown2 : Hid ((W.drewN nq).ownsRow base 34 1 (.slice (some ⟨g, 0, none⟩) ps.length cap) ps.length (ps.map Cl.v)) := by rw [← unhide HW]; exact unhide Hown
          clear hx hy S1 S2 HW Hdup hno Hall hrd hki hp1 hlt0 hlt'
          generalize W.drewN nq = V at *
          obtain ⟨L, hL⟩ : ∃ L, ps.length - (k + 1) = L := ⟨_, rfl⟩
          have hL2 : ps.length = k + 1 + L := by omega
          have HL2 := hide hL2
          have hnle : k + 1 + L ≤ ps.length := by omega
          have hnge : ps.length ≤ k + 1 + L := by omega
          rw [hL]
          clear hL hL2
          go_loopw [5, 7] (fun kv k2v wr => ∃ (kk j : Nat) (dk : List (Cl Int)), kv = .int .i64 kk ∧ k2v = .int .i64 ((j : Int) + 1) ∧ j + 1 ≤ L ∧ CI ps (k + 1 + (j + 1)) kk dk ∧ wr.ownsRow base 34 1 (.slice (some ⟨g, 0, none⟩) ps.length cap) ps.length (dk.map Cl.v) ∧ ChgF (fun k => k = g) w wr) (fun _ k2v _ => L - (intOf k2v).toNat)
          case atStart => exact ⟨k + 1, 0, ps, by go_num, rfl, by omega, unhide hci, unhide Hown2, unhide HW2⟩
          case round =>
            clear hci Hown2 HW2
            obtain ⟨kk, j, dk, rfl, rfl, hjL, hci, hown, hch⟩ := hrel
            have hkk := hci.lt
            have Hci := hide hci
            have Hown' := hide hown
            have Hch := hide hch
            by_cases hj : j + 1 < L
            · have hj' : (j : Int) + 1 < (L : Int) := by omega
              have hj0 : (j : Int) < (L : Int) := by omega
              have hp1 : (0 : Int) ≤ (j : Int) + 1 := by omega
              have hki : IntKind.i64.wrap (j : Int) = (j : Int) := k64i (by omega) (by omega)
              have hkn : (kk : Int) < (ps.length : Int) := by omega
              obtain ⟨g', c', e, hcl⟩ := own_at_s hown (by omega)
              cases e
              have hx : wr.cell? ⟨g, k + 1 + (j + 1), none⟩ = some (ps[k + 1 + (j + 1)]?.getD dC).v := by
                rw [hcl _ (by omega), List.getElem?_map, List.getElem?_eq_getElem (by rw [hci.len]; omega), ← hci.high _ (by omega) (by omega), List.getElem?_eq_getElem (by rw [hci.len]; omega)]
                rfl
              have hy : wr.cell? ⟨g, k + 1 + j, none⟩ = some (ps[k + 1 + j]?.getD dC).v := by
                rw [hcl _ (by omega), List.getElem?_map, List.getElem?_eq_getElem (by rw [hci.len]; omega), ← hci.high _ (by omega) (by omega), List.getElem?_eq_getElem (by rw [hci.len]; omega)]
                rfl
              obtain ⟨old, hold⟩ : ∃ old, wr.cell? ⟨g, kk, none⟩ = some old := ⟨_, by rw [hcl _ (by omega), List.getElem?_map, List.getElem?_eq_getElem (by rw [hci.len]; omega)]; rfl⟩
              have hfz : wr.frozen? ⟨g, kk, none⟩ = false := by
                rcases hown.2 with ⟨e0, _⟩ | ⟨g', cap', cur, e0, hb, hg, -⟩
                · cases e0
                · cases e0
                  exact frz ⟨cur, _, hg⟩
              have hm1 : ps[k + 1 + (j + 1)]?.getD dC ∈ ps := by rw [List.getElem?_eq_getElem (by omega)]; exact List.getElem_mem _
              have hm2 : ps[k + 1 + j]?.getD dC ∈ ps := by rw [List.getElem?_eq_getElem (by omega)]; exact List.getElem_mem _
              have S1 := hide (ok_chg (unhide Hok _ hm1) (unhide Hne _ hm1) hch).at
              have S2 := hide (ok_chg (unhide Hok _ hm2) (unhide Hne _ hm2) hch).at
              have HK : Hid (KpC ps (k + 1 + (j + 1)) ↔ (ps[k + 1 + (j + 1)]?.getD dC).xs ≠ (ps[k + 1 + j]?.getD dC).xs) := by
                rw [kpc_iff, show k + 1 + (j + 1) - 1 = k + 1 + j by omega]
                exact ⟨fun h => h.resolve_left (by omega), Or.inr⟩
              have Hkeep : Hid (KpC ps (k + 1 + (j + 1)) → CI ps (k + 1 + (j + 1 + 1)) (kk + 1) (dk.set kk (ps[k + 1 + (j + 1)]?.getD dC))) := fun h => hci.keep (by omega) h
              have Hskip : Hid (¬ KpC ps (k + 1 + (j + 1)) → CI ps (k + 1 + (j + 1 + 1)) kk dk) := fun h => hci.skip (by omega) h
              clear hm1 hm2 hcl hci hown hch
              generalize ps[k + 1 + (j + 1)]?.getD dC = p at *
              generalize ps[k + 1 + j]?.getD dC = r at *
              obtain ⟨a1, c1, e1⟩ : ∃ a c, p.v = .slice a p.xs.length c := by obtain ⟨a, c, e, -⟩ := unhide S1; exact ⟨a, c, e⟩
              obtain ⟨a2, c2, e2⟩ : ∃ a c, r.v = .slice a r.xs.length c := by obtain ⟨a, c, e, -⟩ := unhide S2; exact ⟨a, c, e⟩
              have E1 := hide e1
              rw [e1] at hx S1
              rw [e2] at hy S2
              clear e1 e2
              by_cases hdup : p.xs = r.xs
              · have hn := hide (unhide Hskip (fun h => (unhide HK).1 h hdup))
                have Hdup := hide hdup
                clear HK hdup Hkeep Hskip
                go_wp2_with fail
                go_quiet ((go_at_call 51; refine Calls.quiet_of (equal_yes _ _ _ _ _ (by exact unhide S1) (by exact unhide S2) (unhide Hdup))))
                go_wp2
                go_roundw
                case rel => exact ⟨kk, j + 1, dk, rfl, by go_num, by omega, unhide hn, unhide Hown', ⟨(unhide Hch).os, (unhide Hch).tape, (unhide Hch).output, (unhide Hch).size, (unhide Hch).block⟩⟩
                case measure => simp [intOf]; omega
              · have hn := hide (unhide Hkeep ((unhide HK).2 hdup))
                have Hdup := hide hdup
                clear HK hdup Hkeep Hskip
                go_wp2_with fail
                go_quiet ((go_at_call 51; refine Calls.quiet_of (equal_no _ _ _ _ _ (by exact unhide S1) (by exact unhide S2) (unhide Hdup))))
                go_wp2
                go_roundw
                case rel => exact ⟨kk + 1, j + 1, dk.set kk p, by go_num, by go_num, by omega, unhide hn, by rw [List.map_set, unhide E1]; exact own_set (w := wr.drewN nq) (unhide Hown') (by omega), (ChgF.trans (b := wr.drewN nq) ⟨(unhide Hch).os, (unhide Hch).tape, (unhide Hch).output, (unhide Hch).size, (unhide Hch).block⟩ ((ChgF.refl (fun k => k = g) _).put (b := g) rfl _))⟩
                case measure => simp [intOf]; omega
            · have hjL2 : j + 1 = L := by omega
              subst hjL2
              have hfin : Hid (CI ps ps.length kk dk) := by
                have e : k + 1 + (j + 1) = ps.length := by omega
                rw [← e]
                exact hci
              have hkn : kk < ps.length := by omega
              have hkn' : (kk : Int) < (ps.length : Int) := by omega
              have hkc : (kk : Int) ≤ (cap : Int) := by omega
              have hcl : ∀ ty, (Builtin.clear_ #[29] ty #[.slice (some ⟨g, kk, none⟩) (ps.length - kk) (cap - kk)]).run Tryz.prog wr = .ok (.tuple #[]) (wr.setCells g kk (List.replicate (ps.length - kk) (.slice none 0 0))) := fun ty => by
                have hown2 := hown
                obtain ⟨g', c', e, hc2⟩ := own_at_s hown (by omega)
                cases e
                refine Lib.run_clear_slice wr _ _ ty _ Tryz.underlying29 (fun w => zeroIntS w) rfl rfl g kk _ _ (by omega) (fun i hi => ?_) (fun i hi => ?_)
                · rw [hc2 _ (by omega), List.getElem?_map, List.getElem?_eq_getElem (by rw [hci.len]; omega)]
                  rfl
                · rcases hown2.2 with ⟨e0, _⟩ | ⟨g', cap', cur, e0, hb, hg, -⟩
                  · cases e0
                  · cases e0
                    exact frz ⟨cur, _, hg⟩
              clear hci hown hch
              go_wp2
              go_ret
              have h1 := (unhide hfin).kept
              have h2 := (unhide hfin).low
              rw [h1]
              refine ⟨rfl, ?_, (unhide Hch).trans chg_sets⟩
              have h3 := own_cut (k := kk) (unhide Hown') (by omega)
              rw [← List.map_take, h2] at h3
              exact own_pasts h3 (Nat.le_refl _)
        · have hyes : Hid (KpC ps (k + 1)) := (unhide HK).2 hdup
          have Hdup := hide hdup
          clear HK hdup
          go_wp2_with fail
          go_quiet ((go_at_call 51; refine Calls.quiet_of (equal_no _ _ _ _ _ (by exact unhide S1) (by exact unhide S2) (unhide Hdup))))
          go_wp2
          go_roundw
          case rel => exact ⟨⟨k + 1 + 1, by omega, by omega, by go_num, fun j hj => by
            by_cases e : j = k + 1
            · subst e; exact unhide hyes
            · exact unhide Hall j (by omega)⟩, q + nq, by rw [← unhide HW, drew2]⟩
          case measure => simp [intOf]; omega
      · obtain rfl : k = ps.length := by omega
        have e : Hid (cpt ps ps.length = ps) := by show cpt ps ps.length = ps; rw [cpt_all (Nat.le_refl _) (unhide Hall), List.take_length]
        go_wp2
        go_ret
        rw [unhide e]
        exact ⟨rfl, unhide Hown, ⟨rfl, rfl, rfl, rfl, fun _ _ => rfl⟩⟩
def LAsc (rs : List (List Int)) : Prop := rs.Pairwise (fun a b => lexc a b < 0)
theorem lasc_uniq : ∀ {xs ys : List (List Int)}, LAsc xs → LAsc ys → (∀ z, z ∈ xs ↔ z ∈ ys) → xs = ys
  | [], [], _, _, _ => rfl
  | [], y :: ys, _, _, h => absurd ((h y).2 (by simp)) (by simp)
  | x :: xs, [], _, _, h => absurd ((h x).1 (by simp)) (by simp)
  | x :: xs, y :: ys, hx, hy, h => by
    have hx' := List.pairwise_cons.1 hx
    have hy' := List.pairwise_cons.1 hy
    have hself : ∀ a : List Int, ¬ lexc a a < 0 := fun a => by rw [lexc_zero.2 rfl]; omega
    have e : x = y := by
      rcases List.mem_cons.1 ((h x).1 (by simp)) with e | m1
      · exact e
      · rcases List.mem_cons.1 ((h y).2 (by simp)) with e | m2
        · exact e.symm
        · exact absurd (lexc_trans (hx'.1 y m2) (hy'.1 x m1)) (hself x)
    subst e
    congr 1
    refine lasc_uniq hx'.2 hy'.2 (fun z => ⟨fun m => ?_, fun m => ?_⟩)
    · rcases List.mem_cons.1 ((h z).1 (List.mem_cons_of_mem _ m)) with e | m'
      · subst e; exact absurd (hx'.1 z m) (hself z)
      · exact m'
    · rcases List.mem_cons.1 ((h z).2 (List.mem_cons_of_mem _ m)) with e | m'
      · subst e; exact absurd (hy'.1 z m) (hself z)
      · exact m'
theorem lasc_ins {rs : List (List Int)} {x : List Int} {at' : Nat} (h : LAsc rs) (hat : at' ≤ rs.length) (hlow : ∀ j : Nat, j < at' → lexc (rs[j]?.getD []) x < 0) (hhigh : at' < rs.length → lexc x (rs[at']?.getD []) < 0) : LAsc (rs.take at' ++ x :: rs.drop at') := by
  have h' : LAsc (rs.take at' ++ rs.drop at') := by rw [List.take_append_drop]; exact h
  obtain ⟨p1, p2, p3⟩ := List.pairwise_append.1 h'
  refine List.pairwise_append.2 ⟨p1, List.pairwise_cons.2 ⟨fun z hz => ?_, p2⟩, fun a ha b hb => ?_⟩
  · have hlt : at' < rs.length := by
      have := List.length_pos_of_mem hz
      simp at this
      omega
    have h1 := hhigh hlt
    rw [List.drop_eq_getElem_cons hlt] at hz p2
    have e : rs[at']?.getD [] = rs[at'] := by simp [hlt]
    rw [e] at h1
    rcases List.mem_cons.1 hz with e2 | m
    · rw [e2]; exact h1
    · exact lexc_trans h1 ((List.pairwise_cons.1 p2).1 z m)
  · have hlow' : ∀ a, a ∈ rs.take at' → lexc a x < 0 := fun a ha => by
      obtain ⟨j, hj, e⟩ := List.mem_iff_getElem.1 ha
      have hj' : j < at' := by simp at hj; omega
      have := hlow j hj'
      rw [List.getElem_take] at e
      rw [show rs[j]?.getD [] = a by rw [← e]; simp [show j < rs.length by simp at hj; omega]] at this
      exact this
    rcases List.mem_cons.1 hb with e | m
    · rw [e]; exact hlow' a ha
    · exact p3 a ha b m
theorem Tryz.zinIntS : (Tryz.prog.info? 34).map (fun i => (i.zero, i.size, i.bytes)) = some (some (.slice none 0 0), 1, 24) := by kernel_rfl
def EvalP (xss : List (List Int)) (ts : List Int) : Prop := ∃ k : Nat, k < xss.length ∧ ∀ z, z ∈ xss[k]?.getD [] → z ∈ ts
theorem SlAt.under {α : Type} {mk : α → Value} {d : α} {lo n m : Nat} {w w' : World} {v : Value} {xs : List α} (h : SlAt mk d lo n w v xs) (hb : Below m w w') (hm : n ≤ m) : SlAt mk d lo n w' v xs := h.same (Same.of_below hb hm)
def Only (D : Nat) (w w' : World) : Prop := ChgF (fun k => k = D) w w'
theorem Only.refl (D : Nat) (w : World) : Only D w w := ChgF.refl _ _
theorem Only.trans {D : Nat} {a b c : World} (h : Only D a b) (k : Only D b c) : Only D a c := ChgF.trans h k
theorem Only.set {D : Nat} {w : World} {v : Value} : Only D w (w.setCell ⟨D, 0, none⟩ v) := ChgF.put (S := fun k => k = D) (ChgF.refl _ _) rfl v
theorem Only.below {D m : Nat} {w w' : World} (h : Only D w w') (hm : m ≤ D) : Below m w w' := ChgF.below h (fun k hk => by omega)
def Row2 (w : World) (b : Nat) (t : TypeId) (c0 c1 : Value) : Prop := w.rowIs b t 2 (fun j => [c0, c1].getD j undef)
theorem Row2.new (w : World) (t : TypeId) (c0 c1 : Value) : Row2 (w.alloc (.cells #[c0, c1] t)) w.heap.size t c0 c1 :=
  World.rowIs_alloc w #[c0, c1] t _ (fun i hi => by
    match i, hi with
    | 0, _ => rfl
    | 1, _ => rfl)
theorem Row2.alloc {w : World} {b : Nat} {t : TypeId} {c0 c1 : Value} (h : Row2 w b t c0 c1) (o : Obj) : Row2 (w.alloc o) b t c0 c1 := World.rowIs.alloc h o
theorem Row2.below {w w' : World} {b m : Nat} {t : TypeId} {c0 c1 : Value} (h : Row2 w b t c0 c1) (hb : Below m w w') (hm : b < m) : Row2 w' b t c0 c1 := World.rowIs.of_block h (hb.block b hm)
theorem Row2.other {w : World} {b b' o : Nat} {t : TypeId} {c0 c1 u : Value} (h : Row2 w b t c0 c1) (hb : b ≠ b') : Row2 (w.setCell ⟨b', o, none⟩ u) b t c0 c1 := World.rowIs.setOther h hb u
theorem Row2.put0 {w : World} {b : Nat} {t : TypeId} {c0 c1 u : Value} (h : Row2 w b t c0 c1) : Row2 (w.setCell ⟨b, 0, none⟩ u) b t u c1 := (World.rowIs.set h 0 u).congr (fun i hi => by
    match i, hi with
    | 0, _ => rfl
    | 1, _ => rfl)
theorem Row2.put1 {w : World} {b : Nat} {t : TypeId} {c0 c1 u : Value} (h : Row2 w b t c0 c1) : Row2 (w.setCell ⟨b, 1, none⟩ u) b t c0 u := (World.rowIs.set h 1 u).congr (fun i hi => by
    match i, hi with
    | 0, _ => rfl
    | 1, _ => rfl)
theorem Row2.facts4 {w : World} {b : Nat} {t : TypeId} {c0 c1 : Value} (h : Row2 w b t c0 c1) :
    w.cell? ⟨b, 0, none⟩ = some c0 ∧ w.cell? ⟨b, 1, none⟩ = some c1 ∧ w.frozen? ⟨b, 0, none⟩ = false ∧ w.frozen? ⟨b, 1, none⟩ = false :=
  ⟨World.rowIs.cell h (i := 0) (by omega), World.rowIs.cell h (i := 1) (by omega), World.rowIs.frozen h 0, World.rowIs.frozen h 1⟩
theorem Row2.facts {w : World} {b : Nat} {t : TypeId} {c0 c1 : Value} (h : Row2 w b t c0 c1) : w.cell? ⟨b, 0, none⟩ = some c0 ∧ w.cell? ⟨b, 1, none⟩ = some c1 ∧ w.frozen? ⟨b, 1, none⟩ = false := by
  refine ⟨h.cell (by omega), h.cell (by omega), ?_⟩
  obtain ⟨c, hc, -⟩ := h
  simp [World.frozen?, hc]
structure Mv (lo D : Nat) (w w' : World) : Prop where
  os : w'.os = w.os
  tape : w'.tape = w.tape
  output : w'.output = w.output
  size : w.heap.size ≤ w'.heap.size
  block : ∀ k, k < lo → k ≠ D → w'.heap[k]? = w.heap[k]?
theorem Mv.refl (lo D : Nat) (w : World) : Mv lo D w w := ⟨rfl, rfl, rfl, Nat.le_refl _, fun _ _ _ => rfl⟩
theorem Mv.trans {lo D : Nat} {a b c : World} (h : Mv lo D a b) (k : Mv lo D b c) : Mv lo D a c := ⟨k.os.trans h.os, k.tape.trans h.tape, k.output.trans h.output, Nat.le_trans h.size k.size, fun i h1 h2 => (k.block i h1 h2).trans (h.block i h1 h2)⟩
theorem Only.mv {D : Nat} {w w' : World} (h : Only D w w') (lo : Nat) : Mv lo D w w' := ⟨h.os, h.tape, h.output, Nat.le_of_eq h.size.symm, fun k _ hk => h.block k hk⟩
theorem Below.mv {lo : Nat} {w w' : World} (h : Below lo w w') (D : Nat) : Mv lo D w w' := ⟨h.os, h.tape, h.output, h.size, fun k hk _ => h.block k hk⟩
theorem Mv.mono {lo lo' D : Nat} {w w' : World} (h : Mv lo D w w') (hl : lo' ≤ lo) : Mv lo' D w w' := ⟨h.os, h.tape, h.output, h.size, fun k hk hd => h.block k (by omega) hd⟩
theorem Mv.below {lo D : Nat} {w w' : World} (h : Mv lo D w w') (hD : D ≤ lo) : Below D w w' := ⟨h.os, h.tape, h.output, h.size, fun k hk => h.block k (by omega) (by omega)⟩
theorem own_mv {base n e size lo D : Nat} {w w' : World} {v : Value} {xs : List Value} (h : w.ownsRow base e size v n xs) (hb : Mv lo D w w') (hm : w.heap.size ≤ lo) (hD : D < base) : w'.ownsRow base e size v n xs := by
  refine ⟨h.1, ?_⟩
  rcases h.2 with h2 | ⟨g, cap, cur, h1, h2, h3, h4⟩
  · exact Or.inl h2
  · have hg : g < w.heap.size := by
      by_cases q : g < w.heap.size
      · exact q
      · rw [Array.getElem?_eq_none (by omega)] at h3; cases h3
    exact Or.inr ⟨g, cap, cur, h1, h2, (hb.block g (by omega) (by omega)).trans h3, h4⟩
theorem sl_to {N j c : Nat} {a : Option Addr} {w : World} {xs : List Int} (h : SlAt mB 0 0 N w (.slice a xs.length c) xs) (hj : j ≤ xs.length) (hc : xs.length ≤ c) (hm : c ≤ maxLen) : SlAt mB 0 0 N w (.slice a j c) (xs.take j) ∧ CapOk (.slice a j c) := by
  obtain ⟨a', c', e, hl, hcell⟩ := h
  cases e
  have e1 : (xs.take j).length = j := by rw [List.length_take]; omega
  refine ⟨⟨a, c, by rw [e1], by omega, fun hp => ?_⟩, CapOk.mk (by omega) hm⟩
  rw [e1] at hp
  obtain ⟨b, off, rfl, h1, h2, h3⟩ := hcell (by omega)
  refine ⟨b, off, rfl, h1, h2, fun i hi => ?_⟩
  rw [e1] at hi
  rw [h3 i (by omega), List.getElem?_take, if_pos hi]
def CdAt (N D : Nat) (w : World) (xs : List Int) : Prop := N ≤ D ∧ ∃ (v : Value) (cs : List Int) (i : Nat), Row2 w D 71 v (.int .i64 i) ∧ SlAt mB 0 0 N w v cs ∧ i ≤ cs.length ∧ cs.length ≤ 600 ∧ cs.drop i = xs
theorem CdAt.keep {N D m : Nat} {w w' : World} {xs : List Int} (h : CdAt N D w xs) (hb : Below m w w') (hm : D < m) : CdAt N D w' xs := by
  obtain ⟨hN, v, cs, i, h1, h2, h3⟩ := h
  exact ⟨hN, v, cs, i, h1.below hb hm, h2.under hb (by omega), h3⟩
theorem only_put1 {D : Nat} {w : World} {v : Value} : Only D w (w.setCell ⟨D, 1, none⟩ v) := ChgF.put (S := fun k => k = D) (ChgF.refl _ _) rfl v
theorem only_drewN {D : Nat} {w w' : World} (h : Only D w w') (q : Nat) : Only D w (w'.drewN q) := ⟨h.os, h.tape, h.output, h.size, h.block⟩
set_option maxHeartbeats 4000000 in
set_option maxRecDepth 100000 in
theorem next_any (N D : Nat) (xs : List Int) (w : World) (h : CdAt N D w xs) (hb : ∀ x ∈ xs, 0 ≤ x ∧ x ≤ 255) :
    Calls Tryz.prog 33 #[.pointer (some ⟨D, 0, none⟩)] w fun e w' => e = .returned (.int .i64 (xs.headD 0)) ∧ CdAt N D w' xs.tail ∧ Only D w w' := by
  obtain ⟨hN, v, cs, i, hr, hs, hi, hl, rfl⟩ := h
  have HR := hide hr
  have HS := hide hs
  obtain ⟨f0, f1, z1⟩ := hr.facts
  obtain ⟨a, c, rfl, -, hc⟩ := hs
  clear hr
  by_cases hlt : i < cs.length
  · have hlt' : ¬ (cs.length : Int) ≤ (i : Int) := by omega
    have hlt2 : (i : Int) < (cs.length : Int) := by omega
    obtain ⟨b, off, rfl, -, -, hcell⟩ := hc (by omega)
    have hx := hcell i hlt
    unfold mB at hx
    have hy := hb (cs[i]?.getD 0) (by rw [List.drop_eq_getElem_cons hlt, List.getElem?_eq_getElem hlt]; exact List.mem_cons_self ..)
    have He : Hid ((cs.drop i).headD 0 = cs[i]?.getD 0 ∧ (cs.drop i).tail = cs.drop (i + 1)) := by
      show (cs.drop i).headD 0 = cs[i]?.getD 0 ∧ (cs.drop i).tail = cs.drop (i + 1)
      rw [List.drop_eq_getElem_cons hlt, List.getElem?_eq_getElem hlt]
      exact ⟨rfl, rfl⟩
    rw [(unhide He).1, (unhide He).2]
    clear hcell hc hb He
    generalize cs[i]?.getD 0 = y at *
    go_enter Tryz.func33, Tryz.ntmps33
    go_wp2_with fail
    go_quiet (fail)
    go_wp2_with fail
    go_quiet (fail)
    go_wp2
    go_ret
    refine ⟨rfl, ⟨hN, .slice (some ⟨b, off, none⟩) cs.length c, cs, i + 1, ?_, ?_, by omega, hl, rfl⟩, ?_⟩
    · exact Row2.put1 (unhide HR)
    · have h1 : Only D w (w.setCell ⟨D, 1, none⟩ (.int .i64 ((i : Int) + 1))) := only_put1
      exact (unhide HS).under (Only.below (show Only D w _ from ⟨h1.os, h1.tape, h1.output, h1.size, h1.block⟩) hN) (Nat.le_refl _)
    · have h1 : Only D w (w.setCell ⟨D, 1, none⟩ (.int .i64 ((i : Int) + 1))) := only_put1
      exact ⟨h1.os, h1.tape, h1.output, h1.size, h1.block⟩
  · obtain rfl : i = cs.length := by omega
    have hlt' : (cs.length : Int) ≤ (cs.length : Int) := Int.le_refl _
    rw [List.drop_length]
    clear hc hb
    go_enter Tryz.func33, Tryz.ntmps33
    go_wp2_with fail
    go_quiet (fail)
    go_wp2
    go_ret
    exact ⟨rfl, ⟨hN, _, cs, cs.length, unhide HR, unhide HS, Nat.le_refl _, hl, by simp⟩, only_drewN (Only.refl _ _) _⟩
set_option maxHeartbeats 2000000 in
set_option maxRecDepth 100000 in
theorem l1open_any (v : Value) (cs : List Int) (w : World) (hv : SlAt mB 0 0 w.heap.size w v cs) (hcap : CapOk v) :
    Calls Tryz.prog 11 #[v] w fun e w' => e = .returned (.pointer (some ⟨w.heap.size, 0, none⟩)) ∧ CdAt w.heap.size w.heap.size w' (cs.take 600) ∧ w'.heap.size = w.heap.size + 1 ∧ Below w.heap.size w w' := by
  have HV := hide hv
  obtain ⟨a, c, rfl, -, -⟩ := hv
  have hcc := hcap.le
  have hcm := hcc.2
  unfold maxLen at hcm
  clear hcap
  obtain ⟨n, hn⟩ : ∃ n : Nat, n = min cs.length 600 := ⟨_, rfl⟩
  have ht := sl_to (j := n) (unhide HV) (by omega) hcc.1 hcc.2
  have e1 : cs.take n = cs.take 600 := by
    by_cases h : cs.length ≤ 600
    · rw [List.take_of_length_le (by omega), List.take_of_length_le h]
    · rw [show n = 600 by omega]
  have HT := hide ht.1
  have hR := Row2.new w 71 (.slice a n c) (.int .i64 ((0 : Nat) : Int))
  have hB := below1 w (.cells #[.slice a n c, .int .i64 ((0 : Nat) : Int)] 71)
  have HF : Hid (CdAt w.heap.size w.heap.size (w.alloc (.cells #[.slice a n c, .int .i64 ((0 : Nat) : Int)] 71)) (cs.take 600)) := ⟨Nat.le_refl _, _, cs.take n, 0, hR, (unhide HT).under hB (Nat.le_refl _), Nat.zero_le _, by rw [List.length_take]; omega, by rw [List.drop_zero, e1]⟩
  clear ht e1 hR
  by_cases h6 : 600 < cs.length
  · have h6' : (600 : Int) < (cs.length : Int) := by omega
    have hn6 : n = 600 := by omega
    clear hn
    subst hn6
    go_enter Tryz.func11, Tryz.ntmps11
    go_wp2
    go_ret
    exact ⟨rfl, unhide HF, sz_alloc _ _, hB⟩
  · have h6' : ¬ (600 : Int) < (cs.length : Int) := by omega
    have hn6 : n = cs.length := by omega
    clear hn
    subst hn6
    go_enter Tryz.func11, Tryz.ntmps11
    go_wp2
    go_ret
    exact ⟨rfl, unhide HF, sz_alloc _ _, hB⟩
def Cod (xs : List Int) : Prop := ∀ x ∈ xs, 0 ≤ x ∧ x ≤ 255
theorem Cod.tail {xs : List Int} (h : Cod xs) : Cod xs.tail := fun x hx => h x (List.mem_of_mem_tail hx)
theorem Cod.head {xs : List Int} (h : Cod xs) : 0 ≤ xs.headD 0 ∧ xs.headD 0 ≤ 255 := by
  cases xs with
  | nil => simp
  | cons x r => exact h x (List.mem_cons_self ..)
def oddB : List Int := [92, 46, 91, 93, 40, 41, 124, 42, 43, 63, 123, 125, 94, 36, 45, 10, 9, 13, 32, 126, 0, 127, 128, 255, 33]
theorem oddB_byte : ∀ k, k < 25 → 0 ≤ oddB.getD k 0 ∧ oddB.getD k 0 ≤ 255 := by decide
theorem oddB_eq (k : Nat) (h : k < 25) : wrap64 (((ByteArray.mk #[92, 46, 91, 93, 40, 41, 124, 42, 43, 63, 123, 125, 94, 36, 45, 10, 9, 13, 32, 126, 0, 127, 128, 255, 33])[k]'h).toNat : Int) = oddB.getD k 0 := by
  have e : (((ByteArray.mk #[92, 46, 91, 93, 40, 41, 124, 42, 43, 63, 123, 125, 94, 36, 45, 10, 9, 13, 32, 126, 0, 127, 128, 255, 33])[k]'h).toNat : Int) = oddB.getD k 0 := by
    have H : ∀ k : Fin 25, (((#[92, 46, 91, 93, 40, 41, 124, 42, 43, 63, 123, 125, 94, 36, 45, 10, 9, 13, 32, 126, 0, 127, 128, 255, 33] : Array UInt8)[k.1]'k.2).toNat : Int) = oddB.getD k.1 0 := by decide
    exact H ⟨k, h⟩
  have hb := oddB_byte k h
  rw [e]
  unfold wrap64; omega
def dB (y : Int) : Int := if y < 200 then 97 + y % 3 else if y < 215 then 48 + y % 3 else oddB.getD (y % 25).toNat 0
theorem dB_byte {y : Int} : 0 ≤ dB y ∧ dB y ≤ 255 := by
  unfold dB
  split
  · omega
  · split
    · omega
    · exact oddB_byte _ (by omega)
theorem l1drawByte_any (N D : Nat) (xs : List Int) (w : World) (h : CdAt N D w xs) (hx : Cod xs) :
    Calls Tryz.prog 40 #[.pointer (some ⟨D, 0, none⟩)] w fun e w' => e = .returned (.int .i64 (dB (xs.headD 0))) ∧ CdAt N D w' xs.tail ∧ Only D w w' := by
  have H := hide h
  have HX := hide hx
  have hh := hx.head
  obtain ⟨y, hy⟩ : ∃ y, xs.headD 0 = y := ⟨_, rfl⟩
  rw [hy] at hh ⊢
  have HY := hide hy
  clear hy hx h
  by_cases h1 : y < 200
  · rw [show dB y = 97 + y % 3 from if_pos h1]
    go_enter Tryz.func40, Tryz.ntmps40
    go_wp2_with fail
    refine (next_any N D xs w (unhide H) (unhide HX)).mono ?_
    rintro e w1 ⟨he, hc, ho⟩
    rw [unhide HY] at he
    subst he
    go_wp2
    go_ret
    exact ⟨rfl, hc, ho⟩
  · by_cases h2 : y < 215
    · rw [show dB y = 48 + y % 3 from (if_neg h1).trans (if_pos h2)]
      go_enter Tryz.func40, Tryz.ntmps40
      go_wp2_with fail
      refine (next_any N D xs w (unhide H) (unhide HX)).mono ?_
      rintro e w1 ⟨he, hc, ho⟩
      rw [unhide HY] at he
      subst he
      go_wp2
      go_ret
      exact ⟨rfl, hc, ho⟩
    · have hk : (y % 25).toNat < 25 := by omega
      rw [show dB y = oddB.getD (y % 25).toNat 0 from (if_neg h1).trans (if_neg h2)]
      go_enter Tryz.func40, Tryz.ntmps40
      go_wp2_with fail
      refine (next_any N D xs w (unhide H) (unhide HX)).mono ?_
      rintro e w1 ⟨he, hc, ho⟩
      rw [unhide HY] at he
      subst he
      go_wp2
      rw [oddB_eq _ hk]
      go_ret
      exact ⟨rfl, hc, ho⟩
end Go.Proofs.YtinhliecfjlocaaGreat
