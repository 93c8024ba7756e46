import Derived.Test.YtinhliecfjlocaaGreatPk1
import Derived.Deep.OwnRows
import Derived.Test.YtinhliecfjlocaaGreatC2
namespace Go.Proofs.YtinhliecfjlocaaGreat
open Go.RowKit
theorem ElAt.below {lo n m b o : Nat} {w w' : World} {x : El} (h : ElAt lo n w b o x) (hb : Below m w w') (hm : n ≤ m) (hbm : b < m) : ElAt lo n w' b o x := by
  obtain ⟨i1, i2, i3, v, c0, c1, c2, c3, hi⟩ := h
  refine ⟨i1, i2, i3, v, ?_, ?_, ?_, ?_, hi.same (Same.of_below hb hm)⟩ <;> rw [hb.cell (by exact hbm)] <;> assumption
theorem ElAt.put {lo n b o b' o' : Nat} {w : World} {x : El} {u : Value} (h : ElAt lo n w b o x) (hne : b' ≠ b ∨ o' < o ∨ o + 3 < o') (hlo : b' < lo) : ElAt lo n (w.setCell ⟨b', o', none⟩ u) b o x := by
  obtain ⟨i1, i2, i3, v, c0, c1, c2, c3, hi⟩ := h
  have key : ∀ q, q ≤ 3 → (w.setCell ⟨b', o', none⟩ u).cell? ⟨b, o + q, none⟩ = w.cell? ⟨b, o + q, none⟩ := by
    intro q hq
    apply World.cell?_setCell_other
    intro e
    simp only [Addr.mk.injEq] at e
    omega
  refine ⟨i1, i2, i3, v, ?_, ?_, ?_, ?_, hi.same ((Same.refl lo n w).setCell (Or.inl hlo) u)⟩
  · exact (key 0 (by omega)).trans c0
  · exact (key 1 (by omega)).trans c1
  · exact (key 2 (by omega)).trans c2
  · exact (key 3 (by omega)).trans c3
def wt (x : El) : Int := if x.kind = 0 ∨ x.kind = 1 then 1 else if x.kind = 2 ∨ x.kind = 3 then -1 else 0
def wsum : List El → Int
  | [] => 0
  | x :: r => wt x + wsum r
theorem wsum_append (a b : List El) : wsum (a ++ b) = wsum a + wsum b := by
  induction a with
  | nil => simp [wsum]
  | cons x r ih => simp [wsum, ih]; omega
theorem wt_le (x : El) : wt x ≤ 1 := by unfold wt; split <;> (try split) <;> omega
theorem wt_ge (x : El) : -1 ≤ wt x := by unfold wt; split <;> (try split) <;> omega
theorem wsum_bd (l : List El) : -(l.length : Int) ≤ wsum l ∧ wsum l ≤ l.length := by
  induction l with
  | nil => simp [wsum]
  | cons x r ih => have := wt_le x; have := wt_ge x; simp [wsum]; omega
theorem drop_getD {xs : List El} {k : Nat} (h : k < xs.length) : xs.drop k = xs[k]?.getD dE :: xs.drop (k + 1) := by
  rw [List.drop_eq_getElem_cons h]; simp [h]
theorem wsum_drop {xs : List El} {k : Nat} (h : k < xs.length) : wsum (xs.drop k) = wt (xs[k]?.getD dE) + wsum (xs.drop (k + 1)) := by
  rw [drop_getD h]; rfl
def Shape (xs : List El) : Prop := wsum xs = 1 ∧ ∀ k : Nat, 0 < k → k ≤ xs.length → wsum (xs.drop k) ≤ 0
set_option maxHeartbeats 1000000 in
theorem l1shape_any (v : Value) (xs : List El) (w : World) (hv : ElsAt 0 w.heap.size w v xs) (hlen : xs.length ≤ 1048576) :
    Calls Tryz.prog 71 #[v] w fun e w' => RetB e (Shape xs) ∧ w' = w := by
  obtain ⟨a, cap, rfl, hl, hc⟩ := hv
  go_enter Tryz.func71, Tryz.ntmps71
  go_wp2
  go_loop [3, 4] (fun n i => ∃ k : Nat, k ≤ xs.length ∧ i = .int .i64 ((k : Int) - 1) ∧ n = .int .i64 (1 - wsum (xs.drop k)) ∧ wsum (xs.drop k) ≤ 1 ∧ ∀ j : Nat, k < j → j ≤ xs.length → wsum (xs.drop j) ≤ 0) (fun _ i => (intOf i + 1).toNat)
  case atStart => exact ⟨xs.length, Nat.le_refl _, rfl, by simp [wsum], by simp [wsum], fun j h1 h2 => absurd h2 (by omega)⟩
  case round =>
    obtain ⟨k, hk, rfl, rfl, hle, hin⟩ := hrel
    have Hin := hide hin
    clear hin
    cases k with
    | zero =>
      go_wp2
      go_ret
      refine ⟨RetB.of ⟨fun h => ⟨?_, fun j h1 h2 => unhide Hin j h1 h2⟩, fun h => ?_⟩, rfl⟩
      · have := beq_iff_eq.1 h; omega
      · have := h.1; exact beq_iff_eq.2 (by omega)
    | succ k =>
      obtain ⟨b, off, rfl, -, hbn, hel⟩ := hc (by omega)
      obtain ⟨i1, i2, i3, v, c0, c1, c2, c3, hints⟩ := hel k (by omega)
      have hws := wsum_drop (xs := xs) (k := k) (by omega)
      have hbd := wsum_bd (xs.drop (k + 1))
      rw [List.length_drop] at hbd
      have hkk : (k : Int) < (xs.length : Int) := by omega
      generalize hS : wsum (xs.drop (k + 1)) = s at *
      generalize xs[k]?.getD dE = x at *
      have Hws := hide hws
      have HS := hide hS
      clear hws hS hints i2 i3 c1 c2 c3
      by_cases hs : 1 - s = 0
      · go_wp2
        go_ret
        exact ⟨RetB.no (fun hsh => by have := hsh.2 (k + 1) (by omega) hk; rw [unhide HS] at this; omega), rfl⟩
      · have hs0 : s ≤ 0 := by omega
        have hnext : Hid (∀ j : Nat, k < j → j ≤ xs.length → wsum (xs.drop j) ≤ 0) := by
          intro j h1 h2
          by_cases e : j = k + 1
          · subst e; rw [unhide HS]; exact hs0
          · exact unhide Hin j (by omega) h2
        have hwt : wt x = if x.kind = 0 ∨ x.kind = 1 then 1 else if x.kind = 2 ∨ x.kind = 3 then -1 else 0 := rfl
        generalize wt x = t at *
        generalize x.kind = q at *
        have Hwt := hide hwt
        clear hwt
        have hs' : (1 - s == 0) = false := by simp; omega
        by_cases q0 : q = 0
        · subst q0
          have ht : t = 1 := unhide Hwt
          go_wp2
          go_round
          case rel => exact ⟨k, by omega, by congr 1, by have := unhide Hws; congr 1; omega, by have := unhide Hws; omega, unhide hnext⟩
          case measure => simp [intOf]
        · by_cases q1 : q = 1
          · subst q1
            have ht : t = 1 := unhide Hwt
            go_wp2
            go_round
            case rel => exact ⟨k, by omega, by congr 1, by have := unhide Hws; congr 1; omega, by have := unhide Hws; omega, unhide hnext⟩
            case measure => simp [intOf]
          · by_cases q2 : q = 2
            · subst q2
              have ht : t = -1 := unhide Hwt
              go_wp2
              go_round
              case rel => exact ⟨k, by omega, by congr 1, by have := unhide Hws; congr 1; omega, by have := unhide Hws; omega, unhide hnext⟩
              case measure => simp [intOf]
            · by_cases q3 : q = 3
              · subst q3
                have ht : t = -1 := unhide Hwt
                go_wp2
                go_round
                case rel => exact ⟨k, by omega, by congr 1, by have := unhide Hws; congr 1; omega, by have := unhide Hws; omega, unhide hnext⟩
                case measure => simp [intOf]
              · have ht : t = 0 := by rw [unhide Hwt, if_neg (by omega), if_neg (by omega)]
                have b0 : (q == 0) = false := by simp [q0]
                have b1 : (q == 1) = false := by simp [q1]
                have b2 : (q == 2) = false := by simp [q2]
                have b3 : (q == 3) = false := by simp [q3]
                go_wp2
                go_round
                case rel => exact ⟨k, by omega, by congr 1, by have := unhide Hws; congr 1; omega, by have := unhide Hws; omega, unhide hnext⟩
                case measure => simp [intOf]
def cap (n : Int) : Int := if 500 < n then 501 else n
def repSize (c mn mx : Int) : Int := if mx = -1 then (if mn < 1 then 1 else mn) * c + 1 else if mx = 0 then c else mn * c + (mx - mn) * (c + 1)
theorem cap_bd {n : Int} (h : 0 ≤ n) : 0 ≤ cap n ∧ cap n ≤ 501 := by unfold cap; split <;> omega
def szPush (st : List Int) (x : El) : List Int :=
  if x.kind = 0 ∨ x.kind = 1 then 1 :: st else
  match st with
  | [] => []
  | [o] => if x.kind = 4 then [cap (repSize o x.mn x.mx)] else [o]
  | r :: l :: b => if x.kind = 4 then cap (repSize r x.mn x.mx) :: l :: b else cap (l + r) :: b
def szRun (st : List Int) : List El → List Int
  | [] => st
  | x :: r => szRun (szPush st x) r
theorem szRun_append (st : List Int) (a b : List El) : szRun st (a ++ b) = szRun (szRun st a) b := by
  induction a generalizing st with
  | nil => rfl
  | cons x r ih => simp [szRun, ih]
structure SegM (seg : List El) (c : Int) : Prop where
  ne : 0 < seg.length
  ws : wsum seg = 1
  tl : ∀ k : Nat, 0 < k → k ≤ seg.length → wsum (seg.drop k) ≤ 0
  run : ∀ st, szRun st seg = c :: st
  bd : 0 ≤ c ∧ c ≤ 501
theorem SegM.leaf {x : El} (h : x.kind = 0 ∨ x.kind = 1) : SegM [x] 1 := by
  have hw : wt x = 1 := by unfold wt; rw [if_pos h]
  refine ⟨by simp, by simp [wsum, hw], fun k h0 h1 => ?_, fun st => ?_, by omega⟩
  · simp only [List.length_singleton] at h1
    obtain rfl : k = 1 := by omega
    simp [wsum]
  · simp only [szRun, szPush]; rw [if_pos h]
theorem SegM.bin {a b : List El} {ca cb : Int} {x : El} (ha : SegM a ca) (hb : SegM b cb) (h : x.kind = 2 ∨ x.kind = 3) : SegM (a ++ b ++ [x]) (cap (ca + cb)) := by
  have hx : wt x = -1 := by unfold wt; rw [if_neg (by omega), if_pos h]
  refine ⟨by simp; omega, by simp [wsum_append, ha.ws, hb.ws, wsum, hx], fun k h0 h1 => ?_, fun st => ?_, cap_bd (by have := ha.bd; have := hb.bd; omega)⟩
  · simp only [List.length_append, List.length_singleton] at h1
    rw [List.append_assoc, List.drop_append, wsum_append]
    by_cases hk : k ≤ a.length
    · have e : k - a.length = 0 := by omega
      have := ha.tl k h0 hk
      rw [e, List.drop_zero, wsum_append, hb.ws]
      simp [wsum, hx]; omega
    · rw [List.drop_eq_nil_of_le (by omega), List.drop_append, wsum_append]
      by_cases hk2 : k - a.length ≤ b.length
      · have e : k - a.length - b.length = 0 := by omega
        have := hb.tl (k - a.length) (by omega) hk2
        rw [e, List.drop_zero]
        simp [wsum, hx]; omega
      · rw [List.drop_eq_nil_of_le (show b.length ≤ k - a.length by omega), List.drop_eq_nil_of_le (by simp; omega)]
        simp [wsum]
  · rw [szRun_append, szRun_append, ha.run, hb.run]
    simp only [szRun, szPush]
    rw [if_neg (by omega), if_neg (by omega)]
theorem SegM.rep {a : List El} {ca : Int} {x : El} (ha : SegM a ca) (h : x.kind = 4) (o2 : 0 ≤ x.mn) (o4 : x.mx = -1 ∨ (x.mn ≤ x.mx ∧ x.mx ≤ 250)) : SegM (a ++ [x]) (cap (repSize ca x.mn x.mx)) := by
  have hx : wt x = 0 := by unfold wt; rw [if_neg (by omega), if_neg (by omega)]
  have hc := ha.bd
  refine ⟨by simp, by simp [wsum_append, ha.ws, wsum, hx], fun k h0 h1 => ?_, fun st => ?_, cap_bd ?_⟩
  · simp only [List.length_append, List.length_singleton] at h1
    rw [List.drop_append, wsum_append]
    by_cases hk : k ≤ a.length
    · have e : k - a.length = 0 := by omega
      have := ha.tl k h0 hk
      rw [e, List.drop_zero]
      simp [wsum, hx]; omega
    · rw [List.drop_eq_nil_of_le (by omega), List.drop_eq_nil_of_le (by simp; omega)]
      simp [wsum]
  · rw [szRun_append, ha.run]
    cases st with
    | nil => simp only [szRun, szPush]; rw [if_neg (by omega), if_pos h]
    | cons q st => simp only [szRun, szPush]; rw [if_neg (by omega), if_pos h]
  · unfold repSize
    split
    · have : 0 ≤ (if x.mn < 1 then 1 else x.mn) * ca := Int.mul_nonneg (by split <;> omega) hc.1
      omega
    · split
      · exact hc.1
      · have h1 : 0 ≤ x.mn * ca := Int.mul_nonneg o2 hc.1
        have h2 : 0 ≤ (x.mx - x.mn) * (ca + 1) := Int.mul_nonneg (by omega) (by omega)
        omega
def PushR (st : List (List El × Int)) (x : El) (st' : List (List El × Int)) : Prop :=
  ((x.kind = 0 ∨ x.kind = 1) ∧ st' = st ++ [([x], 1)]) ∨
  ((x.kind = 2 ∨ x.kind = 3) ∧ ∃ b l r, st = b ++ [l, r] ∧ st' = b ++ [(l.1 ++ r.1 ++ [x], cap (l.2 + r.2))]) ∨
  (x.kind = 4 ∧ ∃ b o, st = b ++ [o] ∧ st' = b ++ [(o.1 ++ [x], cap (repSize o.2 x.mn x.mx))])
def flats (st : List (List El × Int)) : List El := (st.map (fun s => s.1)).flatten
theorem flats_one (t : List El × Int) : flats [t] = t.1 := by simp [flats]
theorem wsum_flats {st : List (List El × Int)} (h : ∀ s ∈ st, wsum s.1 = 1) : wsum (flats st) = st.length := by
  induction st with
  | nil => rfl
  | cons t r ih =>
    have e : flats (t :: r) = t.1 ++ flats r := rfl
    rw [e, wsum_append, h t (by simp), ih (fun s hs => h s (by simp [hs]))]; simp; omega
theorem PushR.flats {st st' : List (List El × Int)} {x : El} (h : PushR st x st') : flats st' = flats st ++ [x] := by
  rcases h with ⟨-, rfl⟩ | ⟨-, b, l, r, rfl, rfl⟩ | ⟨-, b, o, rfl, rfl⟩ <;> simp [YtinhliecfjlocaaGreat.flats]
theorem snoc1 {st : List (List El × Int)} (h : 1 ≤ st.length) : ∃ b o, st = b ++ [o] := by
  rcases List.eq_nil_or_concat st with rfl | ⟨b, o, rfl⟩
  · simp at h
  · exact ⟨b, o, by simp⟩
theorem snoc2 {st : List (List El × Int)} (h : 2 ≤ st.length) : ∃ b l r, st = b ++ [l, r] := by
  obtain ⟨b, r, rfl⟩ := snoc1 (st := st) (by omega)
  obtain ⟨b', l, rfl⟩ := snoc1 (st := b) (by simp at h; omega)
  exact ⟨b', l, r, by simp⟩
theorem PushR.ex {st : List (List El × Int)} {x : El} (ok : ElOk x) (h : 1 ≤ (st.length : Int) + wt x) : ∃ st', PushR st x st' := by
  rcases ok with ⟨q1, q2, q3, q4⟩ | ⟨q1 | q1, q2, q3, q4⟩ | ⟨q1, q2, q3, q4, q5⟩
  · exact ⟨_, Or.inl ⟨Or.inr q1, rfl⟩⟩
  · exact ⟨_, Or.inl ⟨Or.inl q1, rfl⟩⟩
  · obtain ⟨b, l, r, rfl⟩ := snoc2 (st := st) (by have e : wt x = -1 := by unfold wt; rw [if_neg (by omega), if_pos q1]
                                                  omega)
    exact ⟨_, Or.inr (Or.inl ⟨q1, b, l, r, rfl, rfl⟩)⟩
  · obtain ⟨b, o, rfl⟩ := snoc1 (st := st) (by have e : wt x = 0 := by unfold wt; rw [if_neg (by omega), if_neg (by omega)]
                                               omega)
    exact ⟨_, Or.inr (Or.inr ⟨q1, b, o, rfl, rfl⟩)⟩
theorem PushR.seg {st st' : List (List El × Int)} {x : El} (h : PushR st x st') (ok : ElOk x) (hs : ∀ s ∈ st, SegM s.1 s.2) : ∀ s ∈ st', SegM s.1 s.2 := by
  rcases h with ⟨hk, rfl⟩ | ⟨hk, b, l, r, rfl, rfl⟩ | ⟨hk, b, o, rfl, rfl⟩
  · intro s hm; simp only [List.mem_append, List.mem_singleton] at hm; rcases hm with hm | rfl
    · exact hs s hm
    · exact SegM.leaf hk
  · intro s hm; simp only [List.mem_append, List.mem_singleton] at hm; rcases hm with hm | rfl
    · exact hs s (by simp [hm])
    · exact SegM.bin (hs l (by simp)) (hs r (by simp)) hk
  · intro s hm; simp only [List.mem_append, List.mem_singleton] at hm; rcases hm with hm | rfl
    · exact hs s (by simp [hm])
    · rcases ok with ⟨q1, q2, q3, q4⟩ | ⟨q1, q2, q3, q4⟩ | ⟨q1, q2, q3, q4, q5⟩
      · omega
      · omega
      · exact SegM.rep (hs o (by simp)) hk q3 q5
theorem take_next {xs : List El} {k : Nat} (hk : k < xs.length) : xs.take (k + 1) = xs.take k ++ [xs[k]?.getD dE] := by
  rw [List.take_add_one, List.getElem?_eq_getElem hk]; rfl
def ValidT (xs : List El) : Prop :=
  (1 ≤ xs.length ∧ xs.length ≤ 3000) ∧ (∀ i : Nat, i < xs.length → ElOk (xs[i]?.getD dE)) ∧ Shape xs ∧ ∃ c, szRun [] xs = [c] ∧ c ≤ 500
set_option maxHeartbeats 1000000 in
theorem l1start_any (v : Value) (xs : List El) (lo en : Nat) (w : World) (hv : ElsAt 0 w.heap.size w v xs) (hlen : xs.length ≤ 1048576) (hle : lo < en) (hen : en ≤ xs.length)
    (h1 : wsum ((xs.take en).drop lo) = 1) (h2 : ∀ k : Nat, lo < k → k ≤ en → wsum ((xs.take en).drop k) ≤ 0) :
    Calls Tryz.prog 72 #[v, .int .i64 (en : Int)] w fun e w' => e = .returned (.int .i64 (lo : Int)) ∧ w' = w := by
  obtain ⟨a, cap, rfl, hl, hc⟩ := hv
  have H2 := hide h2
  have H1 := hide h1
  clear h1 h2
  have hE : (xs.take en).length = en := by rw [List.length_take]; omega
  go_enter Tryz.func72, Tryz.ntmps72
  go_wp2
  go_loop [5, 6] (fun n i => ∃ k : Nat, lo ≤ k ∧ k ≤ en ∧ i = .int .i64 (k : Int) ∧ n = .int .i64 (1 - wsum ((xs.take en).drop k))) (fun _ i => (intOf i).toNat)
  case atStart => exact ⟨en, by omega, Nat.le_refl _, rfl, by rw [List.drop_eq_nil_of_le (by omega)]; rfl⟩
  case round =>
    obtain ⟨k, hk, hk2, rfl, rfl⟩ := hrel
    by_cases hgt : lo < k
    · cases k with
      | zero => omega
      | succ k =>
        obtain ⟨b, off, rfl, -, hbn, hel⟩ := hc (by omega)
        obtain ⟨i1, i2, i3, v, c0, c1, c2, c3, hints⟩ := hel k (by omega)
        have hws := wsum_drop (xs := xs.take en) (k := k) (by omega)
        have hbd := wsum_bd ((xs.take en).drop (k + 1))
        rw [List.length_drop, hE] at hbd
        rw [List.getElem?_take_of_lt (by omega)] at hws
        have hs0 := unhide H2 (k + 1) hgt hk2
        have hkk : (k : Int) < (xs.length : Int) := by omega
        clear hE
        generalize hS : wsum ((xs.take en).drop (k + 1)) = s at *
        generalize xs[k]?.getD dE = x at *
        have Hws := hide hws
        have HS := hide hS
        clear hws hS hints i2 i3 c1 c2 c3
        have hwt : wt x = if x.kind = 0 ∨ x.kind = 1 then 1 else if x.kind = 2 ∨ x.kind = 3 then -1 else 0 := rfl
        generalize wt x = t at *
        generalize x.kind = q at *
        have Hwt := hide hwt
        clear hwt
        by_cases q0 : q = 0
        · subst q0
          have ht : t = 1 := unhide Hwt
          go_wp2
          go_round
          case rel => exact ⟨k, by omega, by omega, by congr 1, by have := unhide Hws; congr 1; omega⟩
          case measure => simp [intOf]
        · by_cases q1 : q = 1
          · subst q1
            have ht : t = 1 := unhide Hwt
            go_wp2
            go_round
            case rel => exact ⟨k, by omega, by omega, by congr 1, by have := unhide Hws; congr 1; omega⟩
            case measure => simp [intOf]
          · by_cases q2 : q = 2
            · subst q2
              have ht : t = -1 := unhide Hwt
              go_wp2
              go_round
              case rel => exact ⟨k, by omega, by omega, by congr 1, by have := unhide Hws; congr 1; omega⟩
              case measure => simp [intOf]
            · by_cases q3 : q = 3
              · subst q3
                have ht : t = -1 := unhide Hwt
                go_wp2
                go_round
                case rel => exact ⟨k, by omega, by omega, by congr 1, by have := unhide Hws; congr 1; omega⟩
                case measure => simp [intOf]
              · have ht : t = 0 := by rw [unhide Hwt, if_neg (by omega), if_neg (by omega)]
                have b0 : (q == 0) = false := by simp [q0]
                have b1 : (q == 1) = false := by simp [q1]
                have b2 : (q == 2) = false := by simp [q2]
                have b3 : (q == 3) = false := by simp [q3]
                go_wp2
                go_round
                case rel => exact ⟨k, by omega, by omega, by congr 1, by have := unhide Hws; congr 1; omega⟩
                case measure => simp [intOf]
    · obtain rfl : k = lo := by omega
      rw [unhide H1]
      by_cases hk0 : 0 < k
      · have hk0' : 0 < (k : Int) := by omega
        go_wp2
        go_ret
        exact ⟨rfl, rfl⟩
      · have hk0' : ¬ 0 < (k : Int) := by omega
        go_wp2
        go_ret
        exact ⟨rfl, rfl⟩
end Go.Proofs.YtinhliecfjlocaaGreat
