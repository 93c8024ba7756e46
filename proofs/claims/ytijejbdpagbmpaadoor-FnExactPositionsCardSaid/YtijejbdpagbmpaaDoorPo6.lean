import Derived.Test.YtijejbdpagbmpaaDoorPo5
import Derived.Test.YtijejbdpagbmpaaDoorP3
namespace Go.Proofs.YtijejbdpagbmpaaDoor
open Go.RowKit

/-- A square of marks: a row of rows. -/
structure Mx (w : World) (G n : Nat) (f : Nat → Nat → Bool) : Prop where
  top : w.rowIs G 49 n (fun i => .slice (some ⟨G + 1 + i, 0, none⟩) n n)
  row : ∀ i, i < n → w.rowIs (G + 1 + i) 4 n (fun j => .bool (f i j))
theorem Mx.keep {w w' : World} {G n m : Nat} {f : Nat → Nat → Bool} (h : Mx w G n f) (hb : Below m w w') (hm : G + 1 + n ≤ m) : Mx w' G n f :=
  ⟨h.top.of_block (hb.block G (by omega)), fun i hi => (h.row i hi).of_block (hb.block _ (by omega))⟩
theorem Mx.put {w : World} {G n i j : Nat} {f : Nat → Nat → Bool} (h : Mx w G n f) (hi : i < n) : Mx (w.setCell ⟨G + 1 + i, j, none⟩ (.bool true)) G n (fun a b => f a b || (decide (a = i) && decide (b = j))) := by
  refine ⟨h.top.setOther (by show G ≠ G + 1 + i; omega) _, fun a ha => ?_⟩
  by_cases e : a = i
  · subst e
    refine ((h.row a ha).set j _).congr (fun b hb => ?_)
    by_cases e2 : b = j
    · simp [e2]
    · simp [e2]
  · exact ((h.row a ha).setOther (by show G + 1 + a ≠ G + 1 + i; omega) _).congr (fun b hb => by simp [e])
theorem Mx.same {w : World} {G n : Nat} {f g : Nat → Nat → Bool} (h : Mx w G n f) (e : ∀ i j, i < n → j < n → f i j = g i j) : Mx w G n g :=
  ⟨h.top, fun i hi => (h.row i hi).congr (fun j hj => by rw [e i j hi hj])⟩

/-- The start of a segment that ends anywhere. -/
theorem l1start_seg (v : Value) (P seg R : List El) (c z : Int) (w : World) (sm : SegM seg c) (hv : ElsAt 0 w.heap.size w v (P ++ seg ++ R)) (hlen : (P ++ seg ++ R).length ≤ 1048576) (hz : z = P.length + seg.length) :
    Calls Tryd.prog 39 #[v, .int .i64 z] w fun e w' => e = .returned (.int .i64 (P.length : Int)) ∧ w' = w := by
  subst hz
  have pr := sm.ne
  have h := l1start_any v (P ++ seg ++ R) P.length (P.length + seg.length) w hv hlen (by omega) (by simp only [List.length_append]; omega) ?_ ?_
  · rwa [Int.natCast_add] at h
  · rw [show P.length + seg.length = (P ++ seg).length by simp, List.take_left' rfl, List.drop_left' rfl]
    exact sm.ws
  · intro k h1 h2
    rw [show P.length + seg.length = (P ++ seg).length by simp, List.take_left' rfl, List.drop_append, List.drop_eq_nil_of_le (by omega), List.nil_append]
    exact sm.tl _ (by omega) (by omega)

/-- The positions that are shown lie below n. -/
def Bdd (a : It) (n : Nat) : Prop := (∀ i ∈ a.fi, i < n) ∧ ∀ i ∈ a.la, i < n
theorem Bdd.sh {a : It} {n : Nat} (h : Bdd a n) (c : Nat) : Bdd (a.sh c) (c + n) := by
  refine ⟨fun i hi => ?_, fun i hi => ?_⟩
  · obtain ⟨j, hj, rfl⟩ := List.mem_map.1 hi; have := h.1 j hj; omega
  · obtain ⟨j, hj, rfl⟩ := List.mem_map.1 hi; have := h.2 j hj; omega
theorem Bdd.mono {a : It} {n m : Nat} (h : Bdd a n) (hm : n ≤ m) : Bdd a m := ⟨fun i hi => Nat.lt_of_lt_of_le (h.1 i hi) hm, fun i hi => Nat.lt_of_lt_of_le (h.2 i hi) hm⟩
theorem Bdd.cat {a b : It} {n : Nat} (h : Bdd a n) (k : Bdd b n) : Bdd (itCat a b) n := by
  refine ⟨fun i hi => ?_, fun i hi => ?_⟩
  · rcases List.mem_append.1 hi with hi | hi
    · exact h.1 i hi
    · split at hi
      · exact k.1 i hi
      · cases hi
  · rcases List.mem_append.1 hi with hi | hi
    · split at hi
      · exact h.2 i hi
      · cases hi
    · exact k.2 i hi
theorem Bdd.alt {a b : It} {n : Nat} (h : Bdd a n) (k : Bdd b n) : Bdd (itAlt a b) n := ⟨fun i hi => (List.mem_append.1 hi).elim (h.1 i) (k.1 i), fun i hi => (List.mem_append.1 hi).elim (h.2 i) (k.2 i)⟩
/-- What the model knows of a tree's list. -/
def GM (t : List El × Int) : Prop := SegM t.1 t.2 ∧ ∃ a ln ss, NuS t.1 a.nl ∧ EdS t.1 a ∧ SegO t.1 (lvs t.1) a ln ss ∧ Bdd a (lvs t.1)
theorem lvs_snoc (a b : List El) (x : El) (h : x.kind ≠ 1) : lvs (a ++ b ++ [x]) = lvs a + lvs b := by rw [lvs_app, lvs_app]; simp [lvs, h]
theorem GM.bin {l r : List El × Int} {k : Int} (hk : k = 2 ∨ k = 3) (hl : GM l) (hr : GM r) : GM (l.1 ++ r.1 ++ [⟨k, [], 0, 0⟩], cap (l.2 + r.2)) := by
  obtain ⟨l1, a, la, sa, l2, l3, l4, l5⟩ := hl
  obtain ⟨r1, b, lb, sb, r2, r3, r4, r5⟩ := hr
  have e : lvs (l.1 ++ r.1 ++ [⟨k, [], 0, 0⟩]) = lvs l.1 + lvs r.1 := lvs_snoc _ _ _ (by simp only; omega)
  rcases hk with rfl | rfl
  · exact ⟨SegM.bin l1 r1 (Or.inl rfl), itCat a (b.sh (lvs l.1)), _, _, nu_cat _ _ _ _ _ r1 l2 r2, ed_cat _ _ _ _ _ r1 l3 r3 l2 r2, e ▸ l4.cat r4, by rw [show lvs (l.1 ++ r.1 ++ [⟨2, [], 0, 0⟩], cap (l.2 + r.2)).1 = lvs l.1 + lvs r.1 from e]; exact (l5.mono (by omega)).cat (r5.sh _)⟩
  · exact ⟨SegM.bin l1 r1 (Or.inr rfl), itAlt a (b.sh (lvs l.1)), _, _, nu_alt _ _ _ _ _ r1 l2 r2, ed_alt _ _ _ _ _ r1 l3 r3, e ▸ l4.alt r4, by rw [show lvs (l.1 ++ r.1 ++ [⟨3, [], 0, 0⟩], cap (l.2 + r.2)).1 = lvs l.1 + lvs r.1 from e]; exact (l5.mono (by omega)).alt (r5.sh _)⟩
theorem GM.rep {o : List El × Int} {mn mx : Int} (h : GM o) (o2 : 0 ≤ mn) (o4 : mx = -1 ∨ (mn ≤ mx ∧ mx ≤ 250)) : GM (o.1 ++ [⟨4, [], mn, mx⟩], cap (repSize o.2 mn mx)) := by
  obtain ⟨l1, a, la, sa, l2, l3, l4, l5⟩ := h
  have hne := l1.ne
  have e : lvs (o.1 ++ [⟨4, [], mn, mx⟩]) = lvs o.1 := by rw [lvs_app]; simp [lvs]
  exact ⟨SegM.rep l1 rfl o2 (o4.imp id (fun q => q)), itRep a mn, _, _, nu_rep _ _ mn mx l2 (by omega), ed_rep _ _ mn mx l3, e ▸ l4.rep mn mx, by rw [show lvs (o.1 ++ [⟨4, [], mn, mx⟩], cap (repSize o.2 mn mx)).1 = lvs o.1 from e]; exact l5⟩
theorem GM.e : GM ([⟨0, [], 0, 0⟩], 1) := ⟨SegM.leaf (Or.inl rfl), ⟨true, [], []⟩, _, _, nu_e, ed_e, SegO.e, by constructor <;> simp⟩
theorem GM.s (xs : List Int) : GM ([⟨1, xs, 0, 0⟩], 1) := ⟨SegM.leaf (Or.inr rfl), ⟨false, [0], [0]⟩, _, _, nu_s xs, ed_s xs, SegO.s xs, by constructor <;> simp [lvs]⟩
theorem PushR.gm {st st' : List (List El × Int)} {x : El} (h : PushR st x st') (ok : ElOk x) (hs : ∀ s ∈ st, GM s) : ∀ s ∈ st', GM s := by
  intro s hm
  obtain ⟨k, xs, mn, mx⟩ := x
  rcases h with ⟨hk, rfl⟩ | ⟨hk, b, l, r, rfl, rfl⟩ | ⟨hk, b, o, rfl, rfl⟩
  · simp only [List.mem_append, List.mem_singleton] at hm; rcases hm with hm | rfl
    · exact hs s hm
    · rcases ok with ⟨q1, q2, q3, q4⟩ | ⟨q1, q2, q3, q4⟩ | ⟨q1, q2, q3, q4, q5⟩ <;> simp only at hk q1 q2 q3 q4
      · subst q1 q3 q4
        exact GM.s xs
      · subst q3 q4
        obtain rfl := List.eq_nil_of_length_eq_zero q2
        obtain rfl : k = 0 := by omega
        exact GM.e
      · omega
  · simp only [List.mem_append, List.mem_singleton] at hm; rcases hm with hm | rfl
    · exact hs s (by simp [hm])
    · have hu := hs l (by simp)
      have hv := hs r (by simp)
      rcases ok with ⟨q1, q2, q3, q4⟩ | ⟨q1, q2, q3, q4⟩ | ⟨q1, q2, q3, q4, q5⟩ <;> simp only at hk q1 q2 q3 q4
      · omega
      · subst q3 q4
        obtain rfl := List.eq_nil_of_length_eq_zero q2
        exact GM.bin hk hu hv
      · omega
  · simp only [List.mem_append, List.mem_singleton] at hm; rcases hm with hm | rfl
    · exact hs s (by simp [hm])
    · have hu := hs o (by simp)
      rcases ok with ⟨q1, q2, q3, q4⟩ | ⟨q1, q2, q3, q4⟩ | ⟨q1, q2, q3, q4, q5⟩ <;> simp only at hk q1 q2 q3 q4
      · omega
      · omega
      · subst hk
        obtain rfl := List.eq_nil_of_length_eq_zero q2
        exact GM.rep hu q3 q5
/-- At each place of a list that is one tree, what stands before it is a row of trees. -/
theorem forest {xs : List El} (ok : ∀ k : Nat, k < xs.length → ElOk (xs[k]?.getD dE)) (h1 : wsum xs = 1) (h2 : ∀ k : Nat, 1 ≤ k → k ≤ xs.length → wsum (xs.drop k) ≤ 0) :
    ∀ k : Nat, k ≤ xs.length → ∃ st, flats st = xs.take k ∧ (∀ s ∈ st, GM s) ∧ (k < xs.length → ∃ st', PushR st (xs[k]?.getD dE) st') := by
  have step : ∀ k : Nat, ∀ st, k < xs.length → flats st = xs.take k → (∀ s ∈ st, GM s) → ∃ st', PushR st (xs[k]?.getD dE) st' := by
    intro k st hk hst hg
    have e1 : wsum (xs.take (k + 1)) + wsum (xs.drop (k + 1)) = 1 := by rw [← wsum_append, List.take_append_drop]; exact h1
    have e2 := h2 (k + 1) (by omega) (by omega)
    have e3 := wsum_flats (fun s hs => (hg s hs).1.ws)
    rw [hst] at e3
    rw [take_next hk, wsum_append, e3] at e1
    simp only [wsum] at e1
    exact PushR.ex (st := st) (ok k hk) (by omega)
  intro k
  induction k with
  | zero => intro _; exact ⟨[], by simp [flats], by simp, fun h => step 0 [] h (by simp [flats]) (by simp)⟩
  | succ k ih =>
    intro hk
    obtain ⟨st, hst, hg, hp⟩ := ih (by omega)
    obtain ⟨st', hp⟩ := hp (by omega)
    have hst' : flats st' = xs.take (k + 1) := by rw [hp.flats, hst, take_next (by omega)]
    have hg' := hp.gm (ok k (by omega)) hg
    exact ⟨st', hst', hg', fun h => step (k + 1) st' h hst' hg'⟩

end Go.Proofs.YtijejbdpagbmpaaDoor
