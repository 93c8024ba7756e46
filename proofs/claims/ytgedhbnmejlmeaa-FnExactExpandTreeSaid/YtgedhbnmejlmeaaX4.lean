import Derived.Test.YtgedhbnmejlmeaaX3
namespace Go.Proofs.Ytgedhbnmejlmeaa
open Go.RowKit

/-- Lists of elements whose numbers lie within 64 bits, with sets of a bounded length. -/
structure Nice (xs : List El) : Prop where
  num : Num xs
  len : ∀ i : Nat, (xs[i]?.getD dE).set.length ≤ 1048576
theorem Nice.nil : Nice [] := ⟨fun i => by simp [dE, In64], fun i => by simp [dE]⟩
theorem Nice.app {a b : List El} (ha : Nice a) (hb : Nice b) : Nice (a ++ b) := by
  refine ⟨fun i => ?_, fun i => ?_⟩
  · by_cases h : i < a.length
    · rw [List.getElem?_append_left h]; exact ha.num i
    · rw [List.getElem?_append_right (by omega)]; exact hb.num _
  · by_cases h : i < a.length
    · rw [List.getElem?_append_left h]; exact ha.len i
    · rw [List.getElem?_append_right (by omega)]; exact hb.len _
theorem Nice.op (k mn mx : Int) (h1 : In64 k) (h2 : In64 mn) (h3 : In64 mx) : Nice [⟨k, [], mn, mx⟩] := by
  refine ⟨fun i => ?_, fun i => ?_⟩
  · cases i with
    | zero => exact ⟨h1, h2, h3, fun j => by simp [In64]⟩
    | succ i => simp [dE, In64]
  · cases i with
    | zero => simp
    | succ i => simp [dE]
theorem GrowE.els {base : Nat} {w : World} {v : Value} {xs : List El} (h : GrowE base w v xs) (hn : Nice xs) : ElsAt 0 w.heap.size w v xs := h.foot.at (fun _ hk => hk.2) hn.num

/-- The model expands this list to that. -/
def XpS (l L : List El) : Prop := ∀ (v : Value) (w : World), ElsAt 0 w.heap.size w v l → l.length ≤ 3000 → Calls Try.prog 33 #[v] w fun e w' => ∃ v', e = .returned v' ∧ GrowE w.heap.size w' v' L ∧ Below w.heap.size w w'

set_option maxHeartbeats 2000000 in
theorem xpS_leaf (x : El) (hk : x.kind = 0 ∨ x.kind = 1) (hs : x.set.length ≤ 1048576) : XpS [x] [x] := by
  intro v w hv hlen
  have hv0 := hv
  obtain ⟨a, cp, rfl, -, -⟩ := id hv
  obtain ⟨hlen2, hcap, b, off, rfl, hbn, hel⟩ := ElsAt.last (p := []) hv
  simp only [List.length_singleton, List.length_nil, Nat.zero_mul, Nat.add_zero] at hel hv hv0 ⊢
  obtain ⟨i1, i2, i3, sv, c0, c1, c2, c3, hints⟩ := hel
  obtain ⟨sa, sc, rfl, -, -, -⟩ := id hints
  have Hv := hide (hv.below (below1 w (.cells #[.int .i64 x.kind, .slice sa x.set.length sc, .int .i64 x.mn, .int .i64 x.mx] 65)) (Nat.le_refl _))
  have Hs : Hid (∀ i : Nat, (([x] : List El)[i]?.getD dE).set.length ≤ 1048576) := fun i => by
    cases i with
    | zero => exact hs
    | succ i => simp [dE]
  clear hv hv0 hints i1 i2 i3
  rcases hk with hk | hk
  · rw [hk] at c0
    have Hk := hide hk
    rw [hk] at Hv
    clear hk
    go_enter Try.func33, Try.ntmps33
    go_wp2_with fail
    refine (l1copy_w _ [x] _ (unhide Hv) (by simp) (unhide Hs)).mono ?_
    rintro e w1 ⟨v1, rfl, hg1, hb1⟩
    have hB : Below w.heap.size w w1 := (below1 w _).trans (hb1.mono (by rw [sz_alloc]; omega))
    have Hg1 : Hid (GrowE w.heap.size w1 v1 [x]) := hg1.base (by rw [sz_alloc]; omega)
    clear hg1
    go_wp2
    go_ret
    exact ⟨_, rfl, unhide Hg1, hB⟩
  · rw [hk] at c0
    have Hk := hide hk
    rw [hk] at Hv
    clear hk
    go_enter Try.func33, Try.ntmps33
    go_wp2_with fail
    refine (l1copy_w _ [x] _ (unhide Hv) (by simp) (unhide Hs)).mono ?_
    rintro e w1 ⟨v1, rfl, hg1, hb1⟩
    have hB : Below w.heap.size w w1 := (below1 w _).trans (hb1.mono (by rw [sz_alloc]; omega))
    have Hg1 : Hid (GrowE w.heap.size w1 v1 [x]) := hg1.base (by rw [sz_alloc]; omega)
    clear hg1
    go_wp2
    go_ret
    exact ⟨_, rfl, unhide Hg1, hB⟩

set_option maxHeartbeats 2000000 in
theorem xpS_bin (k : Int) (hk : k = 2 ∨ k = 3) (l r L R : List El) (cl cr : Int) (sl : SegM l cl) (sr : SegM r cr) (Hl : XpS l L) (Hr : XpS r R) (nl : Nice L) (nr : Nice R) (ll : L.length ≤ 3000) (lr : R.length ≤ 3000) : XpS (l ++ r ++ [⟨k, [], 0, 0⟩]) (L ++ R ++ [⟨k, [], 0, 0⟩]) := by
  intro v w hv hlen
  have hv0 := hv
  obtain ⟨a, cp, rfl, -, -⟩ := id hv
  obtain ⟨hlen2, hcap, b, off, rfl, hbn, hel⟩ := hv.last
  rw [hlen2] at hv hv0 hcap ⊢
  simp only [List.length_append, List.length_singleton] at hv hv0 hlen hlen2 hel hcap ⊢
  unfold maxLen at hcap
  obtain ⟨i1, i2, i3, sv, c0, c1, c2, c3, hints⟩ := hel
  obtain ⟨sa, sc, rfl, -, -, -⟩ := id hints
  simp only at c0 c2 c3
  clear hlen2 i1 i2 i3 hints
  have e1 : (((l.length + r.length + 1 : Nat) : Int) - 1) = ((l.length + r.length : Nat) : Int) := by omega
  have pl := sl.ne
  have pr := sr.ne
  have hvL : ElsAt 0 w.heap.size w (.slice (some ⟨b, off, none⟩) l.length cp) (l) := by rw [List.append_assoc] at hv0; exact hv0.pre
  have hvR := hv0.mid (cap' := cp - l.length) (by unfold maxLen; omega)
  have HvL := hide hvL
  have HvR := hide hvR
  have Hv0 := hide hv0
  have NL := hide nl
  have NR := hide nr
  clear hvL hvR hv hv0 nl nr
  rcases hk with rfl | rfl
  all_goals
    go_enter Try.func33, Try.ntmps33
    go_wp2_with fail
    refine (l1start_bin _ l r cr _ _ _ sr (by exact (unhide Hv0).below (below1 w _) (Nat.le_refl _)) (by omega) rfl).mono ?_
    rintro e w1 ⟨rfl, rfl⟩
    go_wp2_with fail
    refine (Hl _ _ (by exact (unhide HvL).below (below1 w _) (Nat.le_refl _)) (by omega)).mono ?_
    rintro e w1 ⟨v1, rfl, hg1, hb1⟩
    obtain ⟨o1, d1, rfl⟩ := hg1.form
    have hB1 : Below w.heap.size w w1 := (below1 w _).trans (hb1.mono (by rw [sz_alloc]; omega))
    have Hg1 := hide hg1
    have Hb1 := hide hb1
    clear hb1 hg1
    go_wp2_with fail
    refine (Hr _ _ (by exact (unhide HvR).below hB1 (Nat.le_refl _)) (by omega)).mono ?_
    rintro e w2 ⟨v2, rfl, hg2, hb2⟩
    obtain ⟨o2, d2, rfl⟩ := hg2.form
    have hB2 : Below w.heap.size w w2 := hB1.trans (hb2.mono hB1.size)
    have hX := hide (((unhide Hg1).keep hb2 (Nat.le_refl _)).els (unhide NL))
    have hY := hide (hg2.els (unhide NR))
    have hz1 := (unhide Hb1).size
    obtain ⟨hcc, -⟩ := bcell ((unhide Hb1).trans (hb2.mono hz1))
    simp only [sz_alloc] at hcc
    clear hb2 hg2 hz1
    go_wp2_with fail
    refine (l1bin_w _ _ _ L R _ (unhide hX) (unhide hY) (by omega) (by omega) (unhide NL).len (unhide NR).len).mono ?_
    rintro e w3 ⟨v3, rfl, hg3, hb3⟩
    have Hg3 := hide (hg3.base hB2.size)
    have hB3 : Below w.heap.size w w3 := hB2.trans (hb3.mono hB2.size)
    clear hg3 hb3 hcc
    go_wp2
    go_ret
    exact ⟨_, rfl, unhide Hg3, hB3⟩

end Go.Proofs.Ytgedhbnmejlmeaa
