import Derived.Test.YtijejbdpagbmpaaDoorPo3
namespace Go.Proofs.YtijejbdpagbmpaaDoor
open Go.RowKit

/-- The first or the last positions, counted from n on. -/
def edg (a : It) (last : Bool) (n : Nat) : List Int := (if last then a.la else a.fi).map (fun i => ((n + i : Nat) : Int))
/-- The model's first and last positions of this list of elements. -/
def EdS (L : List El) (a : It) : Prop := a.fi.length ≤ L.length ∧ a.la.length ≤ L.length ∧ ∀ (v : Value) (w : World) (n : Nat) (last : Bool), ElsAt 0 w.heap.size w v L → L.length ≤ 3000 → n + L.length ≤ 10000 →
  Calls Tryd.prog 17 #[v, .int .i64 n, .bool last] w fun e w' => ∃ v', e = .returned v' ∧ w'.ownsRow w.heap.size 3 1 v' (edg a last n).length ((edg a last n).map mI) ∧ Below w.heap.size w w'
theorem edg_len {L : List El} {a : It} (h : EdS L a) (last : Bool) (n : Nat) : (edg a last n).length ≤ L.length := by
  unfold edg
  rw [List.length_map]
  cases last
  · exact h.1
  · exact h.2.1

set_option maxHeartbeats 4000000 in
set_option maxRecDepth 100000 in
theorem ed_e : EdS [⟨0, [], 0, 0⟩] ⟨true, [], []⟩ := by
  refine ⟨by simp, by simp, ?_⟩
  intro v w n last hv hlen hn
  obtain ⟨a, cp, rfl, -, -⟩ := id hv
  obtain ⟨hlen2, hcap, b, off, rfl, hbn, hel⟩ := ElsAt.last (p := []) hv
  simp only [List.length_singleton, List.length_nil, Nat.zero_mul, Nat.add_zero] at hel hv ⊢
  obtain ⟨i1, i2, i3, sv, c0, c1, c2, c3, hints⟩ := hel
  obtain ⟨sa, sc, rfl, -, -, -⟩ := id hints
  have HE : Hid (edg ⟨true, [], []⟩ last n = []) := by show edg _ _ _ = _; cases last <;> rfl
  rw [unhide HE]
  clear hv hints i1 i2 i3 HE
  go_enter Tryd.func17, Tryd.ntmps17
  go_wp2
  go_ret
  exact ⟨_, rfl, World.ownsRow_nil _ _ _ _, below1 w _⟩

set_option maxHeartbeats 4000000 in
set_option maxRecDepth 100000 in
theorem ed_s (xs : List Int) : EdS [⟨1, xs, 0, 0⟩] ⟨false, [0], [0]⟩ := by
  refine ⟨by simp, by simp, ?_⟩
  intro v w n last hv hlen hn
  obtain ⟨a, cp, rfl, -, -⟩ := id hv
  obtain ⟨hlen2, hcap, b, off, rfl, hbn, hel⟩ := ElsAt.last (p := []) hv
  simp only [List.length_singleton, List.length_nil, Nat.zero_mul, Nat.add_zero] at hel hv ⊢
  obtain ⟨i1, i2, i3, sv, c0, c1, c2, c3, hints⟩ := hel
  obtain ⟨sa, sc, rfl, -, -, -⟩ := id hints
  have HE : Hid (edg ⟨false, [0], [0]⟩ last n = [(n : Int)]) := by show edg _ _ _ = _; cases last <;> rfl
  rw [unhide HE]
  clear hv hints i1 i2 i3 HE
  go_enter Tryd.func17, Tryd.ntmps17
  go_wp2
  go_ret
  have ho := World.ownsRow_lit (base := w.heap.size) (size := 1) (e := 3) (w.alloc (.cells #[.int .i64 1, .slice sa xs.length sc, .int .i64 0, .int .i64 0] 44)) #[.int .i64 (n : Int)] 1 (by rw [sz_alloc]; omega) (by unfold maxLen; omega) rfl
  rw [sz_alloc] at ho
  exact ⟨_, rfl, ho, below2 w _ _⟩

set_option maxHeartbeats 4000000 in
set_option maxRecDepth 100000 in
theorem ed_rep (l : List El) (a0 : It) (mn mx : Int) (hl : EdS l a0) : EdS (l ++ [⟨4, [], mn, mx⟩]) (itRep a0 mn) := by
  obtain ⟨h1, h2, hl⟩ := hl
  refine ⟨by simp [itRep]; omega, by simp [itRep]; omega, ?_⟩
  intro v w n last hv hlen hn
  have hv0 := hv
  obtain ⟨a, cp, rfl, -, -⟩ := id hv
  obtain ⟨hlen2, hcap, b, off, rfl, hbn, hel⟩ := hv.last
  rw [hlen2] at hv hv0 hcap ⊢
  simp only [List.length_append, List.length_singleton] at hlen hlen2
  unfold maxLen at hcap
  obtain ⟨i1, i2, i3, sv, c0, c1, c2, c3, hints⟩ := hel
  obtain ⟨sa, sc, rfl, -, -, -⟩ := id hints
  simp only at c0 c2 c3
  clear hlen2 i1 i2 i3 hints
  have hvL : ElsAt 0 w.heap.size w (.slice (some ⟨b, off, none⟩) l.length cp) l := hv0.pre
  have HvL := hide hvL
  have e1 : (((l.length + 1 : Nat) : Int) - 1) = ((l.length : Nat) : Int) := by omega
  have hB0 := below1 w (.cells #[.int .i64 4, .slice sa 0 sc, .int .i64 mn, .int .i64 mx] 44)
  have HH := hide hl
  have HE : Hid (edg (itRep a0 mn) last n = edg a0 last n) := rfl
  rw [unhide HE]
  generalize hX : edg a0 last n = X
  have HX := hide hX
  clear hvL hv hv0 hl HE hX
  go_enter Tryd.func17, Tryd.ntmps17
  go_wp2_with fail
  refine (unhide HH _ _ n last ((unhide HvL).below hB0 (Nat.le_refl _)) (by omega) (by simp only [List.length_append, List.length_singleton] at hn; omega)).mono ?_
  rintro e w1 ⟨v1, rfl, ho1, hb1⟩
  rw [unhide HX, sz_alloc] at ho1
  have hB1 := hB0.trans (hb1.mono (by rw [sz_alloc]; omega))
  have Ho1 := hide (own_low ho1 (show w.heap.size ≤ w.heap.size + 1 by omega))
  obtain ⟨a1, c9, rfl⟩ := own_is ho1
  clear hb1 ho1
  go_wp2
  go_ret
  exact ⟨_, rfl, unhide Ho1, hB1⟩

end Go.Proofs.YtijejbdpagbmpaaDoor
