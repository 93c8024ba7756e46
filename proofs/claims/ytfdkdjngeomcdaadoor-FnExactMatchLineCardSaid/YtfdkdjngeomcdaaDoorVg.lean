import Derived.Test.YtfdkdjngeomcdaaDoorP18
import Derived.Test.YtfdkdjngeomcdaaDoorVW
import Derived.Test.YtfdkdjngeomcdaaDoorC6
namespace Go.Proofs.YtfdkdjngeomcdaaDoor
open Go.RowKit

theorem PushR.gg {G : Value → List El × Int → Prop} (hG : Clos G) {st st' : List (List El × Int)} {x : El} (h : PushR st x st') (ok : ElOk x) (hs : ∀ s ∈ st, ∃ u, G u s) : ∀ s ∈ st', ∃ u, G u s := by
  intro s hm
  obtain ⟨k, xs, mn, mx⟩ := x
  rcases h with ⟨hk, rfl⟩ | ⟨hk, b, l, r, rfl, rfl⟩ | ⟨hk, b, o, rfl, rfl⟩
  · simp only [List.mem_append, List.mem_singleton] at hm; rcases hm with hm | rfl
    · exact hs s hm
    · rcases ok with ⟨q1, q2, q3, q4⟩ | ⟨q1, q2, q3, q4⟩ | ⟨q1, q2, q3, q4, q5⟩ <;> simp only at hk q1 q2 q3 q4
      · subst q1 q3 q4
        obtain ⟨g, hg⟩ := words_ex q2
        exact ⟨_, hG.s q2 hg⟩
      · subst q3 q4
        obtain rfl := List.eq_nil_of_length_eq_zero q2
        obtain rfl : k = 0 := by omega
        exact ⟨_, hG.e⟩
      · omega
  · simp only [List.mem_append, List.mem_singleton] at hm; rcases hm with hm | rfl
    · exact hs s (by simp [hm])
    · obtain ⟨u, hu⟩ := hs l (by simp)
      obtain ⟨v, hv⟩ := hs r (by simp)
      rcases ok with ⟨q1, q2, q3, q4⟩ | ⟨q1, q2, q3, q4⟩ | ⟨q1, q2, q3, q4, q5⟩ <;> simp only at hk q1 q2 q3 q4
      · omega
      · subst q3 q4
        obtain rfl := List.eq_nil_of_length_eq_zero q2
        rcases hk with rfl | rfl
        · exact ⟨_, hG.cat hu hv⟩
        · exact ⟨_, hG.alt hu hv⟩
      · omega
  · simp only [List.mem_append, List.mem_singleton] at hm; rcases hm with hm | rfl
    · exact hs s (by simp [hm])
    · obtain ⟨u, hu⟩ := hs o (by simp)
      rcases ok with ⟨q1, q2, q3, q4⟩ | ⟨q1, q2, q3, q4⟩ | ⟨q1, q2, q3, q4, q5⟩ <;> simp only at hk q1 q2 q3 q4
      · omega
      · omega
      · subst hk
        obtain rfl := List.eq_nil_of_length_eq_zero q2
        exact ⟨_, hG.rep hu q3 q4 q5⟩
/-- A valid tree has a node. -/
theorem valid_g {G : Value → List El × Int → Prop} (hG : Clos G) {xs : List El} (h : ValidT xs) : ∃ u c, G u (xs, c) := by
  obtain ⟨h1, ok, sh, c, hc1, hc2⟩ := h
  have key : ∀ k : Nat, k ≤ xs.length → ∃ st, flats st = xs.take k ∧ (∀ s ∈ st, SegM s.1 s.2) ∧ ∀ s ∈ st, ∃ u, G u s := by
    intro k
    induction k with
    | zero => intro _; exact ⟨[], by simp [flats], by simp, by simp⟩
    | succ k ih =>
      intro hk
      obtain ⟨st, hst, hok, hgx⟩ := ih (by omega)
      have hx := ok k (by omega)
      have h1 : wsum (xs.take (k + 1)) + wsum (xs.drop (k + 1)) = 1 := by rw [← wsum_append, List.take_append_drop]; exact sh.1
      have h2 := sh.2 (k + 1) (by omega) hk
      have h3 := wsum_flats (fun s hs => (hok s hs).ws)
      rw [hst] at h3
      rw [take_next (by omega), wsum_append, h3] at h1
      simp only [wsum] at h1
      obtain ⟨st', hp⟩ := PushR.ex (st := st) hx (by omega)
      exact ⟨st', by rw [hp.flats, hst, take_next (by omega)], hp.seg hx hok, hp.gg hG hx hgx⟩
  obtain ⟨st, hst, hok, hgx⟩ := key xs.length (Nat.le_refl _)
  rw [List.take_length] at hst
  have h3 := wsum_flats (fun s hs => (hok s hs).ws)
  rw [hst, sh.1] at h3
  obtain ⟨t, rfl⟩ := List.length_eq_one_iff.1 (show st.length = 1 by omega)
  obtain ⟨u, hu⟩ := hgx t (by simp)
  rw [flats_one] at hst
  obtain ⟨t1, t2⟩ := t
  simp only at hst
  subst hst
  exact ⟨u, t2, hu⟩

end Go.Proofs.YtfdkdjngeomcdaaDoor
