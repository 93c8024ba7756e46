import Derived.Test.YtgedhbnmejlmeaaV2
import Derived.Test.YtgedhbnmejlmeaaC6
namespace Go.Proofs.Ytgedhbnmejlmeaa
open Go.RowKit

/-- Words for a set that is told by its bytes. -/
def wof (p : Nat → Bool) : Nat → Nat → Nat
  | 0 => fun _ => 0
  | n + 1 => if p n then (fun j => if j = n / 64 then wof p n (n / 64) ||| 2 ^ (n % 64) else wof p n j) else wof p n
theorem wof_fit (p : Nat → Bool) : ∀ n : Nat, Fit (wof p n)
  | 0 => fun j => by show 0 < 18446744073709551616; omega
  | n + 1 => fun j => by
    simp only [wof]
    split
    · by_cases e : j = n / 64
      · simp only [e, if_true]; exact or_lt _ _ (wof_fit p n _) (by omega)
      · simp only [e, if_false]; exact wof_fit p n j
    · exact wof_fit p n j
theorem wof_bt (p : Nat → Bool) (b : Nat) : ∀ n : Nat, Bt (wof p n) b = (decide (b < n) && p b)
  | 0 => by simp [wof, Bt]
  | n + 1 => by
    have ih := wof_bt p b n
    by_cases hp : p n = true
    · have e : wof p (n + 1) = (fun j => if j = n / 64 then wof p n (n / 64) ||| 2 ^ (n % 64) else wof p n j) := by simp [wof, hp]
      rw [e, bt_put, ih]
      by_cases e2 : b = n
      · subst e2; simp [hp]
      · have : b < n + 1 ↔ b < n := by omega
        simp [e2, this]
    · have e : wof p (n + 1) = wof p n := by simp [wof, hp]
      rw [e, ih]
      by_cases e2 : b = n
      · subst e2; simp [hp]
      · have : b < n + 1 ↔ b < n := by omega
        simp [this]
theorem words_ex {xs : List Int} (h : Canon xs) : ∃ g, WordsOf xs g := by
  refine ⟨wof (InP xs (xs.length / 2)) 256, wof_fit _ _, fun b => ?_⟩
  rw [wof_bt]
  by_cases hb : b < 256
  · simp [hb]
  · have : InP xs (xs.length / 2) b = false := by
      rw [Bool.eq_false_iff]
      intro q
      obtain ⟨j, h1, h2, h3⟩ := (inP_iff _ _ _).1 q
      have := (h.2.1 (2 * j + 1) (by omega)).2
      omega
    rw [this]; simp

theorem PushR.gx {st st' : List (List El × Int)} {x : El} (h : PushR st x st') (ok : ElOk x) (hs : ∀ s ∈ st, ∃ u, GX u s) : ∀ s ∈ st', ∃ u, GX u s := by
  intro s hm
  obtain ⟨k, xs, mn, mx⟩ := x
  rcases h with ⟨hk, rfl⟩ | ⟨hk, b, l, r, rfl, rfl⟩ | ⟨hk, b, o, rfl, rfl⟩
  · simp only [List.mem_append, List.mem_singleton] at hm; rcases hm with hm | rfl
    · exact hs s hm
    · rcases ok with ⟨q1, q2, q3, q4⟩ | ⟨q1, q2, q3, q4⟩ | ⟨q1, q2, q3, q4, q5⟩ <;> simp only at hk q1 q2 q3 q4
      · subst q1 q3 q4
        obtain ⟨g, hg⟩ := words_ex q2
        exact ⟨_, closX.s q2 hg⟩
      · subst q3 q4
        obtain rfl := List.eq_nil_of_length_eq_zero q2
        obtain rfl : k = 0 := by omega
        exact ⟨_, closX.e⟩
      · omega
  · simp only [List.mem_append, List.mem_singleton] at hm; rcases hm with hm | rfl
    · exact hs s (by simp [hm])
    · obtain ⟨u, hu⟩ := hs l (by simp)
      obtain ⟨v, hv⟩ := hs r (by simp)
      rcases ok with ⟨q1, q2, q3, q4⟩ | ⟨q1, q2, q3, q4⟩ | ⟨q1, q2, q3, q4, q5⟩ <;> simp only at hk q1 q2 q3 q4
      · omega
      · subst q3 q4
        obtain rfl := List.eq_nil_of_length_eq_zero q2
        rcases hk with rfl | rfl
        · exact ⟨_, closX.cat hu hv⟩
        · exact ⟨_, closX.alt hu hv⟩
      · omega
  · simp only [List.mem_append, List.mem_singleton] at hm; rcases hm with hm | rfl
    · exact hs s (by simp [hm])
    · obtain ⟨u, hu⟩ := hs o (by simp)
      rcases ok with ⟨q1, q2, q3, q4⟩ | ⟨q1, q2, q3, q4⟩ | ⟨q1, q2, q3, q4, q5⟩ <;> simp only at hk q1 q2 q3 q4
      · omega
      · omega
      · subst hk
        obtain rfl := List.eq_nil_of_length_eq_zero q2
        exact ⟨_, closX.rep hu q3 q4 q5⟩

/-- What a valid tree is written out as, by the model. -/
theorem valid_xp {xs : List El} (h : ValidT xs) : ∃ L, XpS xs L ∧ Nice L ∧ L.length ≤ 1000 ∧ SegX xs L ∧ ∀ u c, GX u (xs, c) → c ≤ 500 → ∃ U, ExpV u U ∧ OpsAs U L := by
  obtain ⟨h1, ok, sh, c, hc1, hc2⟩ := h
  have key : ∀ k : Nat, k ≤ xs.length → ∃ st, flats st = xs.take k ∧ (∀ s ∈ st, SegM s.1 s.2) ∧ ∀ s ∈ st, ∃ u, GX u s := by
    intro k
    induction k with
    | zero => intro _; exact ⟨[], by simp [flats], by simp, by simp⟩
    | succ k ih =>
      intro hk
      obtain ⟨st, hst, hok, hgx⟩ := ih (by omega)
      have hx := ok k (by omega)
      have h1 : wsum (xs.take (k + 1)) + wsum (xs.drop (k + 1)) = 1 := by rw [← wsum_append, List.take_append_drop]; exact sh.1
      have h2 := sh.2 (k + 1) (by omega) hk
      have h3 := wsum_flats (fun s hs => (hok s hs).ws)
      rw [hst] at h3
      rw [take_next (by omega), wsum_append, h3] at h1
      simp only [wsum] at h1
      obtain ⟨st', hp⟩ := PushR.ex (st := st) hx (by omega)
      exact ⟨st', by rw [hp.flats, hst, take_next (by omega)], hp.seg hx hok, hp.gx hx hgx⟩
  obtain ⟨st, hst, hok, hgx⟩ := key xs.length (Nat.le_refl _)
  rw [List.take_length] at hst
  have h3 := wsum_flats (fun s hs => (hok s hs).ws)
  rw [hst, sh.1] at h3
  obtain ⟨t, rfl⟩ := List.length_eq_one_iff.1 (show st.length = 1 by omega)
  have ha := hok t (by simp)
  obtain ⟨u, hu⟩ := hgx t (by simp)
  rw [flats_one] at hst
  have hr := ha.run []
  rw [hst, hc1] at hr
  simp only [List.cons.injEq, and_true] at hr
  obtain ⟨-, -, h5⟩ := hu
  obtain ⟨-, U, L, a1, a2, a3, a4, a5, a6⟩ := h5 (by omega)
  rw [hst] at a3 a6
  refine ⟨L, a3, a4, by omega, a6, fun u' c' hu' hc' => ?_⟩
  obtain ⟨-, U', L', b1, b2, -, -, -, b6⟩ := hu'.2.2 hc'
  rw [SegX.one a6 b6]
  exact ⟨U', b1, b2⟩

end Go.Proofs.Ytgedhbnmejlmeaa
