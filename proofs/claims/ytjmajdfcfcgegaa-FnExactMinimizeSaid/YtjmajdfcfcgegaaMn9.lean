import Derived.Test.YtjmajdfcfcgegaaMn8
namespace Go.Proofs.Ytjmajdfcfcgegaa

def upd (f : Nat → Nat) (i v : Nat) : Nat → Nat := fun x => if x = i then v else f x
theorem upd_at (f : Nat → Nat) (i v : Nat) : upd f i v i = v := by simp [upd]
theorem upd_ne (f : Nat → Nat) {i v x : Nat} (h : x ≠ i) : upd f i v x = f x := by simp [upd, h]

/-- Members in stretches: ms the members, ps the place of each, bs its block; a block's stretch, those that are marked first. -/
structure PInv (n N : Nat) (ms ps bs fr mk tt : Nat → Nat) : Prop where
  m1 : ∀ i, i < n → ms i < n ∧ ps (ms i) = i
  p1 : ∀ s, s < n → ps s < n ∧ ms (ps s) = s
  b1 : ∀ b, b < N → fr b ≤ mk b ∧ mk b ≤ tt b ∧ fr b < tt b ∧ tt b ≤ n
  s1 : ∀ s, s < n → bs s < N ∧ fr (bs s) ≤ ps s ∧ ps s < tt (bs s)
  s2 : ∀ s b, s < n → b < N → fr b ≤ ps s → ps s < tt b → bs s = b

theorem PInv.start {n : Nat} {fr mk tt : Nat → Nat} (hn : 0 < n) (h1 : fr 0 = 0) (h2 : mk 0 = 0) (h3 : tt 0 = n) : PInv n 1 (fun i => i) (fun i => i) (fun _ => 0) fr mk tt where
  m1 := fun _ hi => ⟨hi, rfl⟩
  p1 := fun _ hi => ⟨hi, rfl⟩
  b1 := fun b hb => by obtain rfl : b = 0 := by omega
                       omega
  s1 := fun s hs => ⟨by omega, by omega, by omega⟩
  s2 := fun s b _ hb _ _ => by omega

/-- A state is marked: it changes places with the first of its block that is not. -/
theorem PInv.mark {n N : Nat} {ms ps bs fr mk tt : Nat → Nat} (h : PInv n N ms ps bs fr mk tt) {s : Nat} (hs : s < n) (hm : mk (bs s) ≤ ps s) :
    PInv n N (upd (upd ms (ps s) (ms (mk (bs s)))) (mk (bs s)) s) (upd (upd ps (ms (mk (bs s))) (ps s)) s (mk (bs s))) bs fr (upd mk (bs s) (mk (bs s) + 1)) tt ∧
    ∀ t, t < n → (upd (upd ps (ms (mk (bs s))) (ps s)) s (mk (bs s)) t < upd mk (bs s) (mk (bs s) + 1) (bs t) ↔ ps t < mk (bs t) ∨ t = s) := by
  obtain ⟨a1, a2, a3⟩ := h.s1 s hs
  obtain ⟨b1, b2, b3, b4⟩ := h.b1 _ a1
  have pn := (h.p1 s hs).1
  have pm := (h.p1 s hs).2
  have jn : mk (bs s) < n := by omega
  obtain ⟨x1, x2⟩ := h.m1 _ jn
  have xb : bs (ms (mk (bs s))) = bs s := h.s2 _ _ x1 a1 (by omega) (by omega)
  generalize hx : ms (mk (bs s)) = x at *
  generalize hj : mk (bs s) = j at *
  generalize hi : ps s = i at *
  generalize hb : bs s = b at *
  have hxs : x = s ↔ i = j := by
    constructor
    · intro he; subst he; omega
    · intro he; subst he; rw [hx] at pm; exact pm
  -- where a state stands now
  have ps' : ∀ t, t < n → upd (upd ps x i) s j t = (if t = s then j else if t = x then i else ps t) := fun t _ => by
    by_cases h1 : t = s
    · simp [upd, h1]
    · by_cases h2 : t = x <;> simp [upd, h1, h2]
  have pj : ∀ t, t < n → ps t = j → t = x := fun t ht he => by have := (h.p1 t ht).2; rw [he, hx] at this; exact this.symm
  have pi : ∀ t, t < n → ps t = i → t = s := fun t ht he => by have := (h.p1 t ht).2; rw [he, pm] at this; exact this.symm
  refine ⟨⟨fun k hk => ?_, fun t ht => ?_, fun c hc => ?_, fun t ht => ?_, fun t c ht hc => ?_⟩, fun t ht => ?_⟩
  · by_cases h1 : k = j
    · subst h1
      rw [upd_at]
      exact ⟨hs, by rw [ps' s hs]; simp⟩
    · rw [upd_ne _ h1]
      by_cases h2 : k = i
      · subst h2
        rw [upd_at]
        refine ⟨x1, ?_⟩
        rw [ps' x x1]
        have : x ≠ s := fun he => h1 (hxs.mp he)
        simp [this]
      · rw [upd_ne _ h2]
        obtain ⟨k1, k2⟩ := h.m1 k hk
        refine ⟨k1, ?_⟩
        rw [ps' _ k1]
        have e1 : ms k ≠ s := fun he => by rw [he, hi] at k2; exact h2 k2.symm
        have e2 : ms k ≠ x := fun he => by rw [he, x2] at k2; exact h1 k2.symm
        simp [e1, e2, k2]
  · rw [ps' t ht]
    by_cases h1 : t = s
    · subst h1; simp only [if_true]; exact ⟨jn, upd_at _ _ _⟩
    · by_cases h2 : t = x
      · subst h2
        simp only [h1, if_false, if_true]
        refine ⟨pn, ?_⟩
        have : i ≠ j := fun he => h1 (hxs.mpr he)
        rw [upd_ne _ this, upd_at]
      · simp only [h1, h2, if_false]
        obtain ⟨k1, k2⟩ := h.p1 t ht
        refine ⟨k1, ?_⟩
        rw [upd_ne _ (fun he => h2 (pj t ht he)), upd_ne _ (fun he => h1 (pi t ht he))]
        exact k2
  · by_cases h1 : c = b
    · subst h1; rw [upd_at]; omega
    · rw [upd_ne _ h1]; exact h.b1 c hc
  · rw [ps' t ht]
    by_cases h1 : t = s
    · subst h1; simp only [if_true, hb]; exact ⟨a1, by omega, by omega⟩
    · by_cases h2 : t = x
      · subst h2; simp only [h1, if_false, if_true, xb]; exact ⟨a1, by omega, by omega⟩
      · simp only [h1, h2, if_false]; exact h.s1 t ht
  · rw [ps' t ht]
    by_cases h1 : t = s
    · subst h1; simp only [if_true]
      intro k1 k2
      rw [hb, ← xb]
      exact h.s2 x c x1 hc (by omega) (by omega)
    · by_cases h2 : t = x
      · subst h2; simp only [h1, if_false, if_true]
        intro k1 k2
        rw [xb, ← hb]
        exact h.s2 s c hs hc (by omega) (by omega)
      · simp only [h1, h2, if_false]; exact h.s2 t c ht hc
  · rw [ps' t ht]
    by_cases h1 : t = s
    · subst h1; simp [hb, upd_at]
    · by_cases h2 : t = x
      · subst h2; simp only [h1, if_false, if_true, xb, upd_at, hj, x2, or_false]
        have : i ≠ j := fun he => h1 (hxs.mpr he)
        omega
      · simp only [h1, h2, if_false, or_false]
        by_cases h3 : bs t = b
        · rw [h3, upd_at, hj]
          have : ps t ≠ j := fun he => h2 (pj t ht he)
          omega
        · rw [upd_ne _ h3]

end Go.Proofs.Ytjmajdfcfcgegaa
