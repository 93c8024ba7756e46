import Derived.Test.YtjmajdfcfcgegaaMn9
namespace Go.Proofs.Ytjmajdfcfcgegaa

/-- A block is cut: o1 .. o2 becomes the block N, r1 .. r2 stays. -/
theorem PInv.cut {n N : Nat} {ms ps bs fr mk tt : Nat → Nat} (h : PInv n N ms ps bs fr mk tt) {b o1 o2 r1 r2 : Nat} (hb : b < N) (h1 : fr b < mk b) (h2 : mk b < tt b)
    (ho : (o1 = fr b ∧ o2 = mk b ∧ r1 = mk b ∧ r2 = tt b) ∨ (o1 = mk b ∧ o2 = tt b ∧ r1 = fr b ∧ r2 = mk b)) {bs' : Nat → Nat} (hbs : ∀ t, t < n → bs' t = if o1 ≤ ps t ∧ ps t < o2 then N else bs t) :
    PInv n (N + 1) ms ps bs' (upd (upd fr b r1) N o1) (upd (upd mk b r1) N o1) (upd (upd tt b r2) N o2) ∧
    (∀ p q, p < n → q < n → (bs' p = bs' q ↔ bs p = bs q ∧ (bs p = b → (ps p < mk b ↔ ps q < mk b)))) ∧
    (∀ p, p < n → bs p ≠ b → bs' p = bs p) ∧ (∀ p, p < n → bs p = b → bs' p = b ∨ bs' p = N) := by
  obtain ⟨b1, b2, b3, b4⟩ := h.b1 b hb
  have nb : N ≠ b := by omega
  have inn : ∀ t, t < n → ((fr b ≤ ps t ∧ ps t < tt b) ↔ bs t = b) := fun t ht => ⟨fun k => h.s2 t b ht hb k.1 k.2, fun k => by have := h.s1 t ht; rw [k] at this; exact this.2⟩
  have off : ∀ t, t < n → (o1 ≤ ps t ∧ ps t < o2 ↔ bs t = b ∧ o1 ≤ ps t ∧ ps t < o2) := fun t ht => by
    have := inn t ht
    omega
  have frb : upd (upd fr b r1) N o1 b = r1 := by rw [upd_ne _ (Ne.symm nb), upd_at]
  have mkb : upd (upd mk b r1) N o1 b = r1 := by rw [upd_ne _ (Ne.symm nb), upd_at]
  have ttb : upd (upd tt b r2) N o2 b = r2 := by rw [upd_ne _ (Ne.symm nb), upd_at]
  have frN : upd (upd fr b r1) N o1 N = o1 := upd_at _ _ _
  have mkN : upd (upd mk b r1) N o1 N = o1 := upd_at _ _ _
  have ttN : upd (upd tt b r2) N o2 N = o2 := upd_at _ _ _
  have fro : ∀ c, c ≠ N → c ≠ b → upd (upd fr b r1) N o1 c = fr c := fun c k1 k2 => by rw [upd_ne _ k1, upd_ne _ k2]
  have mko : ∀ c, c ≠ N → c ≠ b → upd (upd mk b r1) N o1 c = mk c := fun c k1 k2 => by rw [upd_ne _ k1, upd_ne _ k2]
  have tto : ∀ c, c ≠ N → c ≠ b → upd (upd tt b r2) N o2 c = tt c := fun c k1 k2 => by rw [upd_ne _ k1, upd_ne _ k2]
  refine ⟨⟨h.m1, h.p1, fun c hc => ?_, fun t ht => ?_, fun t c ht hc => ?_⟩, fun p q hp hq => ?_, fun p hp hne => ?_, fun p hp he => ?_⟩
  · by_cases k1 : c = N
    · subst k1; rw [frN, mkN, ttN]; omega
    · by_cases k2 : c = b
      · subst k2; rw [frb, mkb, ttb]; omega
      · rw [fro c k1 k2, mko c k1 k2, tto c k1 k2]; exact h.b1 c (by omega)
  · have hi := inn t ht
    obtain ⟨s1, s2, s3⟩ := h.s1 t ht
    rw [hbs t ht]
    split
    · rename_i hc
      rw [frN, ttN]
      exact ⟨by omega, hc.1, hc.2⟩
    · rename_i hc
      by_cases k2 : bs t = b
      · rw [k2, frb, ttb]
        have := hi.mpr k2
        omega
      · rw [fro _ (by omega) k2, tto _ (by omega) k2]
        exact ⟨by omega, s2, s3⟩
  · have hi := inn t ht
    intro k3 k4
    rw [hbs t ht]
    by_cases k1 : c = N
    · subst k1; rw [frN] at k3; rw [ttN] at k4
      rw [if_pos ⟨k3, k4⟩]
    · by_cases k2 : c = b
      · subst k2; rw [frb] at k3; rw [ttb] at k4
        rw [if_neg (by omega)]
        exact hi.mp (by omega)
      · rw [fro c k1 k2] at k3; rw [tto c k1 k2] at k4
        have hs := h.s2 t c ht (by omega) k3 k4
        rw [if_neg (fun hc => by have := ((off t ht).mp hc).1; omega)]
        exact hs
  · have ip := inn p hp
    have iq := inn q hq
    have sp := (h.s1 p hp).1
    have sq := (h.s1 q hq).1
    rw [hbs p hp, hbs q hq]
    by_cases c1 : o1 ≤ ps p ∧ ps p < o2 <;> by_cases c2 : o1 ≤ ps q ∧ ps q < o2
    · rw [if_pos c1, if_pos c2]
      have e1 := ((off p hp).mp c1).1
      have e2 := ((off q hq).mp c2).1
      rw [e1, e2]
      refine ⟨fun _ => ⟨rfl, fun _ => by omega⟩, fun _ => rfl⟩
    · rw [if_pos c1, if_neg c2]
      have e1 := ((off p hp).mp c1).1
      constructor
      · intro he; omega
      · intro ⟨he, k⟩
        have := k e1
        have := iq.mpr (by omega)
        omega
    · rw [if_neg c1, if_pos c2]
      have e2 := ((off q hq).mp c2).1
      constructor
      · intro he; omega
      · intro ⟨he, k⟩
        have := k (by omega)
        have := ip.mpr (by omega)
        omega
    · rw [if_neg c1, if_neg c2]
      constructor
      · intro he
        refine ⟨he, fun k => ?_⟩
        have := ip.mpr k
        have := iq.mpr (by omega)
        omega
      · exact fun k => k.1
  · rw [hbs p hp, if_neg (fun hc => hne ((off p hp).mp hc).1)]
  · rw [hbs p hp]
    split
    · exact .inr rfl
    · exact .inl he

/-- A block that is marked whole, or not at all: the marks are taken off. -/
theorem PInv.unmark {n N : Nat} {ms ps bs fr mk tt : Nat → Nat} (h : PInv n N ms ps bs fr mk tt) {b : Nat} (_hb : b < N) : PInv n N ms ps bs fr (upd mk b (fr b)) tt where
  m1 := h.m1
  p1 := h.p1
  b1 := fun c hc => by
    have := h.b1 c hc
    by_cases k : c = b
    · subst k; rw [upd_at]; omega
    · rw [upd_ne _ k]; exact this
  s1 := h.s1
  s2 := h.s2

end Go.Proofs.Ytjmajdfcfcgegaa
