import Derived.Test.YtjmajdfcfcgegaaMn1
namespace Go.Proofs.Ytjmajdfcfcgegaa

/-- Blocks that keep acceptance and every class's way hold states that no line tells apart. -/
theorem tel_of_cong {A : Tb} (hw : A.Wf) {bl : Nat → Nat} (h1 : ∀ p q, p < A.n → q < A.n → bl p = bl q → A.ac p = A.ac q) (h2 : ∀ p q, p < A.n → q < A.n → bl p = bl q → ∀ c, c < A.k → bl (A.nx p c) = bl (A.nx q c)) :
    ∀ p q, p < A.n → q < A.n → bl p = bl q → Tel A A p q := by
  intro p q hp hq he w
  induction w generalizing p q with
  | nil => intro _; exact h1 p q hp hq he
  | cons b w ih =>
    intro hwd
    have hb := hwd b (.head _)
    exact ih _ _ (hw.stp hp hb) (hw.stp hq hb) (h2 p q hp hq he _ (hw.cls b hb)) fun x hx => hwd x (.tail _ hx)

/-- A byte of each class. -/
def Tb.Full (A : Tb) : Prop := ∀ c, c < A.k → ∃ b, b < 256 ∧ A.cl b = c
theorem Tel.nx {A : Tb} (hf : A.Full) {p q c : Nat} (h : Tel A A p q) (hc : c < A.k) : Tel A A (A.nx p c) (A.nx q c) := by
  obtain ⟨b, hb, rfl⟩ := hf c hc
  exact h.stp hb

/-- How blocks are cut by a set of states: W the blocks that wait. -/
structure Cut (n : Nat) (S : Nat → Prop) (bl bl' : Nat → Nat) (W W' : Nat → Prop) : Prop where
  same : ∀ p q, p < n → q < n → (bl' p = bl' q ↔ bl p = bl q ∧ (S p ↔ S q))
  keep : ∀ p, p < n → W (bl p) → W' (bl' p)
  new : ∀ p q, p < n → q < n → bl p = bl q → bl' p ≠ bl' q → W' (bl' p) ∨ W' (bl' q)

/-- The state of the search for blocks: T the states whose sources are looked at, class c the next. -/
structure Hop (A : Tb) (bl : Nat → Nat) (W T : Nat → Prop) (c : Nat) : Prop where
  ac : ∀ p q, p < A.n → q < A.n → bl p = bl q → A.ac p = A.ac q
  tel : ∀ p q, p < A.n → q < A.n → Tel A A p q → bl p = bl q
  tT : ∀ p q, p < A.n → q < A.n → Tel A A p q → (T p ↔ T q)
  pend : ∀ p q, p < A.n → q < A.n → bl p = bl q → ∀ c', c' < A.k → bl (A.nx p c') ≠ bl (A.nx q c') →
    W (bl (A.nx p c')) ∨ W (bl (A.nx q c')) ∨ (c ≤ c' ∧ ¬ (T (A.nx p c') ↔ T (A.nx q c')))

theorem Hop.start {A : Tb} {bl' : Nat → Nat} {W' : Nat → Prop} (h : Cut A.n (fun q => A.ac q = true) (fun _ => 0) bl' (fun _ => False) W') (hw : A.Wf) : Hop A bl' W' (fun _ => False) A.k where
  ac := fun p q hp hq he => by
    have := ((h.same p q hp hq).mp he).2
    cases h1 : A.ac p <;> cases h2 : A.ac q <;> simp_all
  tel := fun p q hp hq he => (h.same p q hp hq).mpr ⟨rfl, by rw [he.ac]⟩
  tT := fun _ _ _ _ _ => Iff.rfl
  pend := fun p q hp hq _ c' hc' hne => by
    rcases h.new _ _ (hw.nxt p c' hp hc') (hw.nxt q c' hq hc') rfl hne with h | h
    · exact .inl h
    · exact .inr (.inl h)

theorem Hop.cut {A : Tb} {bl bl' : Nat → Nat} {W W' T : Nat → Prop} {c : Nat} (h : Hop A bl W T c) (hw : A.Wf) (hf : A.Full) (hc : c < A.k) (g : Cut A.n (fun p => T (A.nx p c)) bl bl' W W') : Hop A bl' W' T (c + 1) where
  ac := fun p q hp hq he => h.ac p q hp hq ((g.same p q hp hq).mp he).1
  tel := fun p q hp hq he => (g.same p q hp hq).mpr ⟨h.tel p q hp hq he, h.tT _ _ (hw.nxt p c hp hc) (hw.nxt q c hq hc) (he.nx hf hc)⟩
  tT := h.tT
  pend := fun p q hp hq he c' hc' hne => by
    obtain ⟨e1, e2⟩ := (g.same p q hp hq).mp he
    have np := hw.nxt p c' hp hc'
    have nq := hw.nxt q c' hq hc'
    by_cases hs : bl (A.nx p c') = bl (A.nx q c')
    · rcases g.new _ _ np nq hs hne with k | k
      · exact .inl k
      · exact .inr (.inl k)
    · rcases h.pend p q hp hq e1 c' hc' hs with k | k | ⟨k1, k2⟩
      · exact .inl (g.keep _ np k)
      · exact .inr (.inl (g.keep _ nq k))
      · refine .inr (.inr ⟨?_, k2⟩)
        apply Classical.byContradiction
        intro hlt
        have : c' = c := by omega
        subst this
        exact k2 e2

/-- The next block is taken off. -/
theorem Hop.pop {A : Tb} {bl : Nat → Nat} {W W1 T : Nat → Prop} {N : Nat} (h : Hop A bl W T A.k) (hN : ∀ x, W x → x = N ∨ W1 x) : Hop A bl W1 (fun q => bl q = N) 0 where
  ac := h.ac
  tel := h.tel
  tT := fun p q hp hq he => by rw [h.tel p q hp hq he]
  pend := fun p q hp hq he c' hc' hne => by
    rcases h.pend p q hp hq he c' hc' hne with k | k | ⟨k1, -⟩
    · rcases hN _ k with k | k
      · exact .inr (.inr ⟨Nat.zero_le _, fun hi => hne (k.trans (hi.mp k).symm)⟩)
      · exact .inl k
    · rcases hN _ k with k | k
      · exact .inr (.inr ⟨Nat.zero_le _, fun hi => hne ((hi.mpr k).trans k.symm)⟩)
      · exact .inr (.inl k)
    · omega

/-- No block waits: the blocks are the states that no line tells apart. -/
theorem Hop.fin {A : Tb} {bl : Nat → Nat} {W T : Nat → Prop} (h : Hop A bl W T A.k) (hw : A.Wf) (hW : ∀ x, ¬ W x) : ∀ p q, p < A.n → q < A.n → (bl p = bl q ↔ Tel A A p q) := fun p q hp hq =>
  ⟨tel_of_cong hw h.ac (fun p q hp hq he c hc => by
    apply Classical.byContradiction
    intro hne
    rcases h.pend p q hp hq he c hc hne with k | k | ⟨k, -⟩
    · exact hW _ k
    · exact hW _ k
    · omega) p q hp hq, h.tel p q hp hq⟩

end Go.Proofs.Ytjmajdfcfcgegaa
