import Derived.Test.YtjmajdfcfcgegaaMn2
namespace Go.Proofs.Ytjmajdfcfcgegaa

/-- Numbers given in the order of first meeting: num numbers n things, F the first of each of the m numbers. -/
structure Num1 (n m : Nat) (num F : Nat → Nat) : Prop where
  lt : ∀ s, s < n → num s < m
  fst : ∀ j, j < m → F j < n ∧ num (F j) = j
  le : ∀ s, s < n → F (num s) ≤ s
  up : ∀ i j, i < j → j < m → F i < F j
theorem Num1.zero {n m : Nat} {num F : Nat → Nat} (h : Num1 n m num F) (hn : 0 < n) : num 0 = 0 ∧ F 0 = 0 ∧ 0 < m := by
  have h1 := h.lt 0 hn
  have h2 := h.le 0 hn
  have h3 : num 0 = 0 := by
    apply Classical.byContradiction
    intro hne
    have := h.up 0 (num 0) (by omega) h1
    omega
  rw [h3] at h2 h1
  exact ⟨h3, by omega, h1⟩

/-- Breadth first, all reached, every class met: all that a smallest table is but smallest. -/
structure Pre (A : Tb) : Prop where
  wf : A.Wf
  clUp : ∀ b, b < 256 → ∀ c, c < A.cl b → ∃ b', b' < b ∧ A.cl b' = c
  clAll : A.Full
  stUp : ∀ q c, q < A.n → c < A.k → ∀ s, s < A.nx q c → s = 0 ∨ ∃ q' c', c' < A.k ∧ (q' < q ∨ (q' = q ∧ c' < c)) ∧ A.nx q' c' = s
  stAll : ∀ q, q < A.n → ∃ w, Wd w ∧ A.run 0 w = q

/-- One state for all that no line tells apart. -/
def mrgS (A : Tb) (m : Nat) (num F : Nat → Nat) : Tb := ⟨m, A.k, A.cl, fun j c => num (A.nx (F j) c), fun j => A.ac (F j)⟩
theorem mrgS_nx {A : Tb} {m : Nat} {num F : Nat → Nat} (hA : Pre A) (hN : Num1 A.n m num F) (hT : ∀ p q, p < A.n → q < A.n → (num p = num q ↔ Tel A A p q)) {s c : Nat} (hs : s < A.n) (hc : c < A.k) :
    (mrgS A m num F).nx (num s) c = num (A.nx s c) := by
  have hf := hN.fst (num s) (hN.lt s hs)
  exact (hT _ _ (hA.wf.nxt _ c hf.1 hc) (hA.wf.nxt s c hs hc)).mpr (((hT _ _ hf.1 hs).mp hf.2).nx hA.clAll hc)
theorem mrgS_run {A : Tb} {m : Nat} {num F : Nat → Nat} (hA : Pre A) (hN : Num1 A.n m num F) (hT : ∀ p q, p < A.n → q < A.n → (num p = num q ↔ Tel A A p q)) :
    ∀ (w : List Nat) (s : Nat), s < A.n → Wd w → (mrgS A m num F).run (num s) w = num (A.run s w)
  | [], _, _, _ => rfl
  | b :: w, s, hs, hw => by
    have hb := hw b (.head _)
    rw [Tb.run_cons, Tb.run_cons]
    have : (mrgS A m num F).stp (num s) b = num (A.stp s b) := mrgS_nx hA hN hT hs (hA.wf.cls b hb)
    rw [this]
    exact mrgS_run hA hN hT w _ (hA.wf.stp hs hb) fun x hx => hw x (.tail _ hx)
theorem mrgS_tel {A : Tb} {m : Nat} {num F : Nat → Nat} (hA : Pre A) (hN : Num1 A.n m num F) (hT : ∀ p q, p < A.n → q < A.n → (num p = num q ↔ Tel A A p q)) {s : Nat} (hs : s < A.n) : Tel (mrgS A m num F) A (num s) s := fun w hw => by
  rw [mrgS_run hA hN hT w s hs hw]
  have hr := hA.wf.run w s hs hw
  have hf := hN.fst _ (hN.lt _ hr)
  exact ((hT _ _ hf.1 hr).mp hf.2).ac

theorem mrgS_pre {A : Tb} {m : Nat} {num F : Nat → Nat} (hA : Pre A) (hN : Num1 A.n m num F) (hT : ∀ p q, p < A.n → q < A.n → (num p = num q ↔ Tel A A p q)) : Pre (mrgS A m num F) where
  wf := ⟨(hN.zero hA.wf.pos).2.2, hA.wf.cls, fun j c hj hc => hN.lt _ (hA.wf.nxt _ c (hN.fst j hj).1 hc)⟩
  clUp := hA.clUp
  clAll := hA.clAll
  stUp := fun j c hj hc s hs => by
    have hfj := hN.fst j hj
    have ht := hA.wf.nxt _ c hfj.1 hc
    have hsm : s < m := Nat.lt_trans hs (hN.lt _ ht)
    have hfs := hN.fst s hsm
    have h1 := hN.up s _ hs (hN.lt _ ht)
    have h2 := hN.le _ ht
    rcases hA.stUp (F j) c hfj.1 hc (F s) (Nat.lt_of_lt_of_le h1 h2) with h0 | ⟨q', c', k1, k2, k3⟩
    · left
      have := hfs.2
      rw [h0, (hN.zero hA.wf.pos).1] at this
      exact this.symm
    · right
      have hq' : q' < A.n := by omega
      have hle := hN.le q' hq'
      have hl := hN.lt q' hq'
      refine ⟨num q', c', k1, ?_, ?_⟩
      · rcases Nat.lt_trichotomy (num q') j with h | h | h
        · exact .inl h
        · rw [h] at hle
          exact .inr ⟨h, by omega⟩
        · have := hN.up j _ h hl
          omega
      · rw [mrgS_nx hA hN hT hq' k1, k3]
        exact hfs.2
  stAll := fun j hj => by
    have hfj := hN.fst j hj
    obtain ⟨w, hw, hr⟩ := hA.stAll _ hfj.1
    refine ⟨w, hw, ?_⟩
    have := mrgS_run hA hN hT w 0 hA.wf.pos hw
    rw [(hN.zero hA.wf.pos).1, hr, hfj.2] at this
    exact this
theorem mrgS_min {A : Tb} {m : Nat} {num F : Nat → Nat} (hA : Pre A) (hN : Num1 A.n m num F) (hT : ∀ p q, p < A.n → q < A.n → (num p = num q ↔ Tel A A p q)) : ∀ i j, i < m → j < m → Tel (mrgS A m num F) (mrgS A m num F) i j → i = j := by
  intro i j hi hj h
  have fi := hN.fst i hi
  have fj := hN.fst j hj
  have ti := mrgS_tel hA hN hT fi.1
  have tj := mrgS_tel hA hN hT fj.1
  rw [fi.2] at ti
  rw [fj.2] at tj
  have := (hT _ _ fi.1 fj.1).mpr (ti.symm.trans (h.trans tj))
  rw [fi.2, fj.2] at this
  exact this

/-- One class for all that lead to the same states. -/
def mrgC (A : Tb) (k : Nat) (mg G : Nat → Nat) : Tb := ⟨A.n, k, fun b => mg (A.cl b), fun q e => A.nx q (G e), A.ac⟩
theorem mrgC_run {A : Tb} {k : Nat} {mg G : Nat → Nat} (hA : Pre A) (hN : Num1 A.k k mg G) (hT : ∀ c c', c < A.k → c' < A.k → (mg c = mg c' ↔ ∀ q, q < A.n → A.nx q c = A.nx q c')) :
    ∀ (w : List Nat) (s : Nat), s < A.n → Wd w → (mrgC A k mg G).run s w = A.run s w
  | [], _, _, _ => rfl
  | b :: w, s, hs, hw => by
    have hb := hw b (.head _)
    have hc := hA.wf.cls b hb
    have hf := hN.fst _ (hN.lt _ hc)
    have : (mrgC A k mg G).stp s b = A.stp s b := (hT _ _ hf.1 hc).mp hf.2 s hs
    rw [Tb.run_cons, Tb.run_cons, this]
    exact mrgC_run hA hN hT w _ (hA.wf.stp hs hb) fun x hx => hw x (.tail _ hx)
theorem mrgC_tel {A : Tb} {k : Nat} {mg G : Nat → Nat} (hA : Pre A) (hN : Num1 A.k k mg G) (hT : ∀ c c', c < A.k → c' < A.k → (mg c = mg c' ↔ ∀ q, q < A.n → A.nx q c = A.nx q c')) {s : Nat} (hs : s < A.n) : Tel (mrgC A k mg G) A s s := fun w hw => by
  rw [mrgC_run hA hN hT w s hs hw]; rfl

theorem mrgC_canon {A : Tb} {k : Nat} {mg G : Nat → Nat} (hA : Pre A) (hM : ∀ p q, p < A.n → q < A.n → Tel A A p q → p = q) (hN : Num1 A.k k mg G) (hT : ∀ c c', c < A.k → c' < A.k → (mg c = mg c' ↔ ∀ q, q < A.n → A.nx q c = A.nx q c')) : Canon2 (mrgC A k mg G) where
  wf := ⟨hA.wf.pos, fun b hb => hN.lt _ (hA.wf.cls b hb), fun q c hq hc => hA.wf.nxt q _ hq (hN.fst c hc).1⟩
  clUp := fun b hb e he => by
    have hc := hA.wf.cls b hb
    have hl := hN.lt _ hc
    have h1 := hN.up e _ he hl
    obtain ⟨b', k1, k2⟩ := hA.clUp b hb (G e) (Nat.lt_of_lt_of_le h1 (hN.le _ hc))
    exact ⟨b', k1, by show mg (A.cl b') = e; rw [k2]; exact (hN.fst e (Nat.lt_trans he hl)).2⟩
  clAll := fun e he => by
    obtain ⟨h1, h2⟩ := hN.fst e he
    obtain ⟨b, hb, k⟩ := hA.clAll _ h1
    exact ⟨b, hb, by show mg (A.cl b) = e; rw [k, h2]⟩
  stUp := fun q e hq he s hs => by
    obtain ⟨h1, h2⟩ := hN.fst e he
    rcases hA.stUp q (G e) hq h1 s hs with h0 | ⟨q', c', k1, k2, k3⟩
    · exact .inl h0
    · have hqA : q < A.n := hq
      have hl := hN.lt c' k1
      have hle := hN.le c' k1
      have hf := hN.fst _ hl
      refine .inr ⟨q', mg c', hl, ?_, ?_⟩
      · rcases k2 with k2 | ⟨k2, k4⟩
        · exact .inl k2
        · refine .inr ⟨k2, ?_⟩
          rcases Nat.lt_trichotomy (mg c') e with h | h | h
          · exact h
          · rw [h] at hle; omega
          · have := hN.up e _ h hl
            omega
      · show A.nx q' (G (mg c')) = s
        rw [(hT _ _ hf.1 k1).mp hf.2 q' (by omega), k3]
  stAll := fun q hq => by
    obtain ⟨w, hw, hr⟩ := hA.stAll q hq
    exact ⟨w, hw, by rw [mrgC_run hA hN hT w 0 hA.wf.pos hw, hr]⟩
  stMin := fun p q hp hq h => hM p q hp hq ((mrgC_tel hA hN hT hp).symm.trans (h.trans (mrgC_tel hA hN hT hq)))
  clMin := fun e e' he he' h => by
    have f1 := hN.fst e he
    have f2 := hN.fst e' he'
    have := (hT _ _ f1.1 f2.1).mpr h
    rw [f1.2, f2.2] at this
    exact this

end Go.Proofs.Ytjmajdfcfcgegaa
