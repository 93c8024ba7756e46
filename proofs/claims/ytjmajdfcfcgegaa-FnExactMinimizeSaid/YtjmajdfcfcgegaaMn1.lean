import Derived.Test.YtjmajdfcfcgegaaR1
namespace Go.Proofs.Ytjmajdfcfcgegaa

/-- A table: states, classes, the class of a byte, where a state goes by a class, and which states accept. -/
structure Tb where
  n : Nat
  k : Nat
  cl : Nat → Nat
  nx : Nat → Nat → Nat
  ac : Nat → Bool
structure Tb.Wf (A : Tb) : Prop where
  pos : 0 < A.n
  cls : ∀ b, b < 256 → A.cl b < A.k
  nxt : ∀ q c, q < A.n → c < A.k → A.nx q c < A.n
def Tb.stp (A : Tb) (q b : Nat) : Nat := A.nx q (A.cl b)
def Tb.run (A : Tb) (q : Nat) (w : List Nat) : Nat := w.foldl A.stp q
/-- A line. -/
def Wd (w : List Nat) : Prop := ∀ b ∈ w, b < 256
theorem Wd.nil : Wd [] := fun _ h => by cases h
theorem Wd.cons {b : Nat} {w : List Nat} (hb : b < 256) (h : Wd w) : Wd (b :: w) := fun x hx => by
  cases hx with
  | head => exact hb
  | tail _ hx => exact h x hx
theorem Wd.app {v w : List Nat} (hv : Wd v) (hw : Wd w) : Wd (v ++ w) := fun x hx => (List.mem_append.mp hx).elim (hv x) (hw x)
theorem Tb.run_cons (A : Tb) (q b : Nat) (w : List Nat) : A.run q (b :: w) = A.run (A.stp q b) w := rfl
theorem Tb.run_app (A : Tb) (q : Nat) (v w : List Nat) : A.run q (v ++ w) = A.run (A.run q v) w := List.foldl_append ..
theorem Tb.run_snoc (A : Tb) (q b : Nat) (v : List Nat) : A.run q (v ++ [b]) = A.stp (A.run q v) b := by rw [A.run_app]; rfl
theorem Tb.Wf.stp {A : Tb} (h : A.Wf) {q b : Nat} (hq : q < A.n) (hb : b < 256) : A.stp q b < A.n := h.nxt _ _ hq (h.cls b hb)
theorem Tb.Wf.run {A : Tb} (h : A.Wf) : ∀ (w : List Nat) (q : Nat), q < A.n → Wd w → A.run q w < A.n
  | [], _, hq, _ => hq
  | b :: w, _, hq, hw => h.run w _ (h.stp hq (hw b (.head _))) fun x hx => hw x (.tail _ hx)

/-- No line tells p, a state of A, from q, a state of B. -/
def Tel (A B : Tb) (p q : Nat) : Prop := ∀ w, Wd w → A.ac (A.run p w) = B.ac (B.run q w)
theorem Tel.symm {A B : Tb} {p q : Nat} (h : Tel A B p q) : Tel B A q p := fun w hw => (h w hw).symm
theorem Tel.trans {A B C : Tb} {p q r : Nat} (h : Tel A B p q) (g : Tel B C q r) : Tel A C p r := fun w hw => (h w hw).trans (g w hw)
theorem Tel.stp {A B : Tb} {p q b : Nat} (h : Tel A B p q) (hb : b < 256) : Tel A B (A.stp p b) (B.stp q b) := fun w hw => h (b :: w) (hw.cons hb)
theorem Tel.run {A B : Tb} : ∀ (w : List Nat) {p q : Nat}, Tel A B p q → Wd w → Tel A B (A.run p w) (B.run q w)
  | [], _, _, h, _ => h
  | b :: w, _, _, h, hw => Tel.run w (h.stp (hw b (.head _))) fun x hx => hw x (.tail _ hx)
theorem Tel.ac {A B : Tb} {p q : Nat} (h : Tel A B p q) : A.ac p = B.ac q := h [] Wd.nil

/-- The smallest table, numbered breadth first: one for each language (canon_one). -/
structure Canon2 (A : Tb) : Prop where
  wf : A.Wf
  clUp : ∀ b, b < 256 → ∀ c, c < A.cl b → ∃ b', b' < b ∧ A.cl b' = c
  clAll : ∀ c, c < A.k → ∃ b, b < 256 ∧ A.cl b = c
  stUp : ∀ q c, q < A.n → c < A.k → ∀ s, s < A.nx q c → s = 0 ∨ ∃ q' c', c' < A.k ∧ (q' < q ∨ (q' = q ∧ c' < c)) ∧ A.nx q' c' = s
  stAll : ∀ q, q < A.n → ∃ w, Wd w ∧ A.run 0 w = q
  stMin : ∀ p q, p < A.n → q < A.n → Tel A A p q → p = q
  clMin : ∀ c c', c < A.k → c' < A.k → (∀ q, q < A.n → A.nx q c = A.nx q c') → c = c'

/-- A state but the first is met from one before it. -/
theorem Canon2.met {A : Tb} (h : Canon2 A) {q : Nat} (hq : q < A.n) (h0 : 0 < q) : ∃ q' c', q' < q ∧ c' < A.k ∧ A.nx q' c' = q := by
  apply Classical.byContradiction
  intro hno
  obtain ⟨w, hw, hr⟩ := h.stAll q hq
  have key : ∀ (w : List Nat) (s : Nat), s < q → Wd w → A.run s w < q := by
    intro w
    induction w with
    | nil => intro s hs _; exact hs
    | cons b w ih =>
      intro s hs hw
      have hb := hw b (.head _)
      refine ih _ ?_ fun x hx => hw x (.tail _ hx)
      have hc := h.wf.cls b hb
      apply Classical.byContradiction
      intro hge
      have hne : A.nx s (A.cl b) ≠ q := fun he => hno ⟨s, A.cl b, hs, hc, he⟩
      have hlt : q < A.nx s (A.cl b) := by
        have : ¬ A.nx s (A.cl b) < q := hge
        omega
      rcases h.stUp s _ (Nat.lt_trans hs hq) hc q hlt with h1 | ⟨q', c', k1, k2, k3⟩
      · omega
      · exact hno ⟨q', c', by omega, k1, k3⟩
  have := key w 0 h0 hw
  omega

theorem Canon2.fn {A B : Tb} (hB : Canon2 B) {p q q' : Nat} (hq : q < B.n) (hq' : q' < B.n) (h : Tel A B p q) (g : Tel A B p q') : q = q' := hB.stMin q q' hq hq' (h.symm.trans g)

/-- Bytes that one table does not tell apart the other does not, either. -/
theorem Canon2.cls {A B : Tb} (_hA : Canon2 A) (hB : Canon2 B) (h0 : Tel A B 0 0) {b b' : Nat} (hb : b < 256) (hb' : b' < 256) (he : A.cl b = A.cl b') : B.cl b = B.cl b' := by
  refine hB.clMin _ _ (hB.wf.cls b hb) (hB.wf.cls b' hb') fun q hq => ?_
  obtain ⟨w, hw, rfl⟩ := hB.stAll q hq
  have hr := Tel.run w h0 hw
  have h1 := hr.stp hb
  have h2 := hr.stp hb'
  have he' : A.stp (A.run 0 w) b = A.stp (A.run 0 w) b' := by simp only [Tb.stp, he]
  rw [he'] at h1
  exact hB.fn (hB.wf.stp hq hb) (hB.wf.stp hq hb') h1 h2

theorem canon_cl {A B : Tb} (hA : Canon2 A) (hB : Canon2 B) (h0 : Tel A B 0 0) : ∀ b, b < 256 → A.cl b = B.cl b := by
  intro b
  induction b using Nat.strongRecOn with
  | _ b ih =>
    intro hb
    rcases Nat.lt_trichotomy (A.cl b) (B.cl b) with h | h | h
    · obtain ⟨b', k1, k2⟩ := hB.clUp b hb _ h
      have k3 := ih b' k1 (by omega)
      have := hA.cls hB h0 (b := b') (b' := b) (by omega) hb (by omega)
      omega
    · exact h
    · obtain ⟨b', k1, k2⟩ := hA.clUp b hb _ h
      have k3 := ih b' k1 (by omega)
      have := hB.cls hA h0.symm (b := b') (b' := b) (by omega) hb (by omega)
      omega

theorem canon_k {A B : Tb} (hA : Canon2 A) (hB : Canon2 B) (h0 : Tel A B 0 0) : A.k = B.k := by
  have hc := canon_cl hA hB h0
  rcases Nat.lt_trichotomy A.k B.k with h | h | h
  · obtain ⟨b, hb, he⟩ := hB.clAll _ h
    have := hA.wf.cls b hb
    have := hc b hb
    omega
  · exact h
  · obtain ⟨b, hb, he⟩ := hA.clAll _ h
    have := hB.wf.cls b hb
    have := hc b hb
    omega

theorem canon_row {A B : Tb} (hA : Canon2 A) (hB : Canon2 B) (h0 : Tel A B 0 0) : ∀ q, q < A.n → q < B.n → Tel A B q q ∧ ∀ c, c < A.k → A.nx q c = B.nx q c := by
  have hcl := canon_cl hA hB h0
  have hk := canon_k hA hB h0
  have step : ∀ {q c : Nat}, Tel A B q q → c < A.k → Tel A B (A.nx q c) (B.nx q c) := by
    intro q c h hc
    obtain ⟨b, hb, he⟩ := hA.clAll c hc
    have := h.stp hb
    simp only [Tb.stp] at this
    rw [← hcl b hb, he] at this
    exact this
  intro q
  induction q using Nat.strongRecOn with
  | _ q ih =>
    intro qA qB
    have hT : Tel A B q q := by
      by_cases hz : q = 0
      · subst hz; exact h0
      · obtain ⟨q', c', k1, k2, k3⟩ := hA.met qA (by omega)
        obtain ⟨t, e⟩ := ih q' k1 (by omega) (by omega)
        have := step t k2
        rw [← e c' k2, k3] at this
        exact this
    refine ⟨hT, fun c => ?_⟩
    induction c using Nat.strongRecOn with
    | _ c ihc =>
      intro hc
      have hst := step hT hc
      have nA := hA.wf.nxt q c qA hc
      have nB := hB.wf.nxt q c qB (by omega)
      rcases Nat.lt_trichotomy (A.nx q c) (B.nx q c) with h | h | h
      · have hss : Tel A B (A.nx q c) (A.nx q c) := by
          rcases hB.stUp q c qB (by omega) _ h with hz | ⟨q', c', k1, k2, k3⟩
          · rw [hz]; exact h0
          · rcases k2 with k2 | ⟨rfl, k2⟩
            · obtain ⟨t, e⟩ := ih q' k2 (by omega) (by omega)
              have := step t (c := c') (by omega)
              rw [e c' (by omega), k3] at this
              exact this
            · have := step hT (c := c') (by omega)
              rw [ihc c' k2 (by omega), k3] at this
              exact this
        exact hB.fn (by omega) nB hss hst
      · exact h
      · have hss : Tel A B (B.nx q c) (B.nx q c) := by
          rcases hA.stUp q c qA hc _ h with hz | ⟨q', c', k1, k2, k3⟩
          · rw [hz]; exact h0
          · rcases k2 with k2 | ⟨rfl, k2⟩
            · obtain ⟨t, e⟩ := ih q' k2 (by omega) (by omega)
              have := step t (c := c') k1
              rw [← e c' k1, k3] at this
              exact this
            · have := step hT (c := c') k1
              rw [← ihc c' k2 k1, k3] at this
              exact this
        exact hA.fn nA (by omega) hst.symm hss.symm

theorem canon_n {A B : Tb} (hA : Canon2 A) (hB : Canon2 B) (h0 : Tel A B 0 0) : A.n = B.n := by
  have hk := canon_k hA hB h0
  have a0 := hA.wf.pos
  have b0 := hB.wf.pos
  rcases Nat.lt_trichotomy A.n B.n with h | h | h
  · obtain ⟨q', c', k1, k2, k3⟩ := hB.met h a0
    have := (canon_row hA hB h0 q' k1 (by omega)).2 c' (by omega)
    have := hA.wf.nxt q' c' k1 (by omega)
    omega
  · exact h
  · obtain ⟨q', c', k1, k2, k3⟩ := hA.met h b0
    have := (canon_row hA hB h0 q' (by omega) k1).2 c' k2
    have := hB.wf.nxt q' c' k1 (by omega)
    omega

/-- The smallest table is one for each language. -/
theorem canon_one {A B : Tb} (hA : Canon2 A) (hB : Canon2 B) (h0 : Tel A B 0 0) : A.n = B.n ∧ A.k = B.k ∧ (∀ b, b < 256 → A.cl b = B.cl b) ∧ (∀ q c, q < A.n → c < A.k → A.nx q c = B.nx q c) ∧ ∀ q, q < A.n → A.ac q = B.ac q := by
  have hn := canon_n hA hB h0
  exact ⟨hn, canon_k hA hB h0, canon_cl hA hB h0, fun q c hq hc => (canon_row hA hB h0 q hq (by omega)).2 c hc, fun q hq => (canon_row hA hB h0 q hq (by omega)).1.ac⟩

end Go.Proofs.Ytjmajdfcfcgegaa
