import Derived.Test.YtjmajdfcfcgegaaMn6
namespace Go.Proofs.Ytjmajdfcfcgegaa

/-- P gives each state of R the least that is C to it. -/
def Lst (R : Nat → Prop) (C : Nat → Nat → Prop) (P : Nat → Nat) : Prop := ∀ q, R q → R (P q) ∧ C (P q) q ∧ ∀ p, R p → C p q → P q ≤ p
structure Equ (R : Nat → Prop) (C : Nat → Nat → Prop) : Prop where
  rfl' : ∀ q, R q → C q q
  symm : ∀ p q, R p → R q → C p q → C q p
  trans : ∀ p q r, R p → R q → R r → C p q → C q r → C p r
theorem Lst.eq_iff {R : Nat → Prop} {C : Nat → Nat → Prop} {P : Nat → Nat} (h : Lst R C P) (hC : Equ R C) {p q : Nat} (hp : R p) (hq : R q) : P p = P q ↔ C p q := by
  obtain ⟨p1, p2, p3⟩ := h p hp
  obtain ⟨q1, q2, q3⟩ := h q hq
  constructor
  · intro he
    rw [he] at p2
    exact hC.trans _ _ _ hp q1 hq (hC.symm _ _ q1 hp p2) q2
  · intro hpq
    have h1 := p3 _ q1 (hC.trans _ _ _ q1 hq hp q2 (hC.symm _ _ hp hq hpq))
    have h2 := q3 _ p1 (hC.trans _ _ _ p1 hp hq p2 hpq)
    omega
theorem Lst.le {R : Nat → Prop} {C : Nat → Nat → Prop} {P : Nat → Nat} (h : Lst R C P) (hC : Equ R C) {q : Nat} (hq : R q) : P q ≤ q := (h q hq).2.2 q hq (hC.rfl' q hq)
theorem Lst.idem {R : Nat → Prop} {C : Nat → Nat → Prop} {P : Nat → Nat} (h : Lst R C P) (hC : Equ R C) {q : Nat} (hq : R q) : P (P q) = P q := (h.eq_iff hC (h q hq).1 hq).mpr (h q hq).2.1

/-- The first p before q that is of R, passes the look L, and is C to q; q itself if there is none. -/
def FstIn (R : Nat → Prop) (L : Nat → Prop) (C : Nat → Nat → Prop) (q v : Nat) : Prop :=
  (v < q ∧ R v ∧ L v ∧ C v q ∧ ∀ p, p < v → R p → L p → ¬ C p q) ∨ (v = q ∧ ∀ p, p < q → R p → L p → ¬ C p q)

theorem lst_of {R : Nat → Prop} {C : Nat → Nat → Prop} {L : Nat → Prop} {N : Nat → Nat} (hC : Equ R C) (hL : ∀ p, R p → N p = p → L p) (h : ∀ q, R q → FstIn R L C q (N q)) : Lst R C N := by
  intro q
  induction q using Nat.strongRecOn with
  | _ q ih =>
    intro hq
    have low : ∀ p, p < q → R p → C p q → ∃ l, l ≤ p ∧ R l ∧ L l ∧ C l q := by
      intro p hp rp hpq
      obtain ⟨a1, a2, a3⟩ := ih p hp rp
      have hle := a3 p rp (hC.rfl' p rp)
      obtain ⟨b1, b2, b3⟩ := ih (N p) (by omega) a1
      have h1 := b3 _ a1 (hC.rfl' _ a1)
      have h2 := a3 _ b1 (hC.trans _ _ _ b1 a1 rp b2 a2)
      exact ⟨N p, hle, a1, hL _ a1 (by omega), hC.trans _ _ _ a1 rp hq a2 hpq⟩
    rcases h q hq with ⟨k1, k2, k3, k4, k5⟩ | ⟨k1, k2⟩
    · refine ⟨k2, k4, fun p rp hp => ?_⟩
      apply Classical.byContradiction
      intro hlt
      obtain ⟨l, l1, l2, l3, l4⟩ := low p (by omega) rp hp
      exact k5 l (by omega) l2 l3 l4
    · rw [k1]
      refine ⟨hq, hC.rfl' q hq, fun p rp hp => ?_⟩
      apply Classical.byContradiction
      intro hlt
      obtain ⟨l, l1, l2, l3, l4⟩ := low p (by omega) rp hp
      exact k2 l (by omega) l2 l3 l4

/-- One round more: what the states do by one class. -/
def rnd (A : Tb) (C : Nat → Nat → Prop) (p q : Nat) : Prop := C p q ∧ ∀ c, c < A.k → C (A.nx p c) (A.nx q c)
theorem Tb.Rch.nx {A : Tb} (hf : A.Full) {q c : Nat} (h : A.Rch q) (hc : c < A.k) : A.Rch (A.nx q c) := by
  obtain ⟨b, hb, rfl⟩ := hf c hc
  exact h.stp hb
theorem Equ.rnd {A : Tb} {C : Nat → Nat → Prop} (hf : A.Full) (h : Equ A.Rch C) : Equ A.Rch (rnd A C) where
  rfl' := fun q hq => ⟨h.rfl' q hq, fun _ hc => h.rfl' _ (hq.nx hf hc)⟩
  symm := fun p q hp hq k => ⟨h.symm p q hp hq k.1, fun c hc => h.symm _ _ (hp.nx hf hc) (hq.nx hf hc) (k.2 c hc)⟩
  trans := fun p q r hp hq hr k l => ⟨h.trans p q r hp hq hr k.1 l.1, fun c hc => h.trans _ _ _ (hp.nx hf hc) (hq.nx hf hc) (hr.nx hf hc) (k.2 c hc) (l.2 c hc)⟩

/-- The rounds: C is what the states are alike in so far. -/
structure Rds (A : Tb) (C : Nat → Nat → Prop) (P : Nat → Nat) : Prop where
  equ : Equ A.Rch C
  lst : Lst A.Rch C P
  ac : ∀ p q, A.Rch p → A.Rch q → C p q → A.ac p = A.ac q
  tel : ∀ p q, A.Rch p → A.Rch q → Tel A A p q → C p q
theorem equ_ac (A : Tb) : Equ A.Rch fun p q => A.ac p = A.ac q := ⟨fun _ _ => rfl, fun _ _ _ _ h => h.symm, fun _ _ _ _ _ _ h g => h.trans g⟩
theorem Rds.start {A : Tb} {P : Nat → Nat} (h : ∀ q, A.Rch q → FstIn A.Rch (fun _ => True) (fun p q => A.ac p = A.ac q) q (P q)) : Rds A (fun p q => A.ac p = A.ac q) P :=
  ⟨equ_ac A, lst_of (equ_ac A) (fun _ _ _ => trivial) h, fun _ _ _ _ h => h, fun _ _ _ _ h => h.ac⟩
theorem Rds.next {A : Tb} {C : Nat → Nat → Prop} {P N : Nat → Nat} (h : Rds A C P) (hf : A.Full)
    (hN : ∀ q, A.Rch q → FstIn A.Rch (fun p => N p = p) (fun p q => P p = P q ∧ ∀ c, c < A.k → P (A.nx p c) = P (A.nx q c)) q (N q)) : Rds A (rnd A C) N := by
  have hi : ∀ {p q : Nat}, A.Rch p → A.Rch q → ((P p = P q ∧ ∀ c, c < A.k → P (A.nx p c) = P (A.nx q c)) ↔ rnd A C p q) := fun {p q} hp hq =>
    ⟨fun k => ⟨(h.lst.eq_iff h.equ hp hq).mp k.1, fun c hc => (h.lst.eq_iff h.equ (hp.nx hf hc) (hq.nx hf hc)).mp (k.2 c hc)⟩,
     fun k => ⟨(h.lst.eq_iff h.equ hp hq).mpr k.1, fun c hc => (h.lst.eq_iff h.equ (hp.nx hf hc) (hq.nx hf hc)).mpr (k.2 c hc)⟩⟩
  refine ⟨h.equ.rnd hf, lst_of (L := fun p => N p = p) (h.equ.rnd hf) (fun _ _ k => k) (fun q hq => ?_), fun p q hp hq k => h.ac p q hp hq k.1, fun p q hp hq k => ⟨h.tel p q hp hq k, fun c hc => h.tel _ _ (hp.nx hf hc) (hq.nx hf hc) (k.nx hf hc)⟩⟩
  rcases hN q hq with ⟨k1, k2, k3, k4, k5⟩ | ⟨k1, k2⟩
  · exact .inl ⟨k1, k2, k3, (hi k2 hq).mp k4, fun p hp rp lp hc => k5 p hp rp lp ((hi rp hq).mpr hc)⟩
  · exact .inr ⟨k1, fun p hp rp lp hc => k2 p hp rp lp ((hi rp hq).mpr hc)⟩

/-- A round that changes nothing is the last. -/
theorem Rds.fin {A : Tb} {C : Nat → Nat → Prop} {P N : Nat → Nat} (h : Rds A C P) (g : Rds A (rnd A C) N) (hw0 : A.Wf) (he : ∀ q, A.Rch q → N q = P q) : Fst A P := by
  have hC : ∀ p q, A.Rch p → A.Rch q → C p q → rnd A C p q := fun p q hp hq k => (g.lst.eq_iff g.equ hp hq).mp (by rw [he p hp, he q hq]; exact (h.lst.eq_iff h.equ hp hq).mpr k)
  have hT : ∀ (w : List Nat) (p q : Nat), A.Rch p → A.Rch q → C p q → Wd w → A.ac (A.run p w) = A.ac (A.run q w) := by
    intro w
    induction w with
    | nil => intro p q hp hq k _; exact h.ac p q hp hq k
    | cons b w ih =>
      intro p q hp hq k hw
      have hb := hw b (.head _)
      exact ih _ _ (hp.stp hb) (hq.stp hb) ((hC p q hp hq k).2 _ (hw0.cls b hb)) fun x hx => hw x (.tail _ hx)
  exact ⟨fun q hq => (h.lst q hq).1, fun q hq w hw => hT w _ _ (h.lst q hq).1 hq (h.lst q hq).2.1 hw, fun p q hp hq k => (h.lst.eq_iff h.equ hp hq).mpr (h.tel p q hp hq k)⟩

end Go.Proofs.Ytjmajdfcfcgegaa
