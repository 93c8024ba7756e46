import Derived.Test.YtjmajdfcfcgegaaMn4
namespace Go.Proofs.Ytjmajdfcfcgegaa

def Tb.Rch (A : Tb) (q : Nat) : Prop := ∃ w, Wd w ∧ A.run 0 w = q
theorem Tb.Rch.zero (A : Tb) : A.Rch 0 := ⟨[], Wd.nil, rfl⟩
theorem Tb.Rch.stp {A : Tb} {q b : Nat} (h : A.Rch q) (hb : b < 256) : A.Rch (A.stp q b) := by
  obtain ⟨w, hw, rfl⟩ := h
  exact ⟨w ++ [b], hw.app (Wd.nil.cons hb), A.run_snoc 0 b w⟩
theorem Tb.Rch.lt {A : Tb} {q : Nat} (h : A.Rch q) (hw : A.Wf) : q < A.n := by
  obtain ⟨w, h1, rfl⟩ := h
  exact hw.run w 0 hw.pos h1
theorem Tel.rfl' (A : Tb) (q : Nat) : Tel A A q q := fun _ _ => rfl

/-- The first of the reached states that no line tells apart from q. -/
structure Fst (A : Tb) (P : Nat → Nat) : Prop where
  rch : ∀ q, A.Rch q → A.Rch (P q)
  tel : ∀ q, A.Rch q → Tel A A (P q) q
  one : ∀ p q, A.Rch p → A.Rch q → Tel A A p q → P p = P q
theorem Fst.idem {A : Tb} {P : Nat → Nat} (h : Fst A P) {q : Nat} (hq : A.Rch q) : P (P q) = P q := h.one _ _ (h.rch q hq) hq (h.tel q hq)

/-- Bytes that lead all reached states to states that no line tells apart. -/
def SmB (A : Tb) (b b' : Nat) : Prop := ∀ q, A.Rch q → Tel A A (A.stp q b) (A.stp q b')

structure SpecT (A : Tb) (P : Nat → Nat) (k : Nat) (cls rep : Nat → Nat) (o ys : List Nat) : Prop where
  wf : A.Wf
  fst : Fst A P
  num : Num1 256 k cls rep
  sm : ∀ b b', b < 256 → b' < 256 → (cls b = cls b' ↔ SmB A b b')
  bfs : Bfs k (fun q e => P (A.stp q (rep e))) (P 0) o ys
  len : ys.length = o.length * k

theorem SpecT.pre {A : Tb} {P : Nat → Nat} {k : Nat} {cls rep : Nat → Nat} {o ys : List Nat} (h : SpecT A P k cls rep o ys) : Pre (bfsT k cls A.ac o ys) :=
  bfs_pre h.bfs h.len h.num.lt (fun b hb c hc => by
    have hl := h.num.lt b hb
    have hf := h.num.fst c (Nat.lt_trans hc hl)
    exact ⟨rep c, Nat.lt_of_lt_of_le (h.num.up c _ hc hl) (h.num.le b hb), hf.2⟩) fun c hc => ⟨rep c, h.num.fst c hc⟩

/-- Where the table goes by a byte. -/
theorem SpecT.go {A : Tb} {P : Nat → Nat} {k : Nat} {cls rep : Nat → Nat} {o ys : List Nat} (h : SpecT A P k cls rep o ys) {q x b : Nat} (hq : o[q]? = some x) (hx : A.Rch x) (hb : b < 256) :
    ∃ y, o[(bfsT k cls A.ac o ys).stp q b]? = some y ∧ A.Rch y ∧ Tel A A y (A.stp x b) ∧ P y = y := by
  have hl := h.num.lt b hb
  have hf := h.num.fst _ hl
  have hr := hx.stp hf.1
  refine ⟨_, bfs_nx h.bfs h.len hq hl, h.fst.rch _ hr, ?_, h.fst.idem hr⟩
  exact (h.fst.tel _ hr).trans ((h.sm _ b hf.1 hb).mp hf.2 x hx)
theorem SpecT.runs {A : Tb} {P : Nat → Nat} {k : Nat} {cls rep : Nat → Nat} {o ys : List Nat} (h : SpecT A P k cls rep o ys) :
    ∀ (w : List Nat) (q x : Nat), o[q]? = some x → A.Rch x → P x = x → Wd w → ∃ y, o[(bfsT k cls A.ac o ys).run q w]? = some y ∧ A.Rch y ∧ Tel A A y (A.run x w) ∧ P y = y
  | [], _, x, hq, hx, hp, _ => ⟨x, hq, hx, Tel.rfl' A x, hp⟩
  | b :: w, q, x, hq, hx, _, hw => by
    obtain ⟨y, y1, y2, y3, y4⟩ := h.go hq hx (hw b (.head _))
    obtain ⟨z, z1, z2, z3, z4⟩ := h.runs w _ y y1 y2 y4 fun v hv => hw v (.tail _ hv)
    exact ⟨z, z1, z2, z3.trans (Tel.run w y3 fun v hv => hw v (.tail _ hv)), z4⟩
theorem SpecT.tel {A : Tb} {P : Nat → Nat} {k : Nat} {cls rep : Nat → Nat} {o ys : List Nat} (h : SpecT A P k cls rep o ys) {q x : Nat} (hq : o[q]? = some x) (hx : A.Rch x) (hp : P x = x) : Tel (bfsT k cls A.ac o ys) A q x := fun w hw => by
  obtain ⟨y, y1, -, y3, -⟩ := h.runs w q x hq hx hp hw
  rw [← y3.ac]
  show (o[_]?.map A.ac).getD false = _
  rw [y1]; rfl
theorem SpecT.start {A : Tb} {P : Nat → Nat} {k : Nat} {cls rep : Nat → Nat} {o ys : List Nat} (h : SpecT A P k cls rep o ys) : Tel (bfsT k cls A.ac o ys) A 0 0 :=
  (h.tel h.bfs.z (h.fst.rch 0 (Tb.Rch.zero A)) (h.fst.idem (Tb.Rch.zero A))).trans (h.fst.tel 0 (Tb.Rch.zero A))
/-- What stands in the order: reached, and the first of its kind. -/
theorem SpecT.at {A : Tb} {P : Nat → Nat} {k : Nat} {cls rep : Nat → Nat} {o ys : List Nat} (h : SpecT A P k cls rep o ys) {q : Nat} (hq : q < o.length) : ∃ x, o[q]? = some x ∧ A.Rch x ∧ P x = x := by
  obtain ⟨w, hw, hr⟩ := h.pre.stAll q hq
  obtain ⟨y, y1, y2, -, y4⟩ := h.runs w 0 (P 0) h.bfs.z (h.fst.rch 0 (Tb.Rch.zero A)) (h.fst.idem (Tb.Rch.zero A)) hw
  rw [hr] at y1
  exact ⟨y, y1, y2, y4⟩

/-- The model's table is the smallest. -/
theorem SpecT.canon {A : Tb} {P : Nat → Nat} {k : Nat} {cls rep : Nat → Nat} {o ys : List Nat} (h : SpecT A P k cls rep o ys) : Canon2 (bfsT k cls A.ac o ys) where
  wf := h.pre.wf
  clUp := h.pre.clUp
  clAll := h.pre.clAll
  stUp := h.pre.stUp
  stAll := h.pre.stAll
  stMin := fun i j hi hj ht => by
    obtain ⟨x, x1, x2, x3⟩ := h.at hi
    obtain ⟨y, y1, y2, y3⟩ := h.at hj
    have := h.fst.one x y x2 y2 ((h.tel x1 x2 x3).symm.trans (ht.trans (h.tel y1 y2 y3)))
    rw [x3, y3] at this
    exact h.bfs.nd i j hi hj (by rw [x1, y1, this])
  clMin := fun e e' he he' ht => by
    have f1 := h.num.fst e he
    have f2 := h.num.fst e' he'
    have : SmB A (rep e) (rep e') := by
      intro q hq
      obtain ⟨w, hw, rfl⟩ := hq
      obtain ⟨y, y1, y2, y3, y4⟩ := h.runs w 0 (P 0) h.bfs.z (h.fst.rch 0 (Tb.Rch.zero A)) (h.fst.idem (Tb.Rch.zero A)) hw
      have yq : Tel A A y (A.run 0 w) := y3.trans (Tel.run w (h.fst.tel 0 (Tb.Rch.zero A)) hw)
      have n1 := bfs_nx (cl := cls) (ac := A.ac) h.bfs h.len y1 he
      have n2 := bfs_nx (cl := cls) (ac := A.ac) h.bfs h.len y1 he'
      rw [ht _ (get_lt y1), n2] at n1
      have n3 : P (A.stp y (rep e')) = P (A.stp y (rep e)) := Option.some.inj n1
      have t1 := h.fst.tel _ (y2.stp f1.1)
      have t2 := h.fst.tel _ (y2.stp f2.1)
      rw [← n3] at t1
      exact (yq.stp f1.1).symm.trans (t1.symm.trans (t2.trans (yq.stp f2.1)))
    have := (h.sm _ _ f1.1 f2.1).mpr this
    rw [f1.2, f2.2] at this
    exact this

end Go.Proofs.Ytjmajdfcfcgegaa
