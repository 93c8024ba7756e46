import Derived.Test.YtjjmgegbeccjoaaPk6
import Derived.Test.YtjjmgegbeccjoaaC3
namespace Go.Proofs.Ytjjmgegbeccjoaa

def cap (n : Int) : Int := if 500 < n then 501 else n
def repSize (c mn mx : Int) : Int := if mx = -1 then (if mn < 1 then 1 else mn) * c + 1 else if mx = 0 then c else mn * c + (mx - mn) * (c + 1)

theorem cap_bd {n : Int} (h : 0 ≤ n) : 0 ≤ cap n ∧ cap n ≤ 501 := by unfold cap; split <;> omega

/-- The sizes on the stack, top first, behind one element more. -/
def szPush (st : List Int) (x : El) : List Int :=
  if x.kind = 0 ∨ x.kind = 1 then 1 :: st else
  match st with
  | [] => []
  | [o] => if x.kind = 4 then [cap (repSize o x.mn x.mx)] else [o]
  | r :: l :: b => if x.kind = 4 then cap (repSize r x.mn x.mx) :: l :: b else cap (l + r) :: b
def szRun (st : List Int) : List El → List Int
  | [] => st
  | x :: r => szRun (szPush st x) r

theorem szRun_append (st : List Int) (a b : List El) : szRun st (a ++ b) = szRun (szRun st a) b := by
  induction a generalizing st with
  | nil => rfl
  | cons x r ih => simp [szRun, ih]

/-- A tree in postfix order, of size c. -/
structure SegM (seg : List El) (c : Int) : Prop where
  ne : 0 < seg.length
  ws : wsum seg = 1
  tl : ∀ k : Nat, 0 < k → k ≤ seg.length → wsum (seg.drop k) ≤ 0
  run : ∀ st, szRun st seg = c :: st
  bd : 0 ≤ c ∧ c ≤ 501

theorem SegM.leaf {x : El} (h : x.kind = 0 ∨ x.kind = 1) : SegM [x] 1 := by
  have hw : wt x = 1 := by unfold wt; rw [if_pos h]
  refine ⟨by simp, by simp [wsum, hw], fun k h0 h1 => ?_, fun st => ?_, by omega⟩
  · simp only [List.length_singleton] at h1
    obtain rfl : k = 1 := by omega
    simp [wsum]
  · simp only [szRun, szPush]; rw [if_pos h]

theorem SegM.bin {a b : List El} {ca cb : Int} {x : El} (ha : SegM a ca) (hb : SegM b cb) (h : x.kind = 2 ∨ x.kind = 3) : SegM (a ++ b ++ [x]) (cap (ca + cb)) := by
  have hx : wt x = -1 := by unfold wt; rw [if_neg (by omega), if_pos h]
  refine ⟨by simp; omega, by simp [wsum_append, ha.ws, hb.ws, wsum, hx], fun k h0 h1 => ?_, fun st => ?_, cap_bd (by have := ha.bd; have := hb.bd; omega)⟩
  · simp only [List.length_append, List.length_singleton] at h1
    rw [List.append_assoc, List.drop_append, wsum_append]
    by_cases hk : k ≤ a.length
    · have e : k - a.length = 0 := by omega
      have := ha.tl k h0 hk
      rw [e, List.drop_zero, wsum_append, hb.ws]
      simp [wsum, hx]; omega
    · rw [List.drop_eq_nil_of_le (by omega), List.drop_append, wsum_append]
      by_cases hk2 : k - a.length ≤ b.length
      · have e : k - a.length - b.length = 0 := by omega
        have := hb.tl (k - a.length) (by omega) hk2
        rw [e, List.drop_zero]
        simp [wsum, hx]; omega
      · rw [List.drop_eq_nil_of_le (show b.length ≤ k - a.length by omega), List.drop_eq_nil_of_le (by simp; omega)]
        simp [wsum]
  · rw [szRun_append, szRun_append, ha.run, hb.run]
    simp only [szRun, szPush]
    rw [if_neg (by omega), if_neg (by omega)]

theorem SegM.rep {a : List El} {ca : Int} {x : El} (ha : SegM a ca) (h : x.kind = 4) (o2 : 0 ≤ x.mn) (o4 : x.mx = -1 ∨ (x.mn ≤ x.mx ∧ x.mx ≤ 250)) : SegM (a ++ [x]) (cap (repSize ca x.mn x.mx)) := by
  have hx : wt x = 0 := by unfold wt; rw [if_neg (by omega), if_neg (by omega)]
  have hc := ha.bd
  refine ⟨by simp, by simp [wsum_append, ha.ws, wsum, hx], fun k h0 h1 => ?_, fun st => ?_, cap_bd ?_⟩
  · simp only [List.length_append, List.length_singleton] at h1
    rw [List.drop_append, wsum_append]
    by_cases hk : k ≤ a.length
    · have e : k - a.length = 0 := by omega
      have := ha.tl k h0 hk
      rw [e, List.drop_zero]
      simp [wsum, hx]; omega
    · rw [List.drop_eq_nil_of_le (by omega), List.drop_eq_nil_of_le (by simp; omega)]
      simp [wsum]
  · rw [szRun_append, ha.run]
    cases st with
    | nil => simp only [szRun, szPush]; rw [if_neg (by omega), if_pos h]
    | cons q st => simp only [szRun, szPush]; rw [if_neg (by omega), if_pos h]
  · unfold repSize
    split
    · have : 0 ≤ (if x.mn < 1 then 1 else x.mn) * ca := Int.mul_nonneg (by split <;> omega) hc.1
      omega
    · split
      · exact hc.1
      · have h1 : 0 ≤ x.mn * ca := Int.mul_nonneg o2 hc.1
        have h2 : 0 ≤ (x.mx - x.mn) * (ca + 1) := Int.mul_nonneg (by omega) (by omega)
        omega

/-- One element more on a stack of trees with their sizes, the last tree at the end. -/
def PushR (st : List (List El × Int)) (x : El) (st' : List (List El × Int)) : Prop :=
  ((x.kind = 0 ∨ x.kind = 1) ∧ st' = st ++ [([x], 1)]) ∨
  ((x.kind = 2 ∨ x.kind = 3) ∧ ∃ b l r, st = b ++ [l, r] ∧ st' = b ++ [(l.1 ++ r.1 ++ [x], cap (l.2 + r.2))]) ∨
  (x.kind = 4 ∧ ∃ b o, st = b ++ [o] ∧ st' = b ++ [(o.1 ++ [x], cap (repSize o.2 x.mn x.mx))])

def flats (st : List (List El × Int)) : List El := (st.map (fun s => s.1)).flatten

theorem flats_one (t : List El × Int) : flats [t] = t.1 := by simp [flats]
theorem wsum_flats {st : List (List El × Int)} (h : ∀ s ∈ st, wsum s.1 = 1) : wsum (flats st) = st.length := by
  induction st with
  | nil => rfl
  | cons t r ih =>
    have e : flats (t :: r) = t.1 ++ flats r := rfl
    rw [e, wsum_append, h t (by simp), ih (fun s hs => h s (by simp [hs]))]; simp; omega

theorem PushR.flats {st st' : List (List El × Int)} {x : El} (h : PushR st x st') : flats st' = flats st ++ [x] := by
  rcases h with ⟨-, rfl⟩ | ⟨-, b, l, r, rfl, rfl⟩ | ⟨-, b, o, rfl, rfl⟩ <;> simp [Ytjjmgegbeccjoaa.flats]

theorem snoc1 {st : List (List El × Int)} (h : 1 ≤ st.length) : ∃ b o, st = b ++ [o] := by
  rcases List.eq_nil_or_concat st with rfl | ⟨b, o, rfl⟩
  · simp at h
  · exact ⟨b, o, by simp⟩
theorem snoc2 {st : List (List El × Int)} (h : 2 ≤ st.length) : ∃ b l r, st = b ++ [l, r] := by
  obtain ⟨b, r, rfl⟩ := snoc1 (st := st) (by omega)
  obtain ⟨b', l, rfl⟩ := snoc1 (st := b) (by simp at h; omega)
  exact ⟨b', l, r, by simp⟩

theorem PushR.ex {st : List (List El × Int)} {x : El} (ok : ElOk x) (h : 1 ≤ (st.length : Int) + wt x) : ∃ st', PushR st x st' := by
  rcases ok with ⟨q1, q2, q3, q4⟩ | ⟨q1 | q1, q2, q3, q4⟩ | ⟨q1, q2, q3, q4, q5⟩
  · exact ⟨_, Or.inl ⟨Or.inr q1, rfl⟩⟩
  · exact ⟨_, Or.inl ⟨Or.inl q1, rfl⟩⟩
  · obtain ⟨b, l, r, rfl⟩ := snoc2 (st := st) (by have e : wt x = -1 := by unfold wt; rw [if_neg (by omega), if_pos q1]
                                                  omega)
    exact ⟨_, Or.inr (Or.inl ⟨q1, b, l, r, rfl, rfl⟩)⟩
  · obtain ⟨b, o, rfl⟩ := snoc1 (st := st) (by have e : wt x = 0 := by unfold wt; rw [if_neg (by omega), if_neg (by omega)]
                                               omega)
    exact ⟨_, Or.inr (Or.inr ⟨q1, b, o, rfl, rfl⟩)⟩

theorem PushR.seg {st st' : List (List El × Int)} {x : El} (h : PushR st x st') (ok : ElOk x) (hs : ∀ s ∈ st, SegM s.1 s.2) : ∀ s ∈ st', SegM s.1 s.2 := by
  rcases h with ⟨hk, rfl⟩ | ⟨hk, b, l, r, rfl, rfl⟩ | ⟨hk, b, o, rfl, rfl⟩
  · intro s hm; simp only [List.mem_append, List.mem_singleton] at hm; rcases hm with hm | rfl
    · exact hs s hm
    · exact SegM.leaf hk
  · intro s hm; simp only [List.mem_append, List.mem_singleton] at hm; rcases hm with hm | rfl
    · exact hs s (by simp [hm])
    · exact SegM.bin (hs l (by simp)) (hs r (by simp)) hk
  · intro s hm; simp only [List.mem_append, List.mem_singleton] at hm; rcases hm with hm | rfl
    · exact hs s (by simp [hm])
    · rcases ok with ⟨q1, q2, q3, q4⟩ | ⟨q1, q2, q3, q4⟩ | ⟨q1, q2, q3, q4, q5⟩
      · omega
      · omega
      · exact SegM.rep (hs o (by simp)) hk q3 q5

theorem take_next {xs : List El} {k : Nat} (hk : k < xs.length) : xs.take (k + 1) = xs.take k ++ [xs[k]?.getD dE] := by
  rw [List.take_add_one, List.getElem?_eq_getElem hk]; rfl

/-- A valid tree, as the document says it. -/
def ValidT (xs : List El) : Prop :=
  (1 ≤ xs.length ∧ xs.length ≤ 3000) ∧ (∀ i : Nat, i < xs.length → ElOk (xs[i]?.getD dE)) ∧ Shape xs ∧ ∃ c, szRun [] xs = [c] ∧ c ≤ 500


/-! A pattern's text as tokens, its grammar, and how a list of tokens is split at its last place. -/
/-- A token: a set, a repetition, a group opened (true) or closed (false), a bar. -/
abbrev Tk := List Int ⊕ (Int × Int) ⊕ Bool ⊕ Unit
/-- A tree in postfix order, and its size. -/
structure Tr where
  l : List El
  n : Int
def Tr.e : Tr := ⟨[⟨0, [], 0, 0⟩], 1⟩
def Tr.s (cs : List Int) : Tr := ⟨[⟨1, cs, 0, 0⟩], 1⟩
def Tr.cat (a b : Tr) : Tr := ⟨a.l ++ b.l ++ [⟨2, [], 0, 0⟩], cap (a.n + b.n)⟩
def Tr.alt (a b : Tr) : Tr := ⟨a.l ++ b.l ++ [⟨3, [], 0, 0⟩], cap (a.n + b.n)⟩
def Tr.rep (a : Tr) (lo hi : Int) : Tr := ⟨a.l ++ [⟨4, [], lo, hi⟩], cap (repSize a.n lo hi)⟩
/-- What is closed under the grammar: 0 an atom, 1 an item, 2 items one behind another, 3 alternatives. -/
structure GrC (P : Nat → List Tk → Tr → Prop) : Prop where
  set : ∀ cs : List Int, P 0 [.inl cs] (.s cs)
  grp : ∀ {ts : List Tk} {T : Tr}, P 3 ts T → P 0 (.inr (.inr (.inl true)) :: (ts ++ [.inr (.inr (.inl false))])) T
  atm : ∀ {ts : List Tk} {T : Tr}, P 0 ts T → P 1 ts T
  rep : ∀ {ts : List Tk} {T : Tr} (lo hi : Int), P 0 ts T → P 1 (ts ++ [.inr (.inl (lo, hi))]) (.rep T lo hi)
  one : ∀ {ts : List Tk} {T : Tr}, P 1 ts T → P 2 ts T
  more : ∀ {us vs : List Tk} {A B : Tr}, P 2 us A → P 1 vs B → P 2 (us ++ vs) (.cat A B)
  nil : P 3 [] .e
  cat : ∀ {ts : List Tk} {T : Tr}, P 2 ts T → P 3 ts T
  alt0 : ∀ {us : List Tk} {A : Tr}, P 3 us A → P 3 (us ++ [.inr (.inr (.inr ()))]) (.alt A .e)
  alt : ∀ {us vs : List Tk} {A B : Tr}, P 3 us A → P 2 vs B → P 3 (us ++ .inr (.inr (.inr ())) :: vs) (.alt A B)
/-- The grammar. -/
def Gr (n : Nat) (ts : List Tk) (T : Tr) : Prop := ∀ P, GrC P → P n ts T
theorem Gr.set (cs : List Int) : Gr 0 [.inl cs] (.s cs) := fun _ c => c.set cs
theorem Gr.grp {ts : List Tk} {T : Tr} (h : Gr 3 ts T) : Gr 0 (.inr (.inr (.inl true)) :: (ts ++ [.inr (.inr (.inl false))])) T := fun P c => c.grp (h P c)
theorem Gr.atm {ts : List Tk} {T : Tr} (h : Gr 0 ts T) : Gr 1 ts T := fun P c => c.atm (h P c)
theorem Gr.rep {ts : List Tk} {T : Tr} (lo hi : Int) (h : Gr 0 ts T) : Gr 1 (ts ++ [.inr (.inl (lo, hi))]) (.rep T lo hi) := fun P c => c.rep lo hi (h P c)
theorem Gr.one {ts : List Tk} {T : Tr} (h : Gr 1 ts T) : Gr 2 ts T := fun P c => c.one (h P c)
theorem Gr.more {us vs : List Tk} {A B : Tr} (h : Gr 2 us A) (k : Gr 1 vs B) : Gr 2 (us ++ vs) (.cat A B) := fun P c => c.more (h P c) (k P c)
theorem Gr.nil : Gr 3 [] .e := fun _ c => c.nil
theorem Gr.cat {ts : List Tk} {T : Tr} (h : Gr 2 ts T) : Gr 3 ts T := fun P c => c.cat (h P c)
theorem Gr.alt0 {us : List Tk} {A : Tr} (h : Gr 3 us A) : Gr 3 (us ++ [.inr (.inr (.inr ()))]) (.alt A .e) := fun P c => c.alt0 (h P c)
theorem Gr.alt {us vs : List Tk} {A B : Tr} (h : Gr 3 us A) (k : Gr 2 vs B) : Gr 3 (us ++ .inr (.inr (.inr ())) :: vs) (.alt A B) := fun P c => c.alt (h P c) (k P c)
/-- Induction over the grammar. -/
theorem Gr.ind {Q : Nat → List Tk → Tr → Prop} {n : Nat} {ts : List Tk} {T : Tr} (h : Gr n ts T)
    (set : ∀ cs : List Int, Q 0 [.inl cs] (.s cs))
    (grp : ∀ {ts : List Tk} {T : Tr}, Gr 3 ts T → Q 3 ts T → Q 0 (.inr (.inr (.inl true)) :: (ts ++ [.inr (.inr (.inl false))])) T)
    (atm : ∀ {ts : List Tk} {T : Tr}, Gr 0 ts T → Q 0 ts T → Q 1 ts T)
    (rep : ∀ {ts : List Tk} {T : Tr} (lo hi : Int), Gr 0 ts T → Q 0 ts T → Q 1 (ts ++ [.inr (.inl (lo, hi))]) (.rep T lo hi))
    (one : ∀ {ts : List Tk} {T : Tr}, Gr 1 ts T → Q 1 ts T → Q 2 ts T)
    (more : ∀ {us vs : List Tk} {A B : Tr}, Gr 2 us A → Gr 1 vs B → Q 2 us A → Q 1 vs B → Q 2 (us ++ vs) (.cat A B))
    (nil : Q 3 [] .e)
    (cat : ∀ {ts : List Tk} {T : Tr}, Gr 2 ts T → Q 2 ts T → Q 3 ts T)
    (alt0 : ∀ {us : List Tk} {A : Tr}, Gr 3 us A → Q 3 us A → Q 3 (us ++ [.inr (.inr (.inr ()))]) (.alt A .e))
    (alt : ∀ {us vs : List Tk} {A B : Tr}, Gr 3 us A → Gr 2 vs B → Q 3 us A → Q 2 vs B → Q 3 (us ++ .inr (.inr (.inr ())) :: vs) (.alt A B)) : Q n ts T :=
  (h (fun n ts T => Gr n ts T ∧ Q n ts T) ⟨fun cs => ⟨.set cs, set cs⟩, fun h => ⟨.grp h.1, grp h.1 h.2⟩, fun h => ⟨.atm h.1, atm h.1 h.2⟩, fun lo hi h => ⟨.rep lo hi h.1, rep lo hi h.1 h.2⟩, fun h => ⟨.one h.1, one h.1 h.2⟩, fun h k => ⟨.more h.1 k.1, more h.1 k.1 h.2 k.2⟩, ⟨.nil, nil⟩, fun h => ⟨.cat h.1, cat h.1 h.2⟩, fun h => ⟨.alt0 h.1, alt0 h.1 h.2⟩, fun h k => ⟨.alt h.1 k.1, alt h.1 k.1 h.2 k.2⟩⟩).2
/-- The last step. -/
def GrI : Nat → List Tk → Tr → Prop
  | 0, ts, T => (∃ cs, ts = [.inl cs] ∧ T = .s cs) ∨ ∃ us, ts = .inr (.inr (.inl true)) :: (us ++ [.inr (.inr (.inl false))]) ∧ Gr 3 us T
  | 1, ts, T => Gr 0 ts T ∨ ∃ us A lo hi, ts = us ++ [.inr (.inl (lo, hi))] ∧ T = .rep A lo hi ∧ Gr 0 us A
  | 2, ts, T => Gr 1 ts T ∨ ∃ us vs A B, ts = us ++ vs ∧ T = .cat A B ∧ Gr 2 us A ∧ Gr 1 vs B
  | _, ts, T => (ts = [] ∧ T = .e) ∨ Gr 2 ts T ∨ (∃ us A, ts = us ++ [.inr (.inr (.inr ()))] ∧ T = .alt A .e ∧ Gr 3 us A) ∨ ∃ us vs A B, ts = us ++ .inr (.inr (.inr ())) :: vs ∧ T = .alt A B ∧ Gr 3 us A ∧ Gr 2 vs B
theorem Gr.inv {n : Nat} {ts : List Tk} {T : Tr} (h : Gr n ts T) : GrI n ts T :=
  h.ind (Q := GrI) (fun cs => .inl ⟨cs, rfl, rfl⟩) (fun h _ => .inr ⟨_, rfl, h⟩) (fun h _ => .inl h) (fun lo hi h _ => .inr ⟨_, _, lo, hi, rfl, rfl, h⟩) (fun h _ => .inl h) (fun h k _ _ => .inr ⟨_, _, _, _, rfl, rfl, h, k⟩) (.inl ⟨rfl, rfl⟩) (fun h _ => .inr (.inl h)) (fun h _ => .inr (.inr (.inl ⟨_, _, rfl, rfl, h⟩))) (fun h k _ _ => .inr (.inr (.inr ⟨_, _, _, _, rfl, rfl, h, k⟩)))
/-- How many groups are open behind these tokens, none if one is closed too often. -/
def wl : Nat → List Tk → Option Nat
  | d, [] => some d
  | d, .inr (.inr (.inl true)) :: ts => wl (d + 1) ts
  | 0, .inr (.inr (.inl false)) :: _ => none
  | d + 1, .inr (.inr (.inl false)) :: ts => wl d ts
  | d, .inl _ :: ts => wl d ts
  | d, .inr (.inr (.inr ())) :: ts => wl d ts
  | d, .inr (.inl _) :: ts => wl d ts
theorem wl_app : ∀ (us vs : List Tk) (d : Nat), wl d (us ++ vs) = (wl d us).bind (fun k => wl k vs)
  | [], vs, d => by simp [wl]
  | .inr (.inr (.inl true)) :: us, vs, d => by simp only [List.cons_append, wl]; exact wl_app us vs _
  | .inr (.inr (.inl false)) :: us, vs, 0 => by simp [wl]
  | .inr (.inr (.inl false)) :: us, vs, d + 1 => by simp only [List.cons_append, wl]; exact wl_app us vs _
  | .inl _ :: us, vs, d => by simp only [List.cons_append, wl]; exact wl_app us vs _
  | .inr (.inr (.inr ())) :: us, vs, d => by simp only [List.cons_append, wl]; exact wl_app us vs _
  | .inr (.inl _) :: us, vs, d => by simp only [List.cons_append, wl]; exact wl_app us vs _
theorem wl_up : ∀ (ts : List Tk) (d k c : Nat), wl d ts = some k → wl (d + c) ts = some (k + c)
  | [], d, k, c, h => by simp [wl] at h ⊢; omega
  | .inr (.inr (.inl true)) :: ts, d, k, c, h => by
    simp only [wl] at h ⊢
    have := wl_up ts (d + 1) k c h
    rwa [show d + 1 + c = d + c + 1 by omega] at this
  | .inr (.inr (.inl false)) :: ts, 0, k, c, h => by simp [wl] at h
  | .inr (.inr (.inl false)) :: ts, d + 1, k, c, h => by
    simp only [wl] at h
    rw [show d + 1 + c = d + c + 1 by omega]
    simp only [wl]
    exact wl_up ts d k c h
  | .inl _ :: ts, d, k, c, h => by simp only [wl] at h ⊢; exact wl_up ts d k c h
  | .inr (.inr (.inr ())) :: ts, d, k, c, h => by simp only [wl] at h ⊢; exact wl_up ts d k c h
  | .inr (.inl _) :: ts, d, k, c, h => by simp only [wl] at h ⊢; exact wl_up ts d k c h
theorem wl_bal {ts : List Tk} (h : wl 0 ts = some 0) (d : Nat) : wl d ts = some d := by
  have := wl_up ts 0 0 d h
  simpa using this
theorem wl_mid {us vs : List Tk} {t : Tk} {k : Nat} (h : wl 0 (us ++ t :: vs) = some k) : ∃ j, wl 0 us = some j := by
  rw [wl_app] at h
  cases e : wl 0 us with
  | none => rw [e] at h; cases h
  | some j => exact ⟨j, rfl⟩
theorem Gr.bal {n : Nat} {ts : List Tk} {T : Tr} (h : Gr n ts T) : wl 0 ts = some 0 := by
  refine h.ind (Q := fun _ ts _ => wl 0 ts = some 0) ?_ ?_ ?_ ?_ ?_ ?_ ?_ ?_ ?_ ?_
  · exact fun _ => rfl
  · intro ts T _ ih
    simp only [wl, wl_app]
    rw [wl_bal ih]
    rfl
  · exact fun _ ih => ih
  · intro ts T lo hi _ ih; rw [wl_app, ih]; rfl
  · exact fun _ ih => ih
  · intro us vs A B _ _ i1 i2; rw [wl_app, i1]; exact i2
  · rfl
  · exact fun _ ih => ih
  · intro us A _ ih; rw [wl_app, ih]; rfl
  · intro us vs A B _ _ i1 i2; rw [wl_app, i1]; exact i2
/-- No bar stands outside of the groups. -/
def NoBar (ts : List Tk) : Prop := ∀ us vs, ts = us ++ .inr (.inr (.inr ())) :: vs → wl 0 us ≠ some 0
theorem append_two {α : Type} : ∀ {a b c d : List α}, a ++ b = c ++ d → (∃ x, c = a ++ x ∧ b = x ++ d) ∨ ∃ x, a = c ++ x ∧ d = x ++ b := fun {a b c d} h => by
  rcases List.append_eq_append_iff.1 h with ⟨x, h1, h2⟩ | ⟨x, h1, h2⟩
  · exact .inl ⟨x, h1, h2⟩
  · exact .inr ⟨x, h1, h2⟩
theorem NoBar.app {us vs : List Tk} (hu : NoBar us) (hv : NoBar vs) (hb : wl 0 us = some 0) : NoBar (us ++ vs) := by
  intro xs ys h
  rcases append_two h with ⟨x, rfl, h2⟩ | ⟨x, h1, h2⟩
  · rw [wl_app, hb]
    exact hv x ys h2
  · cases x with
    | nil =>
      simp at h1 h2
      subst h1
      exact absurd rfl (hv [] ys h2.symm)
    | cons y x =>
      simp at h2
      obtain ⟨rfl, rfl⟩ := h2
      exact hu xs x h1
/-- Inside a group no bar is outside of it. -/
theorem NoBar.grp {ts : List Tk} (hb : wl 0 ts = some 0) : NoBar (.inr (.inr (.inl true)) :: (ts ++ [.inr (.inr (.inl false))])) := by
  intro us vs h he
  cases us with
  | nil => simp at h
  | cons u us =>
    simp at h
    obtain ⟨rfl, h⟩ := h
    simp only [wl] at he
    rcases append_two h with ⟨x, rfl, h2⟩ | ⟨x, rfl, h2⟩
    · cases x with
      | nil => simp at h2
      | cons y x => simp at h2
    · rw [wl_app] at hb
      cases e : wl 0 us with
      | none => rw [e] at hb; cases hb
      | some j =>
        have := wl_up us 0 j 1 e
        rw [show 0 + 1 = 1 from rfl] at this he
        rw [this] at he
        simp at he
theorem Gr.noBar {n : Nat} {ts : List Tk} {T : Tr} (h : Gr n ts T) : n < 3 → NoBar ts := by
  refine h.ind (Q := fun n ts _ => n < 3 → NoBar ts) ?_ ?_ ?_ ?_ ?_ ?_ ?_ ?_ ?_ ?_
  · intro cs _ us vs h
    cases us with
    | nil => simp at h
    | cons u us => simp at h
  · intro ts T h _ _; exact NoBar.grp h.bal
  · intro ts T _ ih _; exact ih (by omega)
  · intro ts T lo hi h ih _
    refine NoBar.app (ih (by omega)) ?_ h.bal
    intro us vs h
    cases us with
    | nil => simp at h
    | cons u us => simp at h
  · intro ts T _ ih _; exact ih (by omega)
  · intro us vs A B h1 _ i1 i2 _; exact NoBar.app (i1 (by omega)) (i2 (by omega)) h1.bal
  · intro h; omega
  · intro ts T _ _ h; omega
  · intro us A _ _ h; omega
  · intro us vs A B _ _ _ _ h; omega

end Go.Proofs.Ytjjmgegbeccjoaa
