import Derived.Test.YtinhliecfjlocaaGreatPk3
import Derived.Test.YtinhliecfjlocaaGreatPk7
import Derived.Test.YtinhliecfjlocaaGreatPk4
namespace Go.Proofs.YtinhliecfjlocaaGreat
/-! A pattern's text as tokens, its grammar, and how a list of tokens is split at its last place. -/
abbrev Tk := List Int ⊕ (Int × Int) ⊕ Bool ⊕ Unit
structure Tr where
  l : List El
  n : Int
def Tr.e : Tr := ⟨[⟨0, [], 0, 0⟩], 1⟩
def Tr.s (cs : List Int) : Tr := ⟨[⟨1, cs, 0, 0⟩], 1⟩
def Tr.cat (a b : Tr) : Tr := ⟨a.l ++ b.l ++ [⟨2, [], 0, 0⟩], cap (a.n + b.n)⟩
def Tr.alt (a b : Tr) : Tr := ⟨a.l ++ b.l ++ [⟨3, [], 0, 0⟩], cap (a.n + b.n)⟩
def Tr.rep (a : Tr) (lo hi : Int) : Tr := ⟨a.l ++ [⟨4, [], lo, hi⟩], cap (repSize a.n lo hi)⟩
structure GrC (P : Nat → List Tk → Tr → Prop) : Prop where
  set : ∀ cs : List Int, P 0 [.inl cs] (.s cs)
  grp : ∀ {ts : List Tk} {T : Tr}, P 3 ts T → P 0 (.inr (.inr (.inl true)) :: (ts ++ [.inr (.inr (.inl false))])) T
  atm : ∀ {ts : List Tk} {T : Tr}, P 0 ts T → P 1 ts T
  rep : ∀ {ts : List Tk} {T : Tr} (lo hi : Int), P 0 ts T → P 1 (ts ++ [.inr (.inl (lo, hi))]) (.rep T lo hi)
  one : ∀ {ts : List Tk} {T : Tr}, P 1 ts T → P 2 ts T
  more : ∀ {us vs : List Tk} {A B : Tr}, P 2 us A → P 1 vs B → P 2 (us ++ vs) (.cat A B)
  nil : P 3 [] .e
  cat : ∀ {ts : List Tk} {T : Tr}, P 2 ts T → P 3 ts T
  alt0 : ∀ {us : List Tk} {A : Tr}, P 3 us A → P 3 (us ++ [.inr (.inr (.inr ()))]) (.alt A .e)
  alt : ∀ {us vs : List Tk} {A B : Tr}, P 3 us A → P 2 vs B → P 3 (us ++ .inr (.inr (.inr ())) :: vs) (.alt A B)
def Gr (n : Nat) (ts : List Tk) (T : Tr) : Prop := ∀ P, GrC P → P n ts T
theorem Gr.set (cs : List Int) : Gr 0 [.inl cs] (.s cs) := fun _ c => c.set cs
theorem Gr.grp {ts : List Tk} {T : Tr} (h : Gr 3 ts T) : Gr 0 (.inr (.inr (.inl true)) :: (ts ++ [.inr (.inr (.inl false))])) T := fun P c => c.grp (h P c)
theorem Gr.atm {ts : List Tk} {T : Tr} (h : Gr 0 ts T) : Gr 1 ts T := fun P c => c.atm (h P c)
theorem Gr.rep {ts : List Tk} {T : Tr} (lo hi : Int) (h : Gr 0 ts T) : Gr 1 (ts ++ [.inr (.inl (lo, hi))]) (.rep T lo hi) := fun P c => c.rep lo hi (h P c)
theorem Gr.one {ts : List Tk} {T : Tr} (h : Gr 1 ts T) : Gr 2 ts T := fun P c => c.one (h P c)
theorem Gr.more {us vs : List Tk} {A B : Tr} (h : Gr 2 us A) (k : Gr 1 vs B) : Gr 2 (us ++ vs) (.cat A B) := fun P c => c.more (h P c) (k P c)
theorem Gr.nil : Gr 3 [] .e := fun _ c => c.nil
theorem Gr.cat {ts : List Tk} {T : Tr} (h : Gr 2 ts T) : Gr 3 ts T := fun P c => c.cat (h P c)
theorem Gr.alt0 {us : List Tk} {A : Tr} (h : Gr 3 us A) : Gr 3 (us ++ [.inr (.inr (.inr ()))]) (.alt A .e) := fun P c => c.alt0 (h P c)
theorem Gr.alt {us vs : List Tk} {A B : Tr} (h : Gr 3 us A) (k : Gr 2 vs B) : Gr 3 (us ++ .inr (.inr (.inr ())) :: vs) (.alt A B) := fun P c => c.alt (h P c) (k P c)
theorem Gr.ind {Q : Nat → List Tk → Tr → Prop} {n : Nat} {ts : List Tk} {T : Tr} (h : Gr n ts T)
    (set : ∀ cs : List Int, Q 0 [.inl cs] (.s cs))
    (grp : ∀ {ts : List Tk} {T : Tr}, Gr 3 ts T → Q 3 ts T → Q 0 (.inr (.inr (.inl true)) :: (ts ++ [.inr (.inr (.inl false))])) T)
    (atm : ∀ {ts : List Tk} {T : Tr}, Gr 0 ts T → Q 0 ts T → Q 1 ts T)
    (rep : ∀ {ts : List Tk} {T : Tr} (lo hi : Int), Gr 0 ts T → Q 0 ts T → Q 1 (ts ++ [.inr (.inl (lo, hi))]) (.rep T lo hi))
    (one : ∀ {ts : List Tk} {T : Tr}, Gr 1 ts T → Q 1 ts T → Q 2 ts T)
    (more : ∀ {us vs : List Tk} {A B : Tr}, Gr 2 us A → Gr 1 vs B → Q 2 us A → Q 1 vs B → Q 2 (us ++ vs) (.cat A B))
    (nil : Q 3 [] .e)
    (cat : ∀ {ts : List Tk} {T : Tr}, Gr 2 ts T → Q 2 ts T → Q 3 ts T)
    (alt0 : ∀ {us : List Tk} {A : Tr}, Gr 3 us A → Q 3 us A → Q 3 (us ++ [.inr (.inr (.inr ()))]) (.alt A .e))
    (alt : ∀ {us vs : List Tk} {A B : Tr}, Gr 3 us A → Gr 2 vs B → Q 3 us A → Q 2 vs B → Q 3 (us ++ .inr (.inr (.inr ())) :: vs) (.alt A B)) : Q n ts T :=
  (h (fun n ts T => Gr n ts T ∧ Q n ts T) ⟨fun cs => ⟨.set cs, set cs⟩, fun h => ⟨.grp h.1, grp h.1 h.2⟩, fun h => ⟨.atm h.1, atm h.1 h.2⟩, fun lo hi h => ⟨.rep lo hi h.1, rep lo hi h.1 h.2⟩, fun h => ⟨.one h.1, one h.1 h.2⟩, fun h k => ⟨.more h.1 k.1, more h.1 k.1 h.2 k.2⟩, ⟨.nil, nil⟩, fun h => ⟨.cat h.1, cat h.1 h.2⟩, fun h => ⟨.alt0 h.1, alt0 h.1 h.2⟩, fun h k => ⟨.alt h.1 k.1, alt h.1 k.1 h.2 k.2⟩⟩).2
def wl : Nat → List Tk → Option Nat
  | d, [] => some d
  | d, .inr (.inr (.inl true)) :: ts => wl (d + 1) ts
  | 0, .inr (.inr (.inl false)) :: _ => none
  | d + 1, .inr (.inr (.inl false)) :: ts => wl d ts
  | d, .inl _ :: ts => wl d ts
  | d, .inr (.inr (.inr ())) :: ts => wl d ts
  | d, .inr (.inl _) :: ts => wl d ts
theorem wl_app : ∀ (us vs : List Tk) (d : Nat), wl d (us ++ vs) = (wl d us).bind (fun k => wl k vs)
  | [], vs, d => by simp [wl]
  | .inr (.inr (.inl true)) :: us, vs, d => by simp only [List.cons_append, wl]; exact wl_app us vs _
  | .inr (.inr (.inl false)) :: us, vs, 0 => by simp [wl]
  | .inr (.inr (.inl false)) :: us, vs, d + 1 => by simp only [List.cons_append, wl]; exact wl_app us vs _
  | .inl _ :: us, vs, d => by simp only [List.cons_append, wl]; exact wl_app us vs _
  | .inr (.inr (.inr ())) :: us, vs, d => by simp only [List.cons_append, wl]; exact wl_app us vs _
  | .inr (.inl _) :: us, vs, d => by simp only [List.cons_append, wl]; exact wl_app us vs _
theorem wl_up : ∀ (ts : List Tk) (d k c : Nat), wl d ts = some k → wl (d + c) ts = some (k + c)
  | [], d, k, c, h => by simp [wl] at h ⊢; omega
  | .inr (.inr (.inl true)) :: ts, d, k, c, h => by
    simp only [wl] at h ⊢
    have := wl_up ts (d + 1) k c h
    rwa [show d + 1 + c = d + c + 1 by omega] at this
  | .inr (.inr (.inl false)) :: ts, 0, k, c, h => by simp [wl] at h
  | .inr (.inr (.inl false)) :: ts, d + 1, k, c, h => by
    simp only [wl] at h
    rw [show d + 1 + c = d + c + 1 by omega]
    simp only [wl]
    exact wl_up ts d k c h
  | .inl _ :: ts, d, k, c, h => by simp only [wl] at h ⊢; exact wl_up ts d k c h
  | .inr (.inr (.inr ())) :: ts, d, k, c, h => by simp only [wl] at h ⊢; exact wl_up ts d k c h
  | .inr (.inl _) :: ts, d, k, c, h => by simp only [wl] at h ⊢; exact wl_up ts d k c h
theorem wl_bal {ts : List Tk} (h : wl 0 ts = some 0) (d : Nat) : wl d ts = some d := by
  have := wl_up ts 0 0 d h
  simpa using this
def NoBar (ts : List Tk) : Prop := ∀ us vs, ts = us ++ .inr (.inr (.inr ())) :: vs → wl 0 us ≠ some 0
theorem append_two {α : Type} : ∀ {a b c d : List α}, a ++ b = c ++ d → (∃ x, c = a ++ x ∧ b = x ++ d) ∨ ∃ x, a = c ++ x ∧ d = x ++ b := fun {a b c d} h => by
  rcases List.append_eq_append_iff.1 h with ⟨x, h1, h2⟩ | ⟨x, h1, h2⟩
  · exact .inl ⟨x, h1, h2⟩
  · exact .inr ⟨x, h1, h2⟩
theorem NoBar.app {us vs : List Tk} (hu : NoBar us) (hv : NoBar vs) (hb : wl 0 us = some 0) : NoBar (us ++ vs) := by
  intro xs ys h
  rcases append_two h with ⟨x, rfl, h2⟩ | ⟨x, h1, h2⟩
  · rw [wl_app, hb]
    exact hv x ys h2
  · cases x with
    | nil =>
      simp at h1 h2
      subst h1
      exact absurd rfl (hv [] ys h2.symm)
    | cons y x =>
      simp at h2
      obtain ⟨rfl, rfl⟩ := h2
      exact hu xs x h1
theorem NoBar.grp {ts : List Tk} (hb : wl 0 ts = some 0) : NoBar (.inr (.inr (.inl true)) :: (ts ++ [.inr (.inr (.inl false))])) := by
  intro us vs h he
  cases us with
  | nil => simp at h
  | cons u us =>
    simp at h
    obtain ⟨rfl, h⟩ := h
    simp only [wl] at he
    rcases append_two h with ⟨x, rfl, h2⟩ | ⟨x, rfl, h2⟩
    · cases x with
      | nil => simp at h2
      | cons y x => simp at h2
    · rw [wl_app] at hb
      cases e : wl 0 us with
      | none => rw [e] at hb; cases hb
      | some j =>
        have := wl_up us 0 j 1 e
        rw [show 0 + 1 = 1 from rfl] at this he
        rw [this] at he
        simp at he
theorem Gr.ne {n : Nat} {ts : List Tk} {T : Tr} (h : Gr n ts T) : n < 3 → ts ≠ [] := by
  refine h.ind (Q := fun n ts _ => n < 3 → ts ≠ []) ?_ ?_ ?_ ?_ ?_ ?_ ?_ ?_ ?_ ?_
  · intro cs _ h; cases h
  · intro ts T _ _ _ h; cases h
  · intro ts T _ ih _; exact ih (by omega)
  · intro ts T lo hi _ _ _ h; simp at h
  · intro ts T _ ih _; exact ih (by omega)
  · intro us vs A B _ _ i1 _ _ h; simp at h; exact i1 (by omega) h.1
  · intro h; omega
  · intro ts T _ _ h; omega
  · intro us A _ _ h; omega
  · intro us vs A B _ _ _ _ h; omega
theorem NoBar.uniq {us vs us' vs' : List Tk} (h : us ++ .inr (.inr (.inr ())) :: vs = us' ++ .inr (.inr (.inr ())) :: vs') (b1 : wl 0 us = some 0) (b2 : wl 0 us' = some 0) (n1 : NoBar vs) (n2 : NoBar vs') : us = us' ∧ vs = vs' := by
  rcases append_two h with ⟨x, rfl, h2⟩ | ⟨x, rfl, h2⟩
  · cases x with
    | nil => simp at h2; exact ⟨by simp, h2⟩
    | cons y x =>
      simp at h2
      obtain ⟨rfl, h2⟩ := h2
      rw [wl_app, b1] at b2
      exact absurd b2 (n1 x vs' h2)
  · cases x with
    | nil => simp at h2; exact ⟨by simp, h2.symm⟩
    | cons y x =>
      simp at h2
      obtain ⟨rfl, h2⟩ := h2
      rw [wl_app, b2] at b1
      exact absurd b1 (n2 x vs h2)
def Sh (vs : List Tk) : Prop := (∃ cs, vs = [.inl cs]) ∨ ∃ mid, vs = .inr (.inr (.inl true)) :: (mid ++ [.inr (.inr (.inl false))]) ∧ wl 0 mid = some 0
theorem Sh.uniq {pre us vs vs' : List Tk} (h : pre ++ vs = us ++ vs') (h1 : Sh vs) (h2 : Sh vs') : pre = us ∧ vs = vs' := by
  rcases h1 with ⟨cs, rfl⟩ | ⟨mid, rfl, b1⟩ <;> rcases h2 with ⟨cs', rfl⟩ | ⟨mid', rfl, b2⟩
  · have := List.append_inj' h rfl
    exact this
  · have e : pre ++ [.inl cs] = (us ++ .inr (.inr (.inl true)) :: mid') ++ [.inr (.inr (.inl false))] := by rw [h]; simp
    have := (List.append_inj' e rfl).2
    simp at this
  · have e : (pre ++ .inr (.inr (.inl true)) :: mid) ++ [.inr (.inr (.inl false))] = us ++ [.inl cs'] := by rw [← h]; simp
    have := (List.append_inj' e rfl).2
    simp at this
  · have e : (pre ++ .inr (.inr (.inl true)) :: mid) ++ [.inr (.inr (.inl false))] = (us ++ .inr (.inr (.inl true)) :: mid') ++ [.inr (.inr (.inl false))] := by
      have e1 : (pre ++ .inr (.inr (.inl true)) :: mid) ++ [.inr (.inr (.inl false))] = pre ++ .inr (.inr (.inl true)) :: (mid ++ [.inr (.inr (.inl false))]) := by simp
      have e2 : (us ++ .inr (.inr (.inl true)) :: mid') ++ [.inr (.inr (.inl false))] = us ++ .inr (.inr (.inl true)) :: (mid' ++ [.inr (.inr (.inl false))]) := by simp
      rw [e1, e2, h]
    have e := (List.append_inj' e rfl).1
    rcases append_two e with ⟨x, rfl, h2⟩ | ⟨x, rfl, h2⟩
    · cases x with
      | nil => simp at h2; subst h2; simp
      | cons y x =>
        simp at h2
        obtain ⟨rfl, rfl⟩ := h2
        rw [wl_app] at b1
        cases e9 : wl 0 x with
        | none => rw [e9] at b1; cases b1
        | some k =>
          rw [e9] at b1
          simp only [Option.bind_some, wl] at b1
          rw [wl_bal b2] at b1
          cases b1
    · cases x with
      | nil => simp at h2; subst h2; simp
      | cons y x =>
        simp at h2
        obtain ⟨rfl, rfl⟩ := h2
        rw [wl_app] at b2
        cases e9 : wl 0 x with
        | none => rw [e9] at b2; cases b2
        | some k =>
          rw [e9] at b2
          simp only [Option.bind_some, wl] at b2
          rw [wl_bal b1] at b2
          cases b2
/-! The tokens of a pattern's text. -/
def inR : List Int → Nat → Bool
  | lo :: hi :: xs, b => decide (lo ≤ (b : Int) ∧ (b : Int) ≤ hi) || inR xs b
  | _, _ => false
def emR (p : Nat → Bool) (b : Nat) : List Int := (if p b && (b == 0 || !p (b - 1)) then [(b : Int)] else []) ++ (if p b && (b == 255 || !p (b + 1)) then [(b : Int)] else [])
def cnn (p : Nat → Bool) : List Int := (List.range 256).flatMap (emR p)
def spcZ : List Int := [92, 46, 91, 93, 40, 41, 124, 42, 43, 63, 123, 125, 94, 36]
def isD (c : Int) : Bool := decide (48 ≤ c ∧ c ≤ 57)
def hexv (c : Int) : Option Int := if 48 ≤ c ∧ c ≤ 57 then some (c - 48) else if 97 ≤ c ∧ c ≤ 102 then some (c - 97 + 10) else if 65 ≤ c ∧ c ≤ 70 then some (c - 65 + 10) else none
def hex2 : List Int → Option (Int × List Int)
  | h :: l :: r => (hexv h).bind fun a => (hexv l).map fun b => (a * 16 + b, r)
  | _ => none
def besc : List Int → Option (Int × List Int)
  | [] => none
  | c :: r => if c ∈ spcZ ∨ c = 45 then some (c, r) else if c = 110 then some (10, r) else if c = 116 then some (9, r) else if c = 114 then some (13, r) else if c = 120 then hex2 r else none
def sesc : List Int → Option (List Int × List Int)
  | [] => none
  | c :: r => if c = 100 then some ([48, 57], r) else if c = 119 then some ([48, 57, 65, 90, 95, 95, 97, 122], r) else if c = 115 then some ([9, 10, 13, 13, 32, 32], r) else none
def chr1 : List Int → Option (Int × List Int)
  | [] => none
  | c :: r => if c = 92 then besc r else if c = 93 ∨ c = 91 ∨ c = 94 ∨ c = 45 then none else some (c, r)
def sesB : List Int → Option (List Int × List Int)
  | [] => none
  | c :: r => if c = 92 then sesc r else none
def rngB (p : Nat → Bool) (lo hi : Int) : Nat → Bool := fun b => p b || decide (lo ≤ (b : Int) ∧ (b : Int) ≤ hi)
def mem2 (p : Nat → Bool) (lo : Int) : List Int → Option ((Nat → Bool) × List Int)
  | [] => some (rngB p lo lo, [])
  | c :: r => if c = 45 then (chr1 r).bind fun x => if x.1 < lo then none else some (rngB p lo x.1, x.2) else some (rngB p lo lo, c :: r)
def mem1 (p : Nat → Bool) (s : List Int) : Option ((Nat → Bool) × List Int) :=
  match sesB s with
  | some (cs, r) => some (fun b => p b || inR cs b, r)
  | none => (chr1 s).bind fun x => mem2 p x.1 x.2
def clsG : Nat → (Nat → Bool) → List Int → Option ((Nat → Bool) × List Int)
  | 0, _, _ => none
  | _ + 1, _, [] => none
  | n + 1, p, c :: r => if c = 93 then some (p, r) else (mem1 p (c :: r)).bind fun x => clsG n x.1 x.2
def cls : List Int → Option (List Int × List Int)
  | [] => none
  | c :: r => if c = 94 then (clsG (r.length + 1) (fun _ => false) r).map fun x => (cnn (fun b => !x.1 b), x.2) else (clsG (r.length + 2) (fun _ => false) (c :: r)).map fun x => (cnn x.1, x.2)
def numV (ds : List Int) : Int := ds.foldl (fun v c => v * 10 + (c - 48)) 0
def num1 (s : List Int) : Option (Int × List Int) := if (s.takeWhile isD).length = 0 ∨ 4 < (s.takeWhile isD).length then none else some (numV (s.takeWhile isD), s.dropWhile isD)
def brc3 (lo : Int) : List Int → Option ((Int × Int) × List Int)
  | [] => none
  | c :: r => if c = 125 then some ((lo, -1), r) else (num1 (c :: r)).bind fun x => if x.1 < lo then none else match x.2 with
    | d :: r2 => if d = 125 then some ((lo, x.1), r2) else none
    | [] => none
def brc2 (lo : Int) : List Int → Option ((Int × Int) × List Int)
  | [] => none
  | c :: r => if c = 125 then some ((lo, lo), r) else if c = 44 then brc3 lo r else none
def brc (s : List Int) : Option ((Int × Int) × List Int) := (num1 s).bind fun x => brc2 x.1 x.2
def lx : List Int → Option (Tk × List Int)
  | [] => none
  | c :: r =>
    if c = 40 then some (.inr (.inr (.inl true)), r) else if c = 41 then some (.inr (.inr (.inl false)), r) else if c = 124 then some (.inr (.inr (.inr ())), r)
    else if c = 42 then some (.inr (.inl (0, -1)), r) else if c = 43 then some (.inr (.inl (1, -1)), r) else if c = 63 then some (.inr (.inl (0, 1)), r)
    else if c = 123 then (brc r).map fun x => (.inr (.inl (x.1.1, x.1.2)), x.2)
    else if c = 46 then some (.inl [0, 9, 11, 255], r)
    else if c = 91 then (cls r).map fun x => (.inl x.1, x.2)
    else if c = 92 then (match sesc r with
      | some x => some (.inl x.1, x.2)
      | none => (besc r).map fun x => (.inl [x.1, x.1], x.2))
    else if c ∈ spcZ then none else some (.inl [c, c], r)
def LocH {α : Type} (f : List Int → Option (α × List Int)) : Prop := ∀ s x r, f s = some (x, r) → ∃ p, s = p ++ r ∧ 0 < p.length ∧ ∀ r', r'.head? = r.head? → f (p ++ r') = some (x, r')
def Loc {α : Type} (f : List Int → Option (α × List Int)) : Prop := ∀ s x r, f s = some (x, r) → ∃ p, s = p ++ r ∧ 0 < p.length ∧ ∀ r', f (p ++ r') = some (x, r')
theorem Loc.h {α : Type} {f : List Int → Option (α × List Int)} (h : Loc f) : LocH f := fun s x r e => by
  obtain ⟨p, h1, h2, h3⟩ := h s x r e
  exact ⟨p, h1, h2, fun r' _ => h3 r'⟩
theorem hex2_loc : Loc hex2 := fun s x r h => by
  match s, h with
  | a :: b :: t, h =>
    simp only [hex2] at h
    cases ha : hexv a with
    | none => rw [ha] at h; cases h
    | some u =>
      cases hb : hexv b with
      | none => rw [ha, hb] at h; cases h
      | some v =>
        rw [ha, hb] at h
        simp at h
        obtain ⟨rfl, rfl⟩ := h
        exact ⟨[a, b], rfl, by simp, fun r' => by simp [hex2, ha, hb]⟩
theorem besc_loc : Loc besc := fun s x r h => by
  match s, h with
  | c :: t, h =>
    simp only [besc] at h
    split at h
    · rename_i h1
      simp at h
      obtain ⟨rfl, rfl⟩ := h
      exact ⟨[c], rfl, by simp, fun r' => by simp only [List.cons_append, List.nil_append, besc]; rw [if_pos h1]⟩
    · rename_i h1
      split at h
      · rename_i h2
        simp at h
        obtain ⟨rfl, rfl⟩ := h
        exact ⟨[c], rfl, by simp, fun r' => by simp only [List.cons_append, List.nil_append, besc]; rw [if_neg h1, if_pos h2]⟩
      · rename_i h2
        split at h
        · rename_i h3
          simp at h
          obtain ⟨rfl, rfl⟩ := h
          exact ⟨[c], rfl, by simp, fun r' => by simp only [List.cons_append, List.nil_append, besc]; rw [if_neg h1, if_neg h2, if_pos h3]⟩
        · rename_i h3
          split at h
          · rename_i h4
            simp at h
            obtain ⟨rfl, rfl⟩ := h
            exact ⟨[c], rfl, by simp, fun r' => by simp only [List.cons_append, List.nil_append, besc]; rw [if_neg h1, if_neg h2, if_neg h3, if_pos h4]⟩
          · rename_i h4
            split at h
            · rename_i h5
              obtain ⟨p, rfl, h6, h7⟩ := hex2_loc _ _ _ h
              exact ⟨c :: p, rfl, by simp, fun r' => by simp only [List.cons_append, besc]; rw [if_neg h1, if_neg h2, if_neg h3, if_neg h4, if_pos h5]; exact h7 r'⟩
            · cases h
theorem sesc_loc : Loc sesc := fun s x r h => by
  match s, h with
  | c :: t, h =>
    simp only [sesc] at h
    split at h
    · rename_i h1
      simp at h
      obtain ⟨rfl, rfl⟩ := h
      exact ⟨[c], rfl, by simp, fun r' => by simp only [List.cons_append, List.nil_append, sesc]; rw [if_pos h1]⟩
    · rename_i h1
      split at h
      · rename_i h2
        simp at h
        obtain ⟨rfl, rfl⟩ := h
        exact ⟨[c], rfl, by simp, fun r' => by simp only [List.cons_append, List.nil_append, sesc]; rw [if_neg h1, if_pos h2]⟩
      · rename_i h2
        split at h
        · rename_i h3
          simp at h
          obtain ⟨rfl, rfl⟩ := h
          exact ⟨[c], rfl, by simp, fun r' => by simp only [List.cons_append, List.nil_append, sesc]; rw [if_neg h1, if_neg h2, if_pos h3]⟩
        · cases h
theorem chr1_loc : Loc chr1 := fun s x r h => by
  match s, h with
  | c :: t, h =>
    simp only [chr1] at h
    split at h
    · rename_i h1
      obtain ⟨p, rfl, h6, h7⟩ := besc_loc _ _ _ h
      exact ⟨c :: p, rfl, by simp, fun r' => by simp only [List.cons_append, chr1]; rw [if_pos h1]; exact h7 r'⟩
    · rename_i h1
      split at h
      · cases h
      · rename_i h2
        simp at h
        obtain ⟨rfl, rfl⟩ := h
        exact ⟨[c], rfl, by simp, fun r' => by simp only [List.cons_append, List.nil_append, chr1]; rw [if_neg h1, if_neg h2]⟩
theorem sesB_loc : Loc sesB := fun s x r h => by
  match s, h with
  | c :: t, h =>
    simp only [sesB] at h
    split at h
    · rename_i h1
      obtain ⟨p, rfl, h6, h7⟩ := sesc_loc _ _ _ h
      exact ⟨c :: p, rfl, by simp, fun r' => by simp only [List.cons_append, sesB]; rw [if_pos h1]; exact h7 r'⟩
    · cases h
open Go.RowKit
theorem grown_bl2 {base e n : Nat} {w w' : World} {v : Value} {xs : List Value} (h : w.ownsRow base e 1 v n xs) (hb : base ≤ w.heap.size) (hg : w.grownBy w' v.ownBlock) : Below base w w' := (Below.refl base w).grown hg hb (fun k hk => (h.lt k hk).1)
theorem app_i2 {w : World} {ops : Array Oper} {rest : List Oper} {o : Oper} {a : Act} {Q : Exit → Act → World → Prop} (hgd : o.guard = none) (s x : Operand)
    (ho : o.op = .call { callee := .builtin .append, args := #[s, x], argTypes := #[34, 34] }) (base : Nat) (v : Value) (hs : a.eval s = v) (y : Int) (hx : a.eval x = .slice (some ⟨w.heap.size, 0, none⟩) 1 1) (n : Nat) (xs : List Int) (hn : n = xs.length)
    (h1 : w.ownsRow base 3 1 v n (xs.map mI)) (hb : base ≤ w.heap.size) (hl : n ≤ 1000000)
    (h : ∀ v' w', w'.ownsRow base 3 1 v' (n + 1) ((xs ++ [y]).map mI) → Below base w w' → wpList Tryz.prog ops Q rest (a.put o.dst v') w') : wpList Tryz.prog ops Q (o :: rest) a (w.alloc (.cells #[.int .i64 y] 3)) := by
  subst hn
  obtain ⟨i0, hi, hz0, hz1, hz2⟩ := info_parts Tryz.zinInt
  refine wpList_append_own_at _ hgd s x 34 ho base 3 i0 (.int .i64 0) 1 8 Tryz.underlying34 hi hz0 hz1 hz2 rfl (by decide) v xs.length (xs.map mI) hs (h1.alloc _) ⟨w.heap.size, 0, none⟩ 1 1 [.int .i64 y] hx rfl (fun j y hj => by
    match j, hj with
    | 0, hj => exact (pushd_alloc w _).news 0 _ hj) (fun u hu => by rw [List.mem_singleton] at hu; subst hu; rfl) (by unfold maxLen; omega) (by omega) (by rw [sz_alloc]; omega) ?_
  intro v' w' r1 r2 _ r3
  refine h v' w' ?_ ((below1 w _).mono hb |>.trans (grown_bl2 (h1.alloc _) (by rw [sz_alloc]; omega) r2))
  rw [List.map_append]
  exact r1
def MkAt (w : World) (mb : Nat) (p : Nat → Bool) : Prop := w.rowIs mb 4 256 (fun j => .bool (p j))
def cnP (p : Nat → Bool) (k : Nat) : List Int := (List.range k).flatMap (emR p)
theorem cnP_s (p : Nat → Bool) (k : Nat) : cnP p (k + 1) = cnP p k ++ emR p k := by unfold cnP; rw [List.range_succ, List.flatMap_append]; simp
theorem emR_no {p : Nat → Bool} {k : Nat} (h : p k = false) : emR p k = [] := by simp [emR, h]
theorem emR_yes {p : Nat → Bool} {k : Nat} (h : p k = true) (s c : Bool) (hs : (k == 0 || !p (k - 1)) = s) (hc : (k == 255 || !p (k + 1)) = c) : emR p k = (if s then [(k : Int)] else []) ++ (if c then [(k : Int)] else []) := by
  simp only [emR, h, hs, hc, Bool.true_and]
theorem st_A {p : Nat → Bool} {k : Nat} (h : k = 0) : (k == 0 || !p (k - 1)) = true := by rw [h]; rfl
theorem st_B {p : Nat → Bool} {k : Nat} (h : p (k - 1) = false) : (k == 0 || !p (k - 1)) = true := by rw [h]; simp
theorem st_C {p : Nat → Bool} {k : Nat} (h0 : ¬ k = 0) (h : p (k - 1) = true) : (k == 0 || !p (k - 1)) = false := by rw [h]; simp [h0]
theorem cl_A {p : Nat → Bool} {k : Nat} (h : k = 255) : (k == 255 || !p (k + 1)) = true := by rw [h]; rfl
theorem cl_B {p : Nat → Bool} {k : Nat} (h : p (k + 1) = false) : (k == 255 || !p (k + 1)) = true := by rw [h]; simp
theorem cl_C {p : Nat → Bool} {k : Nat} (h0 : ¬ k = 255) (h : p (k + 1) = true) : (k == 255 || !p (k + 1)) = false := by rw [h]; simp [h0]
theorem len3 (A B C : List Int) : (A ++ B ++ C).length = A.length + B.length + C.length := by rw [List.length_append, List.length_append]
theorem emR_len (p : Nat → Bool) (k : Nat) : (emR p k).length ≤ 2 := by
  unfold emR
  rw [List.length_append]
  split <;> split <;> simp
theorem cnP_len (p : Nat → Bool) : ∀ k, (cnP p k).length ≤ 2 * k
  | 0 => by simp [cnP]
  | k + 1 => by
    rw [cnP_s, List.length_append]
    have := cnP_len p k
    have := emR_len p k
    omega
set_option maxHeartbeats 8000000 in
set_option maxRecDepth 100000 in
theorem l1ranges_any (mb : Nat) (p : Nat → Bool) (w : World) (hm : MkAt w mb p) :
    Calls Tryz.prog 132 #[.slice (some ⟨mb, 0, none⟩) 256 256] w fun e w' => ∃ v, e = .returned v ∧ w'.ownsRow w.heap.size 3 1 v (cnn p).length ((cnn p).map mI) ∧ Below w.heap.size w w' := by
  have hmb := row_lt hm
  have HM := hide hm
  clear hm
  go_enter Tryz.func132, Tryz.ntmps132
  go_wp2_with fail
  go_loopw [3, 4] (fun ov bv wr => ∃ (k n : Nat), k ≤ 256 ∧ bv = .int .i64 (k : Nat) ∧ n = (cnP p k).length ∧ wr.ownsRow w.heap.size 3 1 ov n ((cnP p k).map mI) ∧ Below w.heap.size w wr) (fun _ bv _ => 256 - (intOf bv).toNat)
  case atStart => exact ⟨0, 0, by omega, rfl, rfl, World.ownsRow_nil _ _ _ _, Below.refl _ _⟩
  case round =>
    obtain ⟨k, n, hk, rfl, hn, hown, hB⟩ := hrel
    obtain ⟨w3, rfl⟩ : ∃ w3, w3 = wr := ⟨_, rfl⟩
    obtain ⟨oa, oc, rfl⟩ := own_is hown
    have hz3 := hB.size
    have hn2 : n ≤ 600 := by rw [hn]; have := cnP_len p k; omega
    have HO := hide hown
    have HB := hide hB
    have HN := hide hn
    have rM := (unhide HM).of_block (hB.block mb hmb)
    clear hown hB hn
    by_cases hlt : k < 256
    · have hlt' : (k : Int) < 256 := by omega
      have x0 := rM.cell (i := k) hlt
      have HN1 : Hid (n + 1 = (cnP p k ++ [(k : Int)]).length) := by show _ = _; rw [List.length_append, List.length_singleton, ← unhide HN]
      cases hp : p k with
      | false =>
        rw [hp] at x0
        have HE : Hid (cnP p (k + 1) = cnP p k) := by show _ = _; rw [cnP_s, emR_no hp, List.append_nil]
        clear rM hp
        go_wp2
        go_roundw
        case rel => exact ⟨k + 1, n, by omega, by go_num, by rw [unhide HE]; exact unhide HN, by rw [unhide HE]; exact unhide HO, unhide HB⟩
        case measure => simp [intOf]; omega
      | true =>
        rw [hp] at x0
        by_cases k0 : k = 0
        · by_cases k5 : k = 255
          · omega
          · cases p2 : p (k + 1) with
            | false =>
              have HE : Hid (cnP p (k + 1) = cnP p k ++ [(k : Int)] ++ [(k : Int)]) := by
                show _ = _
                rw [cnP_s, emR_yes hp true true (st_A k0) (cl_B p2), List.append_assoc]
                rfl
              have kk0 : ((k : Int) == 0) = true := by simp; omega
              have kk5 : ((k : Int) == 255) = false := by simp; omega
              have kk6 : (k : Int) + 1 < 256 := by omega
              have HM2 : Hid (∀ W : World, Below w.heap.size w W → W.cell? ⟨mb, 0 + (k + 1), none⟩ = some (.bool false)) := fun W hW => by
                have h9 := ((unhide HM).of_block (hW.block mb hmb)).cell (i := k + 1) (by omega)
                rw [p2] at h9
                rw [Nat.zero_add]
                exact h9
              clear rM hp p2 k0 k5
              go_wp2_with (at_builtin; refine app_i2 rfl _ _ rfl w.heap.size (.slice oa n oc) rfl (k : Int) rfl n (cnP p k) (unhide HN) (unhide HO) hz3 (by omega) ?_)
              intro v4 w4 ho4 hb4
              obtain ⟨o4, d4, rfl⟩ := own_is ho4
              obtain ⟨L4, hL4⟩ : ∃ L4, L4 = cnP p k ++ [(k : Int)] := ⟨_, rfl⟩
              replace ho4 : w4.ownsRow w.heap.size 3 1 (.slice o4 (n + 1) d4) (n + 1) (L4.map mI) := by rw [hL4, List.map_append]; exact ho4
              have HL4 := hide hL4
              have HN4 : Hid (n + 1 = L4.length) := by rw [hL4]; exact unhide HN1
              clear hL4
              have HO4 := hide ho4
              have HB4 := hide ((unhide HB).trans hb4)
              have hz4 := hb4.size
              have x2 := unhide HM2 w4 (unhide HB4)
              rw [Nat.zero_add] at x2
              clear ho4 hb4
              go_wp2_with (at_builtin; refine app_i2 rfl _ _ rfl w.heap.size (.slice o4 (n + 1) d4) rfl (k : Int) rfl (n + 1) L4 (unhide HN4) (unhide HO4) (by omega) (by omega) ?_)
              intro v5 w5 ho5 hb5
              obtain ⟨o5, d5, rfl⟩ := own_is ho5
              have HO5 := hide ho5
              have HB5 := hide ((unhide HB4).trans hb5)
              clear ho5 hb5
              go_wp2
              go_roundw
              case rel => exact ⟨k + 1, n + 1 + 1, by omega, by go_num, by rw [unhide HE, len3, ← unhide HN]; rfl, by rw [unhide HE, ← unhide HL4]; simpa using unhide HO5, unhide HB5⟩
              case measure => simp [intOf]; omega
            | true =>
              have HE : Hid (cnP p (k + 1) = cnP p k ++ [(k : Int)] ++ []) := by
                show _ = _
                rw [cnP_s, emR_yes hp true false (st_A k0) (cl_C k5 p2), List.append_assoc]
                rfl
              have kk0 : ((k : Int) == 0) = true := by simp; omega
              have kk5 : ((k : Int) == 255) = false := by simp; omega
              have kk6 : (k : Int) + 1 < 256 := by omega
              have HM2 : Hid (∀ W : World, Below w.heap.size w W → W.cell? ⟨mb, 0 + (k + 1), none⟩ = some (.bool true)) := fun W hW => by
                have h9 := ((unhide HM).of_block (hW.block mb hmb)).cell (i := k + 1) (by omega)
                rw [p2] at h9
                rw [Nat.zero_add]
                exact h9
              clear rM hp p2 k0 k5
              go_wp2_with (at_builtin; refine app_i2 rfl _ _ rfl w.heap.size (.slice oa n oc) rfl (k : Int) rfl n (cnP p k) (unhide HN) (unhide HO) hz3 (by omega) ?_)
              intro v4 w4 ho4 hb4
              obtain ⟨o4, d4, rfl⟩ := own_is ho4
              obtain ⟨L4, hL4⟩ : ∃ L4, L4 = cnP p k ++ [(k : Int)] := ⟨_, rfl⟩
              replace ho4 : w4.ownsRow w.heap.size 3 1 (.slice o4 (n + 1) d4) (n + 1) (L4.map mI) := by rw [hL4, List.map_append]; exact ho4
              have HL4 := hide hL4
              have HN4 : Hid (n + 1 = L4.length) := by rw [hL4]; exact unhide HN1
              clear hL4
              have HO4 := hide ho4
              have HB4 := hide ((unhide HB).trans hb4)
              have hz4 := hb4.size
              have x2 := unhide HM2 w4 (unhide HB4)
              rw [Nat.zero_add] at x2
              clear ho4 hb4
              go_wp2
              go_roundw
              case rel => exact ⟨k + 1, n + 1, by omega, by go_num, by rw [unhide HE, len3, ← unhide HN]; rfl, by rw [unhide HE, ← unhide HL4]; simpa using unhide HO4, unhide HB4⟩
              case measure => simp [intOf]; omega
        · cases p1 : p (k - 1) with
          | false =>
            by_cases k5 : k = 255
            · have HE : Hid (cnP p (k + 1) = cnP p k ++ [(k : Int)] ++ [(k : Int)]) := by
                show _ = _
                rw [cnP_s, emR_yes hp true true (st_B p1) (cl_A k5), List.append_assoc]
                rfl
              have kk0 : ((k : Int) == 0) = false := by simp; omega
              have kk1 : (0 : Int) ≤ (k : Int) - 1 := by omega
              have kk2 : (k : Int) - 1 < 256 := by omega
              have x1 := rM.cell (i := k - 1) (by omega)
              rw [p1] at x1
              have kk3 : ((k : Int) - 1).toNat = k - 1 := by omega
              have kk5 : ((k : Int) == 255) = true := by simp; omega
              clear rM hp p1 k0 k5
              go_wp2_with (at_builtin; refine app_i2 rfl _ _ rfl w.heap.size (.slice oa n oc) rfl (k : Int) rfl n (cnP p k) (unhide HN) (unhide HO) hz3 (by omega) ?_)
              intro v4 w4 ho4 hb4
              obtain ⟨o4, d4, rfl⟩ := own_is ho4
              obtain ⟨L4, hL4⟩ : ∃ L4, L4 = cnP p k ++ [(k : Int)] := ⟨_, rfl⟩
              replace ho4 : w4.ownsRow w.heap.size 3 1 (.slice o4 (n + 1) d4) (n + 1) (L4.map mI) := by rw [hL4, List.map_append]; exact ho4
              have HL4 := hide hL4
              have HN4 : Hid (n + 1 = L4.length) := by rw [hL4]; exact unhide HN1
              clear hL4
              have HO4 := hide ho4
              have HB4 := hide ((unhide HB).trans hb4)
              have hz4 := hb4.size
              clear ho4 hb4
              go_wp2_with (at_builtin; refine app_i2 rfl _ _ rfl w.heap.size (.slice o4 (n + 1) d4) rfl (k : Int) rfl (n + 1) L4 (unhide HN4) (unhide HO4) (by omega) (by omega) ?_)
              intro v5 w5 ho5 hb5
              obtain ⟨o5, d5, rfl⟩ := own_is ho5
              have HO5 := hide ho5
              have HB5 := hide ((unhide HB4).trans hb5)
              clear ho5 hb5
              go_wp2
              go_roundw
              case rel => exact ⟨k + 1, n + 1 + 1, by omega, by go_num, by rw [unhide HE, len3, ← unhide HN]; rfl, by rw [unhide HE, ← unhide HL4]; simpa using unhide HO5, unhide HB5⟩
              case measure => simp [intOf]; omega
            · cases p2 : p (k + 1) with
              | false =>
                have HE : Hid (cnP p (k + 1) = cnP p k ++ [(k : Int)] ++ [(k : Int)]) := by
                  show _ = _
                  rw [cnP_s, emR_yes hp true true (st_B p1) (cl_B p2), List.append_assoc]
                  rfl
                have kk0 : ((k : Int) == 0) = false := by simp; omega
                have kk1 : (0 : Int) ≤ (k : Int) - 1 := by omega
                have kk2 : (k : Int) - 1 < 256 := by omega
                have x1 := rM.cell (i := k - 1) (by omega)
                rw [p1] at x1
                have kk3 : ((k : Int) - 1).toNat = k - 1 := by omega
                have kk5 : ((k : Int) == 255) = false := by simp; omega
                have kk6 : (k : Int) + 1 < 256 := by omega
                have HM2 : Hid (∀ W : World, Below w.heap.size w W → W.cell? ⟨mb, 0 + (k + 1), none⟩ = some (.bool false)) := fun W hW => by
                  have h9 := ((unhide HM).of_block (hW.block mb hmb)).cell (i := k + 1) (by omega)
                  rw [p2] at h9
                  rw [Nat.zero_add]
                  exact h9
                clear rM hp p1 p2 k0 k5
                go_wp2_with (at_builtin; refine app_i2 rfl _ _ rfl w.heap.size (.slice oa n oc) rfl (k : Int) rfl n (cnP p k) (unhide HN) (unhide HO) hz3 (by omega) ?_)
                intro v4 w4 ho4 hb4
                obtain ⟨o4, d4, rfl⟩ := own_is ho4
                obtain ⟨L4, hL4⟩ : ∃ L4, L4 = cnP p k ++ [(k : Int)] := ⟨_, rfl⟩
                replace ho4 : w4.ownsRow w.heap.size 3 1 (.slice o4 (n + 1) d4) (n + 1) (L4.map mI) := by rw [hL4, List.map_append]; exact ho4
                have HL4 := hide hL4
                have HN4 : Hid (n + 1 = L4.length) := by rw [hL4]; exact unhide HN1
                clear hL4
                have HO4 := hide ho4
                have HB4 := hide ((unhide HB).trans hb4)
                have hz4 := hb4.size
                have x2 := unhide HM2 w4 (unhide HB4)
                rw [Nat.zero_add] at x2
                clear ho4 hb4
                go_wp2_with (at_builtin; refine app_i2 rfl _ _ rfl w.heap.size (.slice o4 (n + 1) d4) rfl (k : Int) rfl (n + 1) L4 (unhide HN4) (unhide HO4) (by omega) (by omega) ?_)
                intro v5 w5 ho5 hb5
                obtain ⟨o5, d5, rfl⟩ := own_is ho5
                have HO5 := hide ho5
                have HB5 := hide ((unhide HB4).trans hb5)
                clear ho5 hb5
                go_wp2
                go_roundw
                case rel => exact ⟨k + 1, n + 1 + 1, by omega, by go_num, by rw [unhide HE, len3, ← unhide HN]; rfl, by rw [unhide HE, ← unhide HL4]; simpa using unhide HO5, unhide HB5⟩
                case measure => simp [intOf]; omega
              | true =>
                have HE : Hid (cnP p (k + 1) = cnP p k ++ [(k : Int)] ++ []) := by
                  show _ = _
                  rw [cnP_s, emR_yes hp true false (st_B p1) (cl_C k5 p2), List.append_assoc]
                  rfl
                have kk0 : ((k : Int) == 0) = false := by simp; omega
                have kk1 : (0 : Int) ≤ (k : Int) - 1 := by omega
                have kk2 : (k : Int) - 1 < 256 := by omega
                have x1 := rM.cell (i := k - 1) (by omega)
                rw [p1] at x1
                have kk3 : ((k : Int) - 1).toNat = k - 1 := by omega
                have kk5 : ((k : Int) == 255) = false := by simp; omega
                have kk6 : (k : Int) + 1 < 256 := by omega
                have HM2 : Hid (∀ W : World, Below w.heap.size w W → W.cell? ⟨mb, 0 + (k + 1), none⟩ = some (.bool true)) := fun W hW => by
                  have h9 := ((unhide HM).of_block (hW.block mb hmb)).cell (i := k + 1) (by omega)
                  rw [p2] at h9
                  rw [Nat.zero_add]
                  exact h9
                clear rM hp p1 p2 k0 k5
                go_wp2_with (at_builtin; refine app_i2 rfl _ _ rfl w.heap.size (.slice oa n oc) rfl (k : Int) rfl n (cnP p k) (unhide HN) (unhide HO) hz3 (by omega) ?_)
                intro v4 w4 ho4 hb4
                obtain ⟨o4, d4, rfl⟩ := own_is ho4
                obtain ⟨L4, hL4⟩ : ∃ L4, L4 = cnP p k ++ [(k : Int)] := ⟨_, rfl⟩
                replace ho4 : w4.ownsRow w.heap.size 3 1 (.slice o4 (n + 1) d4) (n + 1) (L4.map mI) := by rw [hL4, List.map_append]; exact ho4
                have HL4 := hide hL4
                have HN4 : Hid (n + 1 = L4.length) := by rw [hL4]; exact unhide HN1
                clear hL4
                have HO4 := hide ho4
                have HB4 := hide ((unhide HB).trans hb4)
                have hz4 := hb4.size
                have x2 := unhide HM2 w4 (unhide HB4)
                rw [Nat.zero_add] at x2
                clear ho4 hb4
                go_wp2
                go_roundw
                case rel => exact ⟨k + 1, n + 1, by omega, by go_num, by rw [unhide HE, len3, ← unhide HN]; rfl, by rw [unhide HE, ← unhide HL4]; simpa using unhide HO4, unhide HB4⟩
                case measure => simp [intOf]; omega
          | true =>
            by_cases k5 : k = 255
            · have HE : Hid (cnP p (k + 1) = cnP p k ++ [] ++ [(k : Int)]) := by
                show _ = _
                rw [cnP_s, emR_yes hp false true (st_C k0 p1) (cl_A k5), List.append_assoc]
                rfl
              have kk0 : ((k : Int) == 0) = false := by simp; omega
              have kk1 : (0 : Int) ≤ (k : Int) - 1 := by omega
              have kk2 : (k : Int) - 1 < 256 := by omega
              have x1 := rM.cell (i := k - 1) (by omega)
              rw [p1] at x1
              have kk3 : ((k : Int) - 1).toNat = k - 1 := by omega
              have kk5 : ((k : Int) == 255) = true := by simp; omega
              clear rM hp p1 k0 k5
              go_wp2_with (at_builtin; refine app_i2 rfl _ _ rfl w.heap.size (.slice oa n oc) rfl (k : Int) rfl (n) (cnP p k) (unhide HN) (unhide HO) (by omega) (by omega) ?_)
              intro v5 w5 ho5 hb5
              obtain ⟨o5, d5, rfl⟩ := own_is ho5
              have HO5 := hide ho5
              have HB5 := hide ((unhide HB).trans hb5)
              clear ho5 hb5
              go_wp2
              go_roundw
              case rel => exact ⟨k + 1, n + 1, by omega, by go_num, by rw [unhide HE, len3, ← unhide HN]; rfl, by rw [unhide HE]; simpa using unhide HO5, unhide HB5⟩
              case measure => simp [intOf]; omega
            · cases p2 : p (k + 1) with
              | false =>
                have HE : Hid (cnP p (k + 1) = cnP p k ++ [] ++ [(k : Int)]) := by
                  show _ = _
                  rw [cnP_s, emR_yes hp false true (st_C k0 p1) (cl_B p2), List.append_assoc]
                  rfl
                have kk0 : ((k : Int) == 0) = false := by simp; omega
                have kk1 : (0 : Int) ≤ (k : Int) - 1 := by omega
                have kk2 : (k : Int) - 1 < 256 := by omega
                have x1 := rM.cell (i := k - 1) (by omega)
                rw [p1] at x1
                have kk3 : ((k : Int) - 1).toNat = k - 1 := by omega
                have kk5 : ((k : Int) == 255) = false := by simp; omega
                have kk6 : (k : Int) + 1 < 256 := by omega
                have HM2 : Hid (∀ W : World, Below w.heap.size w W → W.cell? ⟨mb, 0 + (k + 1), none⟩ = some (.bool false)) := fun W hW => by
                  have h9 := ((unhide HM).of_block (hW.block mb hmb)).cell (i := k + 1) (by omega)
                  rw [p2] at h9
                  rw [Nat.zero_add]
                  exact h9
                have x2 := unhide HM2 w3 (unhide HB)
                rw [Nat.zero_add] at x2
                clear rM hp p1 p2 k0 k5
                go_wp2_with (at_builtin; refine app_i2 rfl _ _ rfl w.heap.size (.slice oa n oc) rfl (k : Int) rfl (n) (cnP p k) (unhide HN) (unhide HO) (by omega) (by omega) ?_)
                intro v5 w5 ho5 hb5
                obtain ⟨o5, d5, rfl⟩ := own_is ho5
                have HO5 := hide ho5
                have HB5 := hide ((unhide HB).trans hb5)
                clear ho5 hb5
                go_wp2
                go_roundw
                case rel => exact ⟨k + 1, n + 1, by omega, by go_num, by rw [unhide HE, len3, ← unhide HN]; rfl, by rw [unhide HE]; simpa using unhide HO5, unhide HB5⟩
                case measure => simp [intOf]; omega
              | true =>
                have HE : Hid (cnP p (k + 1) = cnP p k ++ [] ++ []) := by
                  show _ = _
                  rw [cnP_s, emR_yes hp false false (st_C k0 p1) (cl_C k5 p2), List.append_assoc]
                  rfl
                have kk0 : ((k : Int) == 0) = false := by simp; omega
                have kk1 : (0 : Int) ≤ (k : Int) - 1 := by omega
                have kk2 : (k : Int) - 1 < 256 := by omega
                have x1 := rM.cell (i := k - 1) (by omega)
                rw [p1] at x1
                have kk3 : ((k : Int) - 1).toNat = k - 1 := by omega
                have kk5 : ((k : Int) == 255) = false := by simp; omega
                have kk6 : (k : Int) + 1 < 256 := by omega
                have HM2 : Hid (∀ W : World, Below w.heap.size w W → W.cell? ⟨mb, 0 + (k + 1), none⟩ = some (.bool true)) := fun W hW => by
                  have h9 := ((unhide HM).of_block (hW.block mb hmb)).cell (i := k + 1) (by omega)
                  rw [p2] at h9
                  rw [Nat.zero_add]
                  exact h9
                have x2 := unhide HM2 w3 (unhide HB)
                rw [Nat.zero_add] at x2
                clear rM hp p1 p2 k0 k5
                go_wp2
                go_roundw
                case rel => exact ⟨k + 1, n, by omega, by go_num, by rw [unhide HE, len3, ← unhide HN]; rfl, by rw [unhide HE]; simpa using unhide HO, unhide HB⟩
                case measure => simp [intOf]; omega
    · obtain rfl : k = 256 := by omega
      go_wp2
      go_ret
      refine ⟨_, rfl, ?_, unhide HB⟩
      show w3.ownsRow _ _ _ (.slice oa n oc) (cnP p 256).length _
      rw [← unhide HN]
      exact unhide HO
theorem MkAt.eq {w : World} {mb : Nat} {p p' : Nat → Bool} (h : MkAt w mb p) (e : ∀ j, j < 256 → p' j = p j) : MkAt w mb p' := World.rowIs.congr h (fun j hj => by rw [e j hj])
theorem MkAt.put {w : World} {mb : Nat} {p : Nat → Bool} (h : MkAt w mb p) (k : Nat) (v : Bool) : MkAt (w.setCell ⟨mb, k, none⟩ (.bool v)) mb (fun j => if j = k then v else p j) := (World.rowIs.set h k (.bool v)).congr (fun j hj => by by_cases e : j = k <;> simp [e])
theorem mark_made (w : World) : MkAt (w.alloc (.cells (madeCells #[.bool false] 256) 4)) w.heap.size (fun _ => false) := World.rowIs_made w (.bool false) 256 4
theorem mem2_loc {p : Nat → Bool} {lo : Int} {s : List Int} {q : Nat → Bool} {r : List Int} (h : mem2 p lo s = some (q, r)) : ∃ pre, s = pre ++ r ∧ ∀ r', r'.head? = r.head? → mem2 p lo (pre ++ r') = some (q, r') := by
  match s, h with
  | [], h =>
    simp only [mem2] at h
    obtain ⟨rfl, rfl⟩ := Prod.mk.inj (Option.some.inj h)
    refine ⟨[], rfl, fun r' hr => ?_⟩
    cases r' with
    | nil => rfl
    | cons c t => simp at hr
  | c :: t, h =>
    simp only [mem2] at h
    split at h
    · rename_i h1
      cases hc : chr1 t with
      | none => rw [hc] at h; cases h
      | some x =>
        rw [hc] at h
        simp only [Option.bind_some] at h
        split at h
        · cases h
        · rename_i h2
          obtain ⟨rfl, rfl⟩ := Prod.mk.inj (Option.some.inj h)
          obtain ⟨pre, h3, h4, h5⟩ := chr1_loc t x.1 x.2 (by rw [hc])
          refine ⟨c :: pre, by rw [h3]; rfl, fun r' _ => ?_⟩
          simp only [List.cons_append, mem2]
          rw [if_pos h1, h5 r']
          simp only [Option.bind_some]
          rw [if_neg h2]
    · rename_i h1
      obtain ⟨rfl, rfl⟩ := Prod.mk.inj (Option.some.inj h)
      refine ⟨[], rfl, fun r' hr => ?_⟩
      cases r' with
      | nil => simp at hr
      | cons d t' =>
        simp at hr
        subst hr
        simp only [List.nil_append, mem2]
        rw [if_neg h1]
theorem sesB_none {s r r' pre : List Int} {x : Int} (h : chr1 s = some (x, r)) (hs : s = pre ++ r) (hn : sesB s = none) (h0 : ∀ r'', chr1 (pre ++ r'') = some (x, r'')) (hp : 0 < pre.length) : sesB (pre ++ r') = none := by
  match pre, hp with
  | [c], _ =>
    by_cases e : c = 92
    · subst e
      have := h0 []
      simp [chr1, besc] at this
    · simp only [List.cons_append, sesB]
      rw [if_neg e]
  | c :: d :: t, _ =>
    subst hs
    simp only [List.cons_append, sesB] at hn ⊢
    split at hn
    · rename_i h1
      rw [if_pos h1]
      simp only [sesc] at hn ⊢
      split at hn
      · cases hn
      · split at hn
        · cases hn
        · split at hn
          · cases hn
          · rename_i a b c
            rw [if_neg a, if_neg b, if_neg c]
    · rename_i h1
      rw [if_neg h1]
theorem mem1_loc (p : Nat → Bool) : LocH (mem1 p) := fun s q r h => by
  unfold mem1 at h
  cases hs : sesB s with
  | some x =>
    rw [hs] at h
    obtain ⟨cs, t⟩ := x
    simp only at h
    obtain ⟨rfl, rfl⟩ := Prod.mk.inj (Option.some.inj h)
    obtain ⟨pre, h1, h2, h3⟩ := sesB_loc s cs t hs
    exact ⟨pre, h1, h2, fun r' _ => by unfold mem1; rw [h3 r']⟩
  | none =>
    rw [hs] at h
    simp only at h
    cases hc : chr1 s with
    | none => rw [hc] at h; cases h
    | some x =>
      rw [hc] at h
      simp only [Option.bind_some] at h
      obtain ⟨pre, h1, h2, h3⟩ := chr1_loc s x.1 x.2 (by rw [hc])
      obtain ⟨pre2, h4, h5⟩ := mem2_loc h
      refine ⟨pre ++ pre2, by rw [h1, h4]; simp, by simp; omega, fun r' hr => ?_⟩
      unfold mem1
      rw [List.append_assoc, sesB_none (x := x.1) (by rw [hc]) h1 hs h3 h2]
      simp only
      rw [h3]
      simp only [Option.bind_some]
      exact h5 r' hr
theorem clsG_loc : ∀ (n : Nat) (p : Nat → Bool), ∀ s q r, clsG n p s = some (q, r) → ∃ pre, s = pre ++ r ∧ 0 < pre.length ∧ ∀ r' m, n ≤ m → clsG m p (pre ++ r') = some (q, r')
  | 0, p, s, q, r, h => by simp [clsG] at h
  | n + 1, p, [], q, r, h => by simp [clsG] at h
  | n + 1, p, c :: t, q, r, h => by
    simp only [clsG] at h
    split at h
    · rename_i h1
      obtain ⟨rfl, rfl⟩ := Prod.mk.inj (Option.some.inj h)
      refine ⟨[c], rfl, by simp, fun r' m hm => ?_⟩
      cases m with
      | zero => omega
      | succ m => simp only [List.cons_append, List.nil_append, clsG]; rw [if_pos h1]
    · rename_i h1
      cases hm : mem1 p (c :: t) with
      | none => rw [hm] at h; cases h
      | some x =>
        rw [hm] at h
        simp only [Option.bind_some] at h
        obtain ⟨p1, e1, l1, k1⟩ := mem1_loc p (c :: t) x.1 x.2 (by rw [hm])
        obtain ⟨p2, e2, l2, k2⟩ := clsG_loc n x.1 x.2 q r h
        refine ⟨p1 ++ p2, by rw [e1, e2]; simp, by simp; omega, fun r' m hmn => ?_⟩
        cases m with
        | zero => omega
        | succ m =>
          match p1, l1, e1, k1 with
          | d :: p1', _, e1, k1 =>
            simp only [List.cons_append] at e1 ⊢
            have e3 := (List.cons.inj e1).1
            subst e3
            simp only [clsG]
            rw [if_neg h1]
            have := k1 (p2 ++ r') (by rw [e2]; match p2, l2 with | y :: p2', _ => rfl)
            simp only [List.cons_append] at this
            rw [List.append_assoc, this]
            simp only [Option.bind_some]
            exact k2 r' m (by omega)
theorem clsG_fuel : ∀ (n : Nat) (p : Nat → Bool) (s : List Int), s.length < n → ∀ m, n ≤ m → clsG m p s = clsG n p s
  | 0, _, _, h, _, _ => by omega
  | n + 1, p, [], _, m, hm => by
    cases m with
    | zero => omega
    | succ m => simp [clsG]
  | n + 1, p, c :: t, h, m, hm => by
    cases m with
    | zero => omega
    | succ m =>
      simp only [clsG]
      split
      · rfl
      · cases hx : mem1 p (c :: t) with
        | none => rfl
        | some x =>
          simp only [Option.bind_some]
          obtain ⟨p1, e1, l1, -⟩ := mem1_loc p (c :: t) x.1 x.2 (by rw [hx])
          have := congrArg List.length e1
          simp at this h
          exact clsG_fuel n x.1 x.2 (by omega) m (by omega)
theorem cls_loc : Loc cls := fun s x r h => by
  match s, h with
  | c :: t, h =>
    simp only [cls] at h
    split at h
    · rename_i h1
      cases hc : clsG (t.length + 1) (fun _ => false) t with
      | none => rw [hc] at h; cases h
      | some y =>
        rw [hc] at h
        simp only [Option.map_some] at h
        obtain ⟨rfl, rfl⟩ := Prod.mk.inj (Option.some.inj h)
        obtain ⟨pre, e1, l1, k1⟩ := clsG_loc _ _ t y.1 y.2 (by rw [hc])
        refine ⟨c :: pre, by rw [e1]; rfl, by simp, fun r' => ?_⟩
        simp only [List.cons_append, cls]
        rw [if_pos h1]
        have h5 := k1 r' (max (t.length + 1) ((pre ++ r').length + 1)) (by omega)
        rw [clsG_fuel ((pre ++ r').length + 1) _ _ (by omega) _ (by omega)] at h5
        rw [h5]
        rfl
    · rename_i h1
      cases hc : clsG (t.length + 2) (fun _ => false) (c :: t) with
      | none => rw [hc] at h; cases h
      | some y =>
        rw [hc] at h
        simp only [Option.map_some] at h
        obtain ⟨rfl, rfl⟩ := Prod.mk.inj (Option.some.inj h)
        obtain ⟨pre, e1, l1, k1⟩ := clsG_loc _ _ (c :: t) y.1 y.2 (by rw [hc])
        match pre, l1, e1, k1 with
        | d :: pre, _, e1, k1 =>
          have e3 := (List.cons.inj e1).1
          subst e3
          refine ⟨c :: pre, e1, by simp, fun r' => ?_⟩
          simp only [List.cons_append, cls]
          rw [if_neg h1]
          have h5 := k1 r' (max (t.length + 2) ((pre ++ r').length + 2)) (by omega)
          simp only [List.cons_append] at h5
          rw [clsG_fuel ((pre ++ r').length + 2) _ _ (by simp) _ (by omega)] at h5
          rw [h5]
          rfl
theorem take_hd {s r' : List Int} (h : r'.head? = (s.dropWhile isD).head?) : (s.takeWhile isD ++ r').takeWhile isD = s.takeWhile isD ∧ (s.takeWhile isD ++ r').dropWhile isD = r' := by
  have key : r'.takeWhile isD = [] ∧ r'.dropWhile isD = r' := by
    cases r' with
    | nil => exact ⟨rfl, rfl⟩
    | cons c t =>
      simp only [List.head?_cons] at h
      have hc : isD c = false := by
        clear t
        induction s with
        | nil => simp at h
        | cons d u ih =>
          rw [List.dropWhile_cons] at h
          split at h
          · exact ih h
          · rename_i hd
            simp at h
            subst h
            simpa using hd
      exact ⟨by rw [List.takeWhile_cons, hc]; rfl, by rw [List.dropWhile_cons, hc]; rfl⟩
  clear h
  induction s with
  | nil => exact key
  | cons d u ih =>
    rw [List.takeWhile_cons]
    split
    · rename_i hd
      rw [List.cons_append, List.takeWhile_cons, if_pos hd, List.dropWhile_cons, if_pos hd, ih.1, ih.2]
      exact ⟨rfl, rfl⟩
    · exact key
theorem num1_loc : LocH num1 := fun s x r h => by
  unfold num1 at h
  split at h
  · cases h
  · rename_i h1
    obtain ⟨rfl, rfl⟩ := Prod.mk.inj (Option.some.inj h)
    refine ⟨s.takeWhile isD, (List.takeWhile_append_dropWhile).symm, by omega, fun r' hr => ?_⟩
    obtain ⟨e1, e2⟩ := take_hd hr
    unfold num1
    rw [e1, e2, if_neg h1]
theorem brc3_loc (lo : Int) : Loc (brc3 lo) := fun s x r h => by
  match s, h with
  | c :: t, h =>
    simp only [brc3] at h
    split at h
    · rename_i h1
      obtain ⟨rfl, rfl⟩ := Prod.mk.inj (Option.some.inj h)
      exact ⟨[c], rfl, by simp, fun r' => by simp only [List.cons_append, List.nil_append, brc3]; rw [if_pos h1]⟩
    · rename_i h1
      cases hn : num1 (c :: t) with
      | none => rw [hn] at h; cases h
      | some y =>
        rw [hn] at h
        simp only [Option.bind_some] at h
        split at h
        · cases h
        · rename_i h2
          obtain ⟨v, u⟩ := y
          simp only at h h2
          obtain ⟨p1, e1, l1, k1⟩ := num1_loc _ _ _ hn
          match u, h with
          | d :: r2, h =>
            simp only at h
            split at h
            · rename_i h3
              obtain ⟨rfl, rfl⟩ := Prod.mk.inj (Option.some.inj h)
              match p1, l1, e1, k1 with
              | c' :: p1, _, e1, k1 =>
                have e3 := (List.cons.inj e1).1
                subst e3
                refine ⟨c :: (p1 ++ [d]), by rw [e1]; simp, by simp, fun r' => ?_⟩
                simp only [List.cons_append, brc3]
                have h5 := k1 (d :: r') rfl
                simp only [List.cons_append] at h5
                rw [if_neg h1, show p1 ++ [d] ++ r' = p1 ++ d :: r' by simp, h5]
                simp only [Option.bind_some]
                rw [if_neg h2]
                exact if_pos h3
            · cases h
theorem brc2_loc (lo : Int) : Loc (brc2 lo) := fun s x r h => by
  match s, h with
  | c :: t, h =>
    simp only [brc2] at h
    split at h
    · rename_i h1
      obtain ⟨rfl, rfl⟩ := Prod.mk.inj (Option.some.inj h)
      exact ⟨[c], rfl, by simp, fun r' => by simp only [List.cons_append, List.nil_append, brc2]; rw [if_pos h1]⟩
    · rename_i h1
      split at h
      · rename_i h2
        obtain ⟨p1, e1, l1, k1⟩ := brc3_loc lo _ _ _ h
        exact ⟨c :: p1, by rw [e1]; rfl, by simp, fun r' => by simp only [List.cons_append, brc2]; rw [if_neg h1, if_pos h2]; exact k1 r'⟩
      · cases h
theorem brc_loc : Loc brc := fun s x r h => by
  unfold brc at h
  cases hn : num1 s with
  | none => rw [hn] at h; cases h
  | some y =>
    rw [hn] at h
    simp only [Option.bind_some] at h
    obtain ⟨p1, e1, l1, k1⟩ := num1_loc s y.1 y.2 (by rw [hn])
    obtain ⟨p2, e2, l2, k2⟩ := brc2_loc y.1 _ _ _ h
    refine ⟨p1 ++ p2, by rw [e1, e2]; simp, by simp; omega, fun r' => ?_⟩
    unfold brc
    rw [List.append_assoc, k1 (p2 ++ r') (by rw [e2]; match p2, l2 with | y :: p2', _ => rfl)]
    simp only [Option.bind_some]
    exact k2 r'
theorem sesc_none {s r r' p : List Int} {x : Int} (h : besc s = some (x, r)) (hn : sesc s = none) (hs : s = p ++ r) (hp : 0 < p.length) : sesc (p ++ r') = none := by
  match p, hp with
  | c :: t, _ =>
    subst hs
    simp only [List.cons_append, sesc] at hn ⊢
    split at hn
    · cases hn
    · split at hn
      · cases hn
      · split at hn
        · cases hn
        · rename_i a b c
          rw [if_neg a, if_neg b, if_neg c]
theorem lx_loc : Loc lx := fun s x r h => by
  match s, h with
  | c :: t, h =>
    have one : ∀ {u : Tk}, some (u, t) = some (x, r) → (∀ r', lx (c :: r') = some (u, r')) → ∃ p, c :: t = p ++ r ∧ 0 < p.length ∧ ∀ r', lx (p ++ r') = some (x, r') := fun e k => by
      obtain ⟨rfl, rfl⟩ := Prod.mk.inj (Option.some.inj e)
      exact ⟨[c], rfl, by simp, fun r' => k r'⟩
    rw [lx] at h
    by_cases h1 : c = 40
    · rw [if_pos h1] at h
      exact one h (fun r' => by rw [lx, if_pos h1])
    rw [if_neg h1] at h
    by_cases h2 : c = 41
    · rw [if_pos h2] at h
      exact one h (fun r' => by rw [lx, if_neg h1, if_pos h2])
    rw [if_neg h2] at h
    by_cases h3 : c = 124
    · rw [if_pos h3] at h
      exact one h (fun r' => by rw [lx, if_neg h1, if_neg h2, if_pos h3])
    rw [if_neg h3] at h
    by_cases h4 : c = 42
    · rw [if_pos h4] at h
      exact one h (fun r' => by rw [lx, if_neg h1, if_neg h2, if_neg h3, if_pos h4])
    rw [if_neg h4] at h
    by_cases h5 : c = 43
    · rw [if_pos h5] at h
      exact one h (fun r' => by rw [lx, if_neg h1, if_neg h2, if_neg h3, if_neg h4, if_pos h5])
    rw [if_neg h5] at h
    by_cases h6 : c = 63
    · rw [if_pos h6] at h
      exact one h (fun r' => by rw [lx, if_neg h1, if_neg h2, if_neg h3, if_neg h4, if_neg h5, if_pos h6])
    rw [if_neg h6] at h
    by_cases h7 : c = 123
    · rw [if_pos h7] at h
      cases hb : brc t with
      | none => rw [hb] at h; cases h
      | some y =>
        rw [hb] at h
        simp only [Option.map_some] at h
        obtain ⟨rfl, rfl⟩ := Prod.mk.inj (Option.some.inj h)
        obtain ⟨p1, e1, l1, k1⟩ := brc_loc t y.1 y.2 (by rw [hb])
        refine ⟨c :: p1, by rw [e1]; rfl, by simp, fun r' => ?_⟩
        rw [List.cons_append, lx, if_neg h1, if_neg h2, if_neg h3, if_neg h4, if_neg h5, if_neg h6, if_pos h7, k1 r']
        rfl
    rw [if_neg h7] at h
    by_cases h8 : c = 46
    · rw [if_pos h8] at h
      exact one h (fun r' => by rw [lx, if_neg h1, if_neg h2, if_neg h3, if_neg h4, if_neg h5, if_neg h6, if_neg h7, if_pos h8])
    rw [if_neg h8] at h
    by_cases h9 : c = 91
    · rw [if_pos h9] at h
      cases hb : cls t with
      | none => rw [hb] at h; cases h
      | some y =>
        rw [hb] at h
        simp only [Option.map_some] at h
        obtain ⟨rfl, rfl⟩ := Prod.mk.inj (Option.some.inj h)
        obtain ⟨p1, e1, l1, k1⟩ := cls_loc t y.1 y.2 (by rw [hb])
        refine ⟨c :: p1, by rw [e1]; rfl, by simp, fun r' => ?_⟩
        rw [List.cons_append, lx, if_neg h1, if_neg h2, if_neg h3, if_neg h4, if_neg h5, if_neg h6, if_neg h7, if_neg h8, if_pos h9, k1 r']
        rfl
    rw [if_neg h9] at h
    by_cases h10 : c = 92
    · rw [if_pos h10] at h
      cases hb : sesc t with
      | some y =>
        rw [hb] at h
        simp only at h
        obtain ⟨rfl, rfl⟩ := Prod.mk.inj (Option.some.inj h)
        obtain ⟨p1, e1, l1, k1⟩ := sesc_loc t y.1 y.2 (by rw [hb])
        refine ⟨c :: p1, by rw [e1]; rfl, by simp, fun r' => ?_⟩
        rw [List.cons_append, lx, if_neg h1, if_neg h2, if_neg h3, if_neg h4, if_neg h5, if_neg h6, if_neg h7, if_neg h8, if_neg h9, if_pos h10, k1 r']
      | none =>
        rw [hb] at h
        simp only at h
        cases hc : besc t with
        | none => rw [hc] at h; cases h
        | some y =>
          rw [hc] at h
          simp only [Option.map_some] at h
          obtain ⟨rfl, rfl⟩ := Prod.mk.inj (Option.some.inj h)
          obtain ⟨p1, e1, l1, k1⟩ := besc_loc t y.1 y.2 (by rw [hc])
          refine ⟨c :: p1, by rw [e1]; rfl, by simp, fun r' => ?_⟩
          rw [List.cons_append, lx, if_neg h1, if_neg h2, if_neg h3, if_neg h4, if_neg h5, if_neg h6, if_neg h7, if_neg h8, if_neg h9, if_pos h10, sesc_none (x := y.1) (by rw [hc]) hb e1 l1]
          simp only
          rw [k1 r']
          rfl
    rw [if_neg h10] at h
    by_cases h11 : c ∈ spcZ
    · rw [if_pos h11] at h; cases h
    · rw [if_neg h11] at h
      exact one h (fun r' => by rw [lx, if_neg h1, if_neg h2, if_neg h3, if_neg h4, if_neg h5, if_neg h6, if_neg h7, if_neg h8, if_neg h9, if_neg h10, if_neg h11])
def Lxs : List Int → List Tk → List Int → Prop
  | s, [], u => s = u
  | s, t :: ts, u => ∃ r, lx s = some (t, r) ∧ Lxs r ts u
theorem Lxs.nil (s : List Int) : Lxs s [] s := rfl
theorem Lxs.cons {s r u : List Int} {t : Tk} {ts : List Tk} (h : lx s = some (t, r)) (k : Lxs r ts u) : Lxs s (t :: ts) u := ⟨r, h, k⟩
theorem Lxs.part {ts : List Tk} : ∀ {s u : List Int}, Lxs s ts u → ∃ p, s = p ++ u ∧ ∀ u', Lxs (p ++ u') ts u' := by
  induction ts with
  | nil => intro s u h; obtain rfl : s = u := h; exact ⟨[], rfl, fun u' => .nil _⟩
  | cons t ts ih =>
    rintro s u ⟨r, h1, h2⟩
    obtain ⟨p, e, k⟩ := ih h2
    obtain ⟨p1, e1, -, k1⟩ := lx_loc _ _ _ h1
    refine ⟨p1 ++ p, by rw [e1, e]; simp, fun u' => ?_⟩
    rw [List.append_assoc]
    exact .cons (k1 _) (k u')
theorem Lxs.app {ts us : List Tk} : ∀ {s r u : List Int}, Lxs s ts r → Lxs r us u → Lxs s (ts ++ us) u := by
  induction ts with
  | nil => intro s r u h k; obtain rfl : s = r := h; exact k
  | cons t ts ih =>
    rintro s r u ⟨r', h1, h2⟩ k
    exact ⟨r', h1, ih h2 k⟩
theorem Lxs.one {ts : List Tk} : ∀ {s u u' : List Int} {ts' : List Tk}, Lxs s ts u → Lxs s ts' u' → lx u = none → lx u' = none → ts = ts' ∧ u = u' := by
  induction ts with
  | nil =>
    intro s u u' ts' h k hu hu'
    obtain rfl : s = u := h
    cases ts' with
    | nil => exact ⟨rfl, k⟩
    | cons t ts' => obtain ⟨r, h1, -⟩ := k; rw [hu] at h1; cases h1
  | cons t ts ih =>
    rintro s u u' ts' ⟨r, h1, h2⟩ k hu hu'
    cases ts' with
    | nil => obtain rfl : s = u' := k; rw [hu'] at h1; cases h1
    | cons t' ts' =>
      obtain ⟨r', k1, k2⟩ := k
      rw [h1] at k1
      obtain ⟨rfl, rfl⟩ := Prod.mk.inj (Option.some.inj k1)
      obtain ⟨rfl, rfl⟩ := ih h2 k2 hu hu'
      exact ⟨rfl, rfl⟩
theorem Lxs.dollar {s : List Int} {ts : List Tk} : Lxs (s ++ [36]) ts [36] ↔ Lxs s ts [] := by
  constructor
  · intro h
    obtain ⟨p, e, k⟩ := h.part
    have := (List.append_inj' e rfl).1
    subst this
    have := k []
    rwa [List.append_nil] at this
  · intro h
    obtain ⟨p, e, k⟩ := h.part
    rw [List.append_nil] at e
    subst e
    exact k [36]
/-! Reading a text from left to right. -/
abbrev Rd := Option (Tr × List Tk × List Int)
def catEnd : List Int → Bool
  | [] => true
  | c :: _ => c == 124 || c == 41 || c == 36
def altEnd : List Int → Bool
  | [] => true
  | c :: _ => c == 41 || c == 36
def repHd : List Int → Bool
  | [] => false
  | c :: _ => c == 42 || c == 43 || c == 63 || c == 123
def rdRep (T : Tr) (ts : List Tk) (s : List Int) : Rd :=
  if repHd s then (match lx s with
    | some (.inr (.inl (lo, hi)), r) => some (.rep T lo hi, ts ++ [.inr (.inl (lo, hi))], r)
    | _ => none) else some (T, ts, s)
def rdG : Nat → Nat → Tr → List Tk → List Int → Rd
  | 0, _, _, _, _ => none
  | n + 1, 0, _, _, s => (rdG n 2 .e [] s).bind fun x => rdG n 1 x.1 x.2.1 x.2.2
  | n + 1, 1, T, ts, s => match s with
    | [] => some (T, ts, [])
    | c :: r => if c = 124 then (rdG n 2 .e [] r).bind fun x => rdG n 1 (.alt T x.1) (ts ++ .inr (.inr (.inr ())) :: x.2.1) x.2.2 else some (T, ts, c :: r)
  | n + 1, 2, _, _, s => if catEnd s then some (.e, [], s) else (rdG n 4 .e [] s).bind fun x => rdG n 3 x.1 x.2.1 x.2.2
  | n + 1, 3, T, ts, s => if catEnd s then some (T, ts, s) else (rdG n 4 .e [] s).bind fun x => rdG n 3 (.cat T x.1) (ts ++ x.2.1) x.2.2
  | n + 1, 4, _, _, s => (rdG n 5 .e [] s).bind fun x => rdRep x.1 x.2.1 x.2.2
  | n + 1, _ + 5, _, _, s => match s with
    | [] => none
    | c :: r => if c = 40 then (rdG n 0 .e [] r).bind fun x => (match x.2.2 with
      | d :: r2 => if d = 41 then some (x.1, .inr (.inr (.inl true)) :: (x.2.1 ++ [.inr (.inr (.inl false))]), r2) else none
      | [] => none) else (match lx (c :: r) with
      | some (.inl cs, r2) => some (.s cs, [.inl cs], r2)
      | _ => none)
def rdAlt (n : Nat) (s : List Int) : Rd := rdG n 0 .e [] s
def rdAltL (n : Nat) (T : Tr) (ts : List Tk) (s : List Int) : Rd := rdG n 1 T ts s
def rdCat (n : Nat) (s : List Int) : Rd := rdG n 2 .e [] s
def rdCatL (n : Nat) (T : Tr) (ts : List Tk) (s : List Int) : Rd := rdG n 3 T ts s
def rdItem (n : Nat) (s : List Int) : Rd := rdG n 4 .e [] s
def rdAtom (n : Nat) (s : List Int) : Rd := rdG n 5 .e [] s
theorem rdAlt_s (n : Nat) (s : List Int) : rdAlt (n + 1) s = (rdCat n s).bind fun x => rdAltL n x.1 x.2.1 x.2.2 := rfl
theorem rdAltL_n (n : Nat) (T : Tr) (ts : List Tk) : rdAltL (n + 1) T ts [] = some (T, ts, []) := rfl
theorem rdAltL_c (n : Nat) (T : Tr) (ts : List Tk) (c : Int) (r : List Int) : rdAltL (n + 1) T ts (c :: r) = if c = 124 then (rdCat n r).bind fun x => rdAltL n (.alt T x.1) (ts ++ .inr (.inr (.inr ())) :: x.2.1) x.2.2 else some (T, ts, c :: r) := rfl
theorem rdCat_s (n : Nat) (s : List Int) : rdCat (n + 1) s = if catEnd s then some (.e, [], s) else (rdItem n s).bind fun x => rdCatL n x.1 x.2.1 x.2.2 := rfl
theorem rdCatL_s (n : Nat) (T : Tr) (ts : List Tk) (s : List Int) : rdCatL (n + 1) T ts s = if catEnd s then some (T, ts, s) else (rdItem n s).bind fun x => rdCatL n (.cat T x.1) (ts ++ x.2.1) x.2.2 := rfl
theorem rdItem_s (n : Nat) (s : List Int) : rdItem (n + 1) s = (rdAtom n s).bind fun x => rdRep x.1 x.2.1 x.2.2 := rfl
def rdCl (x : Tr × List Tk × List Int) : Rd := match x.2.2 with
  | d :: r2 => if d = 41 then some (x.1, .inr (.inr (.inl true)) :: (x.2.1 ++ [.inr (.inr (.inl false))]), r2) else none
  | [] => none
def rdSet (s : List Int) : Rd := match lx s with
  | some (.inl cs, r2) => some (.s cs, [.inl cs], r2)
  | _ => none
theorem rdAtom_c (n : Nat) (c : Int) (r : List Int) : rdAtom (n + 1) (c :: r) = if c = 40 then (rdAlt n r).bind rdCl else rdSet (c :: r) := rfl
theorem Lxs.split {us vs : List Tk} : ∀ {s r : List Int}, Lxs s (us ++ vs) r → ∃ m, Lxs s us m ∧ Lxs m vs r := by
  induction us with
  | nil => exact fun h => ⟨_, .nil _, h⟩
  | cons u us ih =>
    intro s r h
    obtain ⟨r', h1, h2⟩ := h
    obtain ⟨m, h3, h4⟩ := ih h2
    exact ⟨m, .cons h1 h3, h4⟩
def HdOf (s r : List Int) : Tk → Prop
  | .inr (.inr (.inl true)) => s = 40 :: r
  | .inr (.inr (.inl false)) => s = 41 :: r
  | .inr (.inr (.inr ())) => s = 124 :: r
  | .inr (.inl _) => repHd s = true
  | .inl _ => repHd s = false ∧ catEnd s = false ∧ ∀ u, s ≠ 40 :: u
theorem lx_inv {s r : List Int} {t : Tk} (h : lx s = some (t, r)) : HdOf s r t := by
  match s, h with
  | c :: q, h =>
    rw [lx] at h
    by_cases h1 : c = 40
    · rw [if_pos h1] at h; cases h; simp [HdOf, h1]
    rw [if_neg h1] at h
    by_cases h2 : c = 41
    · rw [if_pos h2] at h; cases h; simp [HdOf, h2]
    rw [if_neg h2] at h
    by_cases h3 : c = 124
    · rw [if_pos h3] at h; cases h; simp [HdOf, h3]
    rw [if_neg h3] at h
    by_cases h4 : c = 42
    · rw [if_pos h4] at h; cases h; simp [HdOf, repHd, h4]
    rw [if_neg h4] at h
    by_cases h5 : c = 43
    · rw [if_pos h5] at h; cases h; simp [HdOf, repHd, h5]
    rw [if_neg h5] at h
    by_cases h6 : c = 63
    · rw [if_pos h6] at h; cases h; simp [HdOf, repHd, h6]
    rw [if_neg h6] at h
    by_cases h7 : c = 123
    · rw [if_pos h7] at h
      cases hb : brc q with
      | none => rw [hb] at h; cases h
      | some y => rw [hb] at h; cases h; simp [HdOf, repHd, h7]
    rw [if_neg h7] at h
    have h36 : c = 36 → t = t ∧ False := fun e => by
      subst e
      rw [if_neg (by decide), if_neg (by decide), if_neg (by decide), if_pos (by decide)] at h
      cases h
    have hset : ∀ cs, t = .inl cs → HdOf (c :: q) r t := fun cs e => by
      subst e
      refine ⟨by simp [repHd, h4, h5, h6, h7], ?_, fun u e => h1 (List.cons.inj e).1⟩
      simp [catEnd, h2, h3]
      intro e
      exact (h36 e).2
    by_cases h8 : c = 46
    · rw [if_pos h8] at h; exact hset _ (Prod.mk.inj (Option.some.inj h)).1.symm
    rw [if_neg h8] at h
    by_cases h9 : c = 91
    · rw [if_pos h9] at h
      cases hb : cls q with
      | none => rw [hb] at h; cases h
      | some y => rw [hb] at h; exact hset _ (Prod.mk.inj (Option.some.inj h)).1.symm
    rw [if_neg h9] at h
    by_cases h10 : c = 92
    · rw [if_pos h10] at h
      cases hb : sesc q with
      | some y => rw [hb] at h; exact hset _ (Prod.mk.inj (Option.some.inj h)).1.symm
      | none =>
        rw [hb] at h
        simp only at h
        cases hc : besc q with
        | none => rw [hc] at h; cases h
        | some y => rw [hc] at h; exact hset _ (Prod.mk.inj (Option.some.inj h)).1.symm
    rw [if_neg h10] at h
    by_cases h11 : c ∈ spcZ
    · rw [if_pos h11] at h; cases h
    · rw [if_neg h11] at h; exact hset _ (Prod.mk.inj (Option.some.inj h)).1.symm
theorem Gr.first {n : Nat} {ts : List Tk} {T : Tr} (h : Gr n ts T) : n < 3 → ∃ t us, ts = t :: us ∧ ((∃ cs, t = .inl cs) ∨ t = .inr (.inr (.inl true))) := by
  refine h.ind (Q := fun n ts _ => n < 3 → ∃ t us, ts = t :: us ∧ ((∃ cs, t = .inl cs) ∨ t = .inr (.inr (.inl true)))) ?_ ?_ ?_ ?_ ?_ ?_ ?_ ?_ ?_ ?_
  · intro cs _; exact ⟨_, _, rfl, .inl ⟨cs, rfl⟩⟩
  · intro ts T _ _ _; exact ⟨_, _, rfl, .inr rfl⟩
  · intro ts T _ ih _; exact ih (by omega)
  · intro ts T lo hi _ ih _; obtain ⟨t, us, rfl, h⟩ := ih (by omega); exact ⟨t, _, rfl, h⟩
  · intro ts T _ ih _; exact ih (by omega)
  · intro us vs A B _ _ i1 _ _; obtain ⟨t, us, rfl, h⟩ := i1 (by omega); exact ⟨t, _, rfl, h⟩
  · intro h; omega
  · intro ts T _ _ h; omega
  · intro us A _ _ h; omega
  · intro us vs A B _ _ _ _ h; omega
theorem Gr.start {n : Nat} {ts : List Tk} {T : Tr} {s r : List Int} (h : Gr n ts T) (hn : n < 3) (hl : Lxs s ts r) : catEnd s = false ∧ repHd s = false := by
  obtain ⟨t, us, rfl, h1⟩ := h.first hn
  obtain ⟨r', h2, -⟩ := hl
  rcases h1 with ⟨cs, rfl⟩ | rfl
  · have : repHd s = false ∧ catEnd s = false ∧ ∀ u, s ≠ 40 :: u := lx_inv h2
    exact ⟨this.2.1, this.1⟩
  · have : s = 40 :: _ := lx_inv h2
    rw [this]
    exact ⟨rfl, rfl⟩
theorem end_rep {r : List Int} (h : catEnd r = true) : repHd r = false := by
  cases r with
  | nil => rfl
  | cons c t =>
    simp [catEnd] at h
    rcases h with (rfl | rfl) | rfl <;> rfl
def Cmp : Nat → List Tk → Tr → Prop
  | 0, ts, T => ∀ s r, Lxs s ts r → ∃ N, ∀ n, N ≤ n → rdAtom n s = some (T, ts, r)
  | 1, ts, T => ∀ s r, Lxs s ts r → repHd r = false → ∃ N, ∀ n, N ≤ n → rdItem n s = some (T, ts, r)
  | 2, ts, T => ∀ s r, Lxs s ts r → repHd r = false → ∃ k N, ∀ n, N ≤ n → rdCat (n + k) s = rdCatL n T ts r
  | _, ts, T => ∀ s r, Lxs s ts r → catEnd r = true → ∃ k N, ∀ n, N ≤ n → rdAlt (n + k) s = rdAltL n T ts r
theorem rdAltL_end {n : Nat} {T : Tr} {ts : List Tk} {r : List Int} (h : altEnd r = true) : rdAltL (n + 1) T ts r = some (T, ts, r) := by
  cases r with
  | nil => rw [rdAltL_n]
  | cons c t =>
    simp [altEnd] at h
    rw [rdAltL_c, if_neg (by rcases h with rfl | rfl <;> decide)]
theorem cat_done {s r : List Int} {ts : List Tk} {T : Tr} (h : ∃ k N, ∀ n, N ≤ n → rdCat (n + k) s = rdCatL n T ts r) (hr : catEnd r = true) : ∃ N, ∀ n, N ≤ n → rdCat n s = some (T, ts, r) := by
  obtain ⟨k, N, h⟩ := h
  refine ⟨N + 1 + k, fun n hn => ?_⟩
  obtain ⟨m, rfl⟩ : ∃ m, n = m + 1 + k := ⟨n - 1 - k, by omega⟩
  rw [h (m + 1) (by omega), rdCatL_s, if_pos hr]
theorem rd_complete {n : Nat} {ts : List Tk} {T : Tr} (h : Gr n ts T) : Cmp n ts T := by
  refine h.ind (Q := Cmp) ?_ ?_ ?_ ?_ ?_ ?_ ?_ ?_ ?_ ?_
  · rintro cs s r ⟨r', h1, h2⟩
    obtain rfl : r' = r := h2
    refine ⟨1, fun n hn => ?_⟩
    obtain ⟨m, rfl⟩ : ∃ m, n = m + 1 := ⟨n - 1, by omega⟩
    have h9 : repHd s = false ∧ catEnd s = false ∧ ∀ u, s ≠ 40 :: u := lx_inv h1
    have h3 := h9.2.2
    match s, h1, h3 with
    | c :: t, h1, h3 =>
      rw [rdAtom_c, if_neg (fun e => h3 t (by rw [e])), rdSet, h1]
  · rintro ts T h ih s r ⟨r', h1, h2⟩
    obtain ⟨m, h3, r2, h5, h6⟩ := Lxs.split h2
    obtain rfl : r2 = r := h6
    have e1 : s = 40 :: _ := lx_inv h1
    have e2 : m = 41 :: _ := lx_inv h5
    subst e1 e2
    obtain ⟨k, N, h7⟩ := ih _ _ h3 rfl
    refine ⟨N + 1 + k + 1, fun n hn => ?_⟩
    obtain ⟨m, rfl⟩ : ∃ m, n = m + 1 + k + 1 := ⟨n - 1 - k - 1, by omega⟩
    rw [rdAtom_c, if_pos rfl, h7 (m + 1) (by omega), rdAltL_end rfl]
    rfl
  · intro ts T h ih s r hl hr
    obtain ⟨N, h1⟩ := ih s r hl
    refine ⟨N + 1, fun n hn => ?_⟩
    obtain ⟨m, rfl⟩ : ∃ m, n = m + 1 := ⟨n - 1, by omega⟩
    rw [rdItem_s, h1 m (by omega), Option.bind_some]
    simp [rdRep, hr]
  · intro ts T lo hi h ih s r hl hr
    obtain ⟨u, h3, r2, h5, h6⟩ := Lxs.split hl
    obtain rfl : r2 = r := h6
    obtain ⟨N, h1⟩ := ih s u h3
    refine ⟨N + 1, fun n hn => ?_⟩
    obtain ⟨m, rfl⟩ : ∃ m, n = m + 1 := ⟨n - 1, by omega⟩
    rw [rdItem_s, h1 m (by omega), Option.bind_some]
    have : repHd u = true := lx_inv h5
    simp [rdRep, this, h5]
  · intro ts T h ih s r hl hr
    obtain ⟨N, h1⟩ := ih s r hl hr
    refine ⟨1, N, fun n hn => ?_⟩
    rw [rdCat_s, if_neg (by rw [(h.start (by omega) hl).1]; simp), h1 n hn, Option.bind_some]
  · intro us vs A B h1 h2 i1 i2 s r hl hr
    obtain ⟨u, h3, h4⟩ := Lxs.split hl
    have hs := h2.start (by omega) h4
    obtain ⟨k, N, e1⟩ := i1 s u h3 hs.2
    obtain ⟨N2, e2⟩ := i2 u r h4 hr
    refine ⟨1 + k, max N N2, fun n hn => ?_⟩
    rw [← Nat.add_assoc, e1 (n + 1) (by omega), rdCatL_s, if_neg (by rw [hs.1]; simp), e2 n (by omega), Option.bind_some]
  · intro s r hl hr
    obtain rfl : s = r := hl
    refine ⟨1, 1, fun n hn => ?_⟩
    obtain ⟨m, rfl⟩ : ∃ m, n = m + 1 := ⟨n - 1, by omega⟩
    rw [rdAlt_s, rdCat_s, if_pos hr, Option.bind_some]
  · intro ts T h ih s r hl hr
    obtain ⟨N, h1⟩ := cat_done (ih s r hl (end_rep hr)) hr
    refine ⟨1, N, fun n hn => ?_⟩
    rw [rdAlt_s, h1 n hn, Option.bind_some]
  · intro us A h ih s r hl hr
    obtain ⟨u, h3, r2, h5, h6⟩ := Lxs.split hl
    obtain rfl : r2 = r := h6
    have e1 : u = 124 :: _ := lx_inv h5
    subst e1
    obtain ⟨k, N, e2⟩ := ih s _ h3 rfl
    refine ⟨1 + k, N + 1, fun n hn => ?_⟩
    obtain ⟨m, rfl⟩ : ∃ m, n = m + 1 := ⟨n - 1, by omega⟩
    rw [← Nat.add_assoc, e2 (m + 1 + 1) (by omega), rdAltL_c, if_pos rfl, rdCat_s, if_pos hr, Option.bind_some]
  · intro us vs A B h1 h2 i1 i2 s r hl hr
    obtain ⟨u, h3, r2, h5, h6⟩ := Lxs.split hl
    have e1 : u = 124 :: _ := lx_inv h5
    subst e1
    obtain ⟨k, N, e2⟩ := i1 s _ h3 rfl
    obtain ⟨N2, e3⟩ := cat_done (i2 _ r h6 (end_rep hr)) hr
    refine ⟨1 + k, max N N2, fun n hn => ?_⟩
    rw [← Nat.add_assoc, e2 (n + 1) (by omega), rdAltL_c, if_pos rfl, e3 n (by omega), Option.bind_some]
theorem rd_all {s r : List Int} {ts : List Tk} {T : Tr} (hl : Lxs s ts r) (h : Gr 3 ts T) (hr : altEnd r = true) : ∃ N, ∀ n, N ≤ n → rdAlt n s = some (T, ts, r) := by
  have hc : catEnd r = true := by
    cases r with
    | nil => rfl
    | cons c t => simp [altEnd] at hr; simp [catEnd]; rcases hr with h | h <;> simp [h]
  obtain ⟨k, N, e⟩ := rd_complete h s r hl hc
  refine ⟨N + 1 + k, fun n hn => ?_⟩
  obtain ⟨m, rfl⟩ : ∃ m, n = m + 1 + k := ⟨n - 1 - k, by omega⟩
  rw [e (m + 1) (by omega), rdAltL_end hr]
/-! The limits of a text, by its tokens; what both readers answer. -/
def Ev {α : Type} (f : Nat → α) (x : α) : Prop := ∃ N, ∀ n, N ≤ n → f n = x
theorem Ev.one {α : Type} {f : Nat → α} {x y : α} (h : Ev f x) (k : Ev f y) : x = y := by
  obtain ⟨N, h⟩ := h
  obtain ⟨M, k⟩ := k
  rw [← h (max N M) (by omega), ← k (max N M) (by omega)]
def Prs (s : List Int) (T : Tr) (ts : List Tk) (b : Bool) : Prop := Gr 3 ts T ∧ ((b = false ∧ Lxs s ts []) ∨ (b = true ∧ ∃ s', s = s' ++ [36] ∧ Lxs s' ts []))
theorem rd_of_prs {s : List Int} {T : Tr} {ts : List Tk} {b : Bool} (h : Prs s T ts b) : Ev (fun n => rdAlt n s) (some (T, ts, if b then [36] else [])) := by
  rcases h with ⟨h1, ⟨rfl, h2⟩ | ⟨rfl, s', rfl, h2⟩⟩
  · exact rd_all h2 h1 rfl
  · exact rd_all (Lxs.dollar.2 h2) h1 rfl
theorem Prs.one {s : List Int} {T T' : Tr} {ts ts' : List Tk} {b b' : Bool} (h : Prs s T ts b) (k : Prs s T' ts' b') : T = T' ∧ ts = ts' ∧ b = b' := by
  have := (rd_of_prs h).one (rd_of_prs k)
  simp only [Option.some.injEq, Prod.mk.injEq] at this
  refine ⟨this.1, this.2.1, ?_⟩
  have h3 := this.2.2
  cases b <;> cases b' <;> simp_all
end Go.Proofs.YtinhliecfjlocaaGreat
