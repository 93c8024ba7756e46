import Derived.Test.YtjjmgegbeccjoaaPk8
namespace Go.Proofs.Ytjjmgegbeccjoaa

theorem Gr.ne {n : Nat} {ts : List Tk} {T : Tr} (h : Gr n ts T) : n < 3 → ts ≠ [] := by
  refine h.ind (Q := fun n ts _ => n < 3 → ts ≠ []) ?_ ?_ ?_ ?_ ?_ ?_ ?_ ?_ ?_ ?_
  · intro cs _ h; cases h
  · intro ts T _ _ _ h; cases h
  · intro ts T _ ih _; exact ih (by omega)
  · intro ts T lo hi _ _ _ h; simp at h
  · intro ts T _ ih _; exact ih (by omega)
  · intro us vs A B _ _ i1 _ _ h; simp at h; exact i1 (by omega) h.1
  · intro h; omega
  · intro ts T _ _ h; omega
  · intro us A _ _ h; omega
  · intro us vs A B _ _ _ _ h; omega
theorem gr_nil {T : Tr} : Gr 3 [] T ↔ T = .e := by
  constructor
  · intro h
    rcases h.inv with ⟨-, h⟩ | h | ⟨us, A, e, -⟩ | ⟨us, vs, A, B, e, -⟩
    · exact h
    · exact absurd rfl (h.ne (by omega))
    · simp at e
    · simp at e
  · rintro rfl; exact .nil
theorem gr_nobar {ts : List Tk} {T : Tr} (hn : NoBar ts) (h0 : ts ≠ []) : Gr 3 ts T ↔ Gr 2 ts T := by
  refine ⟨fun h => ?_, .cat⟩
  rcases h.inv with ⟨e, -⟩ | h | ⟨us, A, e, -, h⟩ | ⟨us, vs, A, B, e, -, h, -⟩
  · exact absurd e h0
  · exact h
  · exact absurd h.bal (hn _ _ e)
  · exact absurd h.bal (hn _ _ e)
theorem NoBar.uniq {us vs us' vs' : List Tk} (h : us ++ .inr (.inr (.inr ())) :: vs = us' ++ .inr (.inr (.inr ())) :: vs') (b1 : wl 0 us = some 0) (b2 : wl 0 us' = some 0) (n1 : NoBar vs) (n2 : NoBar vs') : us = us' ∧ vs = vs' := by
  rcases append_two h with ⟨x, rfl, h2⟩ | ⟨x, rfl, h2⟩
  · cases x with
    | nil => simp at h2; exact ⟨by simp, h2⟩
    | cons y x =>
      simp at h2
      obtain ⟨rfl, h2⟩ := h2
      rw [wl_app, b1] at b2
      exact absurd b2 (n1 x vs' h2)
  · cases x with
    | nil => simp at h2; exact ⟨by simp, h2.symm⟩
    | cons y x =>
      simp at h2
      obtain ⟨rfl, h2⟩ := h2
      rw [wl_app, b2] at b1
      exact absurd b1 (n2 x vs h2)
theorem noBar_nil : NoBar [] := fun us vs h => by simp at h
/-- Split at the last bar. -/
theorem gr_bar {us vs : List Tk} {T : Tr} (hu : wl 0 us = some 0) (hv : NoBar vs) : Gr 3 (us ++ .inr (.inr (.inr ())) :: vs) T ↔ ∃ A B, T = .alt A B ∧ Gr 3 us A ∧ Gr 3 vs B := by
  constructor
  · intro h
    rcases h.inv with ⟨e, -⟩ | h | ⟨us', A, e, hT, h'⟩ | ⟨us', vs', A, B, e, hT, h1, h2⟩
    · simp at e
    · exact absurd hu (h.noBar (by omega) _ _ rfl)
    · obtain ⟨rfl, rfl⟩ := NoBar.uniq e hu h'.bal hv noBar_nil
      exact ⟨_, _, hT, h', .nil⟩
    · obtain ⟨rfl, rfl⟩ := NoBar.uniq e hu h1.bal hv (h2.noBar (by omega))
      exact ⟨_, _, hT, h1, .cat h2⟩
  · rintro ⟨A, B, rfl, h1, h2⟩
    by_cases h0 : vs = []
    · subst h0
      rw [gr_nil.1 h2]
      exact .alt0 h1
    · exact .alt h1 ((gr_nobar hv h0).1 h2)
/-- The shape of an atom. -/
def Sh (vs : List Tk) : Prop := (∃ cs, vs = [.inl cs]) ∨ ∃ mid, vs = .inr (.inr (.inl true)) :: (mid ++ [.inr (.inr (.inl false))]) ∧ wl 0 mid = some 0
theorem gr_sh {vs : List Tk} {X : Tr} (h : Gr 0 vs X) : Sh vs := by
  rcases h.inv with ⟨cs, e, -⟩ | ⟨us, e, h⟩
  · exact .inl ⟨cs, e⟩
  · exact .inr ⟨us, e, h.bal⟩
theorem Sh.uniq {pre us vs vs' : List Tk} (h : pre ++ vs = us ++ vs') (h1 : Sh vs) (h2 : Sh vs') : pre = us ∧ vs = vs' := by
  rcases h1 with ⟨cs, rfl⟩ | ⟨mid, rfl, b1⟩ <;> rcases h2 with ⟨cs', rfl⟩ | ⟨mid', rfl, b2⟩
  · have := List.append_inj' h rfl
    exact this
  · have e : pre ++ [.inl cs] = (us ++ .inr (.inr (.inl true)) :: mid') ++ [.inr (.inr (.inl false))] := by rw [h]; simp
    have := (List.append_inj' e rfl).2
    simp at this
  · have e : (pre ++ .inr (.inr (.inl true)) :: mid) ++ [.inr (.inr (.inl false))] = us ++ [.inl cs'] := by rw [← h]; simp
    have := (List.append_inj' e rfl).2
    simp at this
  · have e : (pre ++ .inr (.inr (.inl true)) :: mid) ++ [.inr (.inr (.inl false))] = (us ++ .inr (.inr (.inl true)) :: mid') ++ [.inr (.inr (.inl false))] := by
      have e1 : (pre ++ .inr (.inr (.inl true)) :: mid) ++ [.inr (.inr (.inl false))] = pre ++ .inr (.inr (.inl true)) :: (mid ++ [.inr (.inr (.inl false))]) := by simp
      have e2 : (us ++ .inr (.inr (.inl true)) :: mid') ++ [.inr (.inr (.inl false))] = us ++ .inr (.inr (.inl true)) :: (mid' ++ [.inr (.inr (.inl false))]) := by simp
      rw [e1, e2, h]
    have e := (List.append_inj' e rfl).1
    rcases append_two e with ⟨x, rfl, h2⟩ | ⟨x, rfl, h2⟩
    · cases x with
      | nil => simp at h2; subst h2; simp
      | cons y x =>
        simp at h2
        obtain ⟨rfl, rfl⟩ := h2
        rw [wl_app] at b1
        cases e9 : wl 0 x with
        | none => rw [e9] at b1; cases b1
        | some k =>
          rw [e9] at b1
          simp only [Option.bind_some, wl] at b1
          rw [wl_bal b2] at b1
          cases b1
    · cases x with
      | nil => simp at h2; subst h2; simp
      | cons y x =>
        simp at h2
        obtain ⟨rfl, rfl⟩ := h2
        rw [wl_app] at b2
        cases e9 : wl 0 x with
        | none => rw [e9] at b2; cases b2
        | some k =>
          rw [e9] at b2
          simp only [Option.bind_some, wl] at b2
          rw [wl_bal b1] at b2
          cases b2
/-- The last item. -/
theorem gr_last {ts : List Tk} {T : Tr} (h : Gr 2 ts T) : ∃ us vs B, ts = us ++ vs ∧ Gr 1 vs B ∧ ((us = [] ∧ T = B) ∨ ∃ A, Gr 2 us A ∧ T = .cat A B) := by
  rcases h.inv with h | ⟨us, vs, A, B, e, hT, h1, h2⟩
  · exact ⟨[], _, _, rfl, h, .inl ⟨rfl, rfl⟩⟩
  · exact ⟨_, _, _, e, h2, .inr ⟨_, h1, hT⟩⟩
theorem gr_join {us vs : List Tk} {B T : Tr} (hB : Gr 1 vs B) (h : (us = [] ∧ T = B) ∨ ∃ A, Gr 2 us A ∧ T = .cat A B) : Gr 2 (us ++ vs) T := by
  rcases h with ⟨rfl, rfl⟩ | ⟨A, h1, rfl⟩
  · exact .one hB
  · exact .more h1 hB
theorem Sh.noRep {us vs : List Tk} {lo hi : Int} (h : Sh vs) : us ++ vs ≠ us ++ vs ++ [.inr (.inl (lo, hi))] ∧ ∀ pre, pre ++ [.inr (.inl (lo, hi))] ≠ us ++ vs := by
  refine ⟨fun e => by simpa using congrArg List.length e, fun pre e => ?_⟩
  rcases h with ⟨cs, rfl⟩ | ⟨mid, rfl, -⟩
  · have := (List.append_inj' e rfl).2
    simp at this
  · have e : pre ++ [.inr (.inl (lo, hi))] = (us ++ .inr (.inr (.inl true)) :: mid) ++ [.inr (.inr (.inl false))] := by rw [e]; simp
    have := (List.append_inj' e rfl).2
    simp at this
theorem gr_two0 {pre vs : List Tk} {T : Tr} (hs : Sh vs) : Gr 2 (pre ++ vs) T ↔ ∃ X, Gr 0 vs X ∧ ((pre = [] ∧ T = X) ∨ ∃ A, Gr 2 pre A ∧ T = .cat A X) := by
  constructor
  · intro h
    obtain ⟨us, ws, B, e, h1, h2⟩ := gr_last h
    rcases h1.inv with h1 | ⟨ws', X, lo, hi, rfl, rfl, h1'⟩
    · obtain ⟨rfl, rfl⟩ := Sh.uniq e hs (gr_sh h1)
      exact ⟨B, h1, h2⟩
    · rw [← List.append_assoc] at e
      exact absurd e.symm ((Sh.noRep (us := pre) (lo := lo) (hi := hi) hs).2 _)
  · rintro ⟨X, h1, h2⟩
    exact gr_join (.atm h1) h2
theorem gr_two1 {pre vs : List Tk} {lo hi : Int} {T : Tr} (hs : Sh vs) : Gr 2 (pre ++ vs ++ [.inr (.inl (lo, hi))]) T ↔ ∃ X, Gr 0 vs X ∧ ((pre = [] ∧ T = .rep X lo hi) ∨ ∃ A, Gr 2 pre A ∧ T = .cat A (.rep X lo hi)) := by
  constructor
  · intro h
    obtain ⟨us, ws, B, e, h1, h2⟩ := gr_last h
    rcases h1.inv with h1 | ⟨ws', X, lo', hi', rfl, rfl, h1'⟩
    · exact absurd e ((Sh.noRep (us := us) (lo := lo) (hi := hi) (gr_sh h1)).2 _)
    · rw [← List.append_assoc] at e
      obtain ⟨e1, e2⟩ := List.append_inj' e rfl
      simp at e2
      obtain ⟨rfl, rfl⟩ := e2
      obtain ⟨rfl, rfl⟩ := Sh.uniq e1 hs (gr_sh h1')
      exact ⟨_, h1', h2⟩
  · rintro ⟨X, h1, h2⟩
    rw [List.append_assoc]
    exact gr_join (.rep lo hi h1) h2
/-- A repetition wants an atom ahead of it. -/
theorem gr_bad {body : List Tk} {lo hi : Int} {T : Tr} (h : Gr 2 (body ++ [.inr (.inl (lo, hi))]) T) : ∃ pre vs, body = pre ++ vs ∧ Sh vs := by
  obtain ⟨us, ws, B, e, h1, h2⟩ := gr_last h
  rcases h1.inv with h1 | ⟨ws', X, lo', hi', rfl, rfl, h1'⟩
  · exact absurd e ((Sh.noRep (us := us) (lo := lo) (hi := hi) (gr_sh h1)).2 _)
  · rw [← List.append_assoc] at e
    exact ⟨us, _, (List.append_inj' e rfl).1, gr_sh h1'⟩
theorem gr_set0 {cs : List Int} {X : Tr} : Gr 0 [.inl cs] X ↔ X = .s cs := by
  constructor
  · intro h
    rcases h.inv with ⟨cs', e, rfl⟩ | ⟨us, e, -⟩
    · simp at e; rw [e]
    · simp at e
  · rintro rfl; exact .set cs
theorem gr_grp0 {mid : List Tk} {X : Tr} : Gr 0 (.inr (.inr (.inl true)) :: (mid ++ [.inr (.inr (.inl false))])) X ↔ Gr 3 mid X := by
  constructor
  · intro h
    rcases h.inv with ⟨cs, e, -⟩ | ⟨us, e, h⟩
    · simp at e
    · simp at e
      rw [e]
      exact h
  · exact .grp
/-- The end of a list that pairs up and has no bar outside is an atom, a repetition, or nothing. -/
theorem end_sh {ts : List Tk} (hb : wl 0 ts = some 0) {u : Tk} {pre : List Tk} (e : ts = pre ++ [u]) (hn : NoBar ts) : (∃ cs, u = .inl cs) ∨ (∃ lo hi, u = .inr (.inl (lo, hi))) ∨ u = .inr (.inr (.inl false)) := by
  rcases u with cs | ⟨lo, hi⟩ | (_ | _) | _
  · exact .inl ⟨cs, rfl⟩
  · exact .inr (.inl ⟨lo, hi, rfl⟩)
  · exact .inr (.inr rfl)
  · rw [e, wl_app] at hb
    cases e9 : wl 0 pre with
    | none => rw [e9] at hb; cases hb
    | some k => rw [e9] at hb; simp [wl] at hb
  · rw [e, wl_app] at hb
    cases e9 : wl 0 pre with
    | none => rw [e9] at hb; cases hb
    | some k =>
      rw [e9] at hb
      simp [wl] at hb
      subst hb
      exact absurd e9 (hn pre [] e)


/-! The tokens of a pattern's text. -/
/-- Is the byte in one of these ranges? -/
def inR : List Int → Nat → Bool
  | lo :: hi :: xs, b => decide (lo ≤ (b : Int) ∧ (b : Int) ≤ hi) || inR xs b
  | _, _ => false
/-- The ranges of a set of bytes. -/
def emR (p : Nat → Bool) (b : Nat) : List Int := (if p b && (b == 0 || !p (b - 1)) then [(b : Int)] else []) ++ (if p b && (b == 255 || !p (b + 1)) then [(b : Int)] else [])
def cnn (p : Nat → Bool) : List Int := (List.range 256).flatMap (emR p)
def spcZ : List Int := [92, 46, 91, 93, 40, 41, 124, 42, 43, 63, 123, 125, 94, 36]
def isD (c : Int) : Bool := decide (48 ≤ c ∧ c ≤ 57)
def hexv (c : Int) : Option Int := if 48 ≤ c ∧ c ≤ 57 then some (c - 48) else if 97 ≤ c ∧ c ≤ 102 then some (c - 97 + 10) else if 65 ≤ c ∧ c ≤ 70 then some (c - 65 + 10) else none
def hex2 : List Int → Option (Int × List Int)
  | h :: l :: r => (hexv h).bind fun a => (hexv l).map fun b => (a * 16 + b, r)
  | _ => none
/-- What follows a backslash: a byte. -/
def besc : List Int → Option (Int × List Int)
  | [] => none
  | c :: r => if c ∈ spcZ ∨ c = 45 then some (c, r) else if c = 110 then some (10, r) else if c = 116 then some (9, r) else if c = 114 then some (13, r) else if c = 120 then hex2 r else none
/-- What follows a backslash: a set. -/
def sesc : List Int → Option (List Int × List Int)
  | [] => none
  | c :: r => if c = 100 then some ([48, 57], r) else if c = 119 then some ([48, 57, 65, 90, 95, 95, 97, 122], r) else if c = 115 then some ([9, 10, 13, 13, 32, 32], r) else none
/-- A char of a class. -/
def chr1 : List Int → Option (Int × List Int)
  | [] => none
  | c :: r => if c = 92 then besc r else if c = 93 ∨ c = 91 ∨ c = 94 ∨ c = 45 then none else some (c, r)
def sesB : List Int → Option (List Int × List Int)
  | [] => none
  | c :: r => if c = 92 then sesc r else none
def rngB (p : Nat → Bool) (lo hi : Int) : Nat → Bool := fun b => p b || decide (lo ≤ (b : Int) ∧ (b : Int) ≤ hi)
/-- Behind the first char of a member. -/
def mem2 (p : Nat → Bool) (lo : Int) : List Int → Option ((Nat → Bool) × List Int)
  | [] => some (rngB p lo lo, [])
  | c :: r => if c = 45 then (chr1 r).bind fun x => if x.1 < lo then none else some (rngB p lo x.1, x.2) else some (rngB p lo lo, c :: r)
def mem1 (p : Nat → Bool) (s : List Int) : Option ((Nat → Bool) × List Int) :=
  match sesB s with
  | some (cs, r) => some (fun b => p b || inR cs b, r)
  | none => (chr1 s).bind fun x => mem2 p x.1 x.2
def clsG : Nat → (Nat → Bool) → List Int → Option ((Nat → Bool) × List Int)
  | 0, _, _ => none
  | _ + 1, _, [] => none
  | n + 1, p, c :: r => if c = 93 then some (p, r) else (mem1 p (c :: r)).bind fun x => clsG n x.1 x.2
def cls : List Int → Option (List Int × List Int)
  | [] => none
  | c :: r => if c = 94 then (clsG (r.length + 1) (fun _ => false) r).map fun x => (cnn (fun b => !x.1 b), x.2) else (clsG (r.length + 2) (fun _ => false) (c :: r)).map fun x => (cnn x.1, x.2)
def numV (ds : List Int) : Int := ds.foldl (fun v c => v * 10 + (c - 48)) 0
def num1 (s : List Int) : Option (Int × List Int) := if (s.takeWhile isD).length = 0 ∨ 4 < (s.takeWhile isD).length then none else some (numV (s.takeWhile isD), s.dropWhile isD)
/-- Behind the comma of a counted repetition. -/
def brc3 (lo : Int) : List Int → Option ((Int × Int) × List Int)
  | [] => none
  | c :: r => if c = 125 then some ((lo, -1), r) else (num1 (c :: r)).bind fun x => if x.1 < lo then none else match x.2 with
    | d :: r2 => if d = 125 then some ((lo, x.1), r2) else none
    | [] => none
def brc2 (lo : Int) : List Int → Option ((Int × Int) × List Int)
  | [] => none
  | c :: r => if c = 125 then some ((lo, lo), r) else if c = 44 then brc3 lo r else none
def brc (s : List Int) : Option ((Int × Int) × List Int) := (num1 s).bind fun x => brc2 x.1 x.2
/-- One token. -/
def lx : List Int → Option (Tk × List Int)
  | [] => none
  | c :: r =>
    if c = 40 then some (.inr (.inr (.inl true)), r) else if c = 41 then some (.inr (.inr (.inl false)), r) else if c = 124 then some (.inr (.inr (.inr ())), r)
    else if c = 42 then some (.inr (.inl (0, -1)), r) else if c = 43 then some (.inr (.inl (1, -1)), r) else if c = 63 then some (.inr (.inl (0, 1)), r)
    else if c = 123 then (brc r).map fun x => (.inr (.inl (x.1.1, x.1.2)), x.2)
    else if c = 46 then some (.inl [0, 9, 11, 255], r)
    else if c = 91 then (cls r).map fun x => (.inl x.1, x.2)
    else if c = 92 then (match sesc r with
      | some x => some (.inl x.1, x.2)
      | none => (besc r).map fun x => (.inl [x.1, x.1], x.2))
    else if c ∈ spcZ then none else some (.inl [c, c], r)
/-- A reader takes a part of the text that is not empty, and looks at one byte behind it at most. -/
def LocH {α : Type} (f : List Int → Option (α × List Int)) : Prop := ∀ s x r, f s = some (x, r) → ∃ p, s = p ++ r ∧ 0 < p.length ∧ ∀ r', r'.head? = r.head? → f (p ++ r') = some (x, r')
/-- .. and at none. -/
def Loc {α : Type} (f : List Int → Option (α × List Int)) : Prop := ∀ s x r, f s = some (x, r) → ∃ p, s = p ++ r ∧ 0 < p.length ∧ ∀ r', f (p ++ r') = some (x, r')
theorem Loc.h {α : Type} {f : List Int → Option (α × List Int)} (h : Loc f) : LocH f := fun s x r e => by
  obtain ⟨p, h1, h2, h3⟩ := h s x r e
  exact ⟨p, h1, h2, fun r' _ => h3 r'⟩
theorem hex2_loc : Loc hex2 := fun s x r h => by
  match s, h with
  | a :: b :: t, h =>
    simp only [hex2] at h
    cases ha : hexv a with
    | none => rw [ha] at h; cases h
    | some u =>
      cases hb : hexv b with
      | none => rw [ha, hb] at h; cases h
      | some v =>
        rw [ha, hb] at h
        simp at h
        obtain ⟨rfl, rfl⟩ := h
        exact ⟨[a, b], rfl, by simp, fun r' => by simp [hex2, ha, hb]⟩
theorem besc_loc : Loc besc := fun s x r h => by
  match s, h with
  | c :: t, h =>
    simp only [besc] at h
    split at h
    · rename_i h1
      simp at h
      obtain ⟨rfl, rfl⟩ := h
      exact ⟨[c], rfl, by simp, fun r' => by simp only [List.cons_append, List.nil_append, besc]; rw [if_pos h1]⟩
    · rename_i h1
      split at h
      · rename_i h2
        simp at h
        obtain ⟨rfl, rfl⟩ := h
        exact ⟨[c], rfl, by simp, fun r' => by simp only [List.cons_append, List.nil_append, besc]; rw [if_neg h1, if_pos h2]⟩
      · rename_i h2
        split at h
        · rename_i h3
          simp at h
          obtain ⟨rfl, rfl⟩ := h
          exact ⟨[c], rfl, by simp, fun r' => by simp only [List.cons_append, List.nil_append, besc]; rw [if_neg h1, if_neg h2, if_pos h3]⟩
        · rename_i h3
          split at h
          · rename_i h4
            simp at h
            obtain ⟨rfl, rfl⟩ := h
            exact ⟨[c], rfl, by simp, fun r' => by simp only [List.cons_append, List.nil_append, besc]; rw [if_neg h1, if_neg h2, if_neg h3, if_pos h4]⟩
          · rename_i h4
            split at h
            · rename_i h5
              obtain ⟨p, rfl, h6, h7⟩ := hex2_loc _ _ _ h
              exact ⟨c :: p, rfl, by simp, fun r' => by simp only [List.cons_append, besc]; rw [if_neg h1, if_neg h2, if_neg h3, if_neg h4, if_pos h5]; exact h7 r'⟩
            · cases h
theorem sesc_loc : Loc sesc := fun s x r h => by
  match s, h with
  | c :: t, h =>
    simp only [sesc] at h
    split at h
    · rename_i h1
      simp at h
      obtain ⟨rfl, rfl⟩ := h
      exact ⟨[c], rfl, by simp, fun r' => by simp only [List.cons_append, List.nil_append, sesc]; rw [if_pos h1]⟩
    · rename_i h1
      split at h
      · rename_i h2
        simp at h
        obtain ⟨rfl, rfl⟩ := h
        exact ⟨[c], rfl, by simp, fun r' => by simp only [List.cons_append, List.nil_append, sesc]; rw [if_neg h1, if_pos h2]⟩
      · rename_i h2
        split at h
        · rename_i h3
          simp at h
          obtain ⟨rfl, rfl⟩ := h
          exact ⟨[c], rfl, by simp, fun r' => by simp only [List.cons_append, List.nil_append, sesc]; rw [if_neg h1, if_neg h2, if_pos h3]⟩
        · cases h
theorem chr1_loc : Loc chr1 := fun s x r h => by
  match s, h with
  | c :: t, h =>
    simp only [chr1] at h
    split at h
    · rename_i h1
      obtain ⟨p, rfl, h6, h7⟩ := besc_loc _ _ _ h
      exact ⟨c :: p, rfl, by simp, fun r' => by simp only [List.cons_append, chr1]; rw [if_pos h1]; exact h7 r'⟩
    · rename_i h1
      split at h
      · cases h
      · rename_i h2
        simp at h
        obtain ⟨rfl, rfl⟩ := h
        exact ⟨[c], rfl, by simp, fun r' => by simp only [List.cons_append, List.nil_append, chr1]; rw [if_neg h1, if_neg h2]⟩
theorem sesB_loc : Loc sesB := fun s x r h => by
  match s, h with
  | c :: t, h =>
    simp only [sesB] at h
    split at h
    · rename_i h1
      obtain ⟨p, rfl, h6, h7⟩ := sesc_loc _ _ _ h
      exact ⟨c :: p, rfl, by simp, fun r' => by simp only [List.cons_append, sesB]; rw [if_pos h1]; exact h7 r'⟩
    · cases h

end Go.Proofs.Ytjjmgegbeccjoaa
