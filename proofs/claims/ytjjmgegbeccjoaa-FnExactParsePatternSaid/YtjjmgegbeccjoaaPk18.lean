import Derived.Test.YtjjmgegbeccjoaaPk17
namespace Go.Proofs.Ytjjmgegbeccjoaa

/-! Reading a text from left to right. -/
/-- What is read: a tree, its tokens, the rest. -/
abbrev Rd := Option (Tr × List Tk × List Int)
def catEnd : List Int → Bool
  | [] => true
  | c :: _ => c == 124 || c == 41 || c == 36
def altEnd : List Int → Bool
  | [] => true
  | c :: _ => c == 41 || c == 36
def repHd : List Int → Bool
  | [] => false
  | c :: _ => c == 42 || c == 43 || c == 63 || c == 123
/-- Behind an atom. -/
def rdRep (T : Tr) (ts : List Tk) (s : List Int) : Rd :=
  if repHd s then (match lx s with
    | some (.inr (.inl (lo, hi)), r) => some (.rep T lo hi, ts ++ [.inr (.inl (lo, hi))], r)
    | _ => none) else some (T, ts, s)
/-- The reader: 0 alternatives, 1 more of them, 2 items, 3 more of them, 4 an item, 5 an atom. -/
def rdG : Nat → Nat → Tr → List Tk → List Int → Rd
  | 0, _, _, _, _ => none
  | n + 1, 0, _, _, s => (rdG n 2 .e [] s).bind fun x => rdG n 1 x.1 x.2.1 x.2.2
  | n + 1, 1, T, ts, s => match s with
    | [] => some (T, ts, [])
    | c :: r => if c = 124 then (rdG n 2 .e [] r).bind fun x => rdG n 1 (.alt T x.1) (ts ++ .inr (.inr (.inr ())) :: x.2.1) x.2.2 else some (T, ts, c :: r)
  | n + 1, 2, _, _, s => if catEnd s then some (.e, [], s) else (rdG n 4 .e [] s).bind fun x => rdG n 3 x.1 x.2.1 x.2.2
  | n + 1, 3, T, ts, s => if catEnd s then some (T, ts, s) else (rdG n 4 .e [] s).bind fun x => rdG n 3 (.cat T x.1) (ts ++ x.2.1) x.2.2
  | n + 1, 4, _, _, s => (rdG n 5 .e [] s).bind fun x => rdRep x.1 x.2.1 x.2.2
  | n + 1, _ + 5, _, _, s => match s with
    | [] => none
    | c :: r => if c = 40 then (rdG n 0 .e [] r).bind fun x => (match x.2.2 with
      | d :: r2 => if d = 41 then some (x.1, .inr (.inr (.inl true)) :: (x.2.1 ++ [.inr (.inr (.inl false))]), r2) else none
      | [] => none) else (match lx (c :: r) with
      | some (.inl cs, r2) => some (.s cs, [.inl cs], r2)
      | _ => none)
def rdAlt (n : Nat) (s : List Int) : Rd := rdG n 0 .e [] s
def rdAltL (n : Nat) (T : Tr) (ts : List Tk) (s : List Int) : Rd := rdG n 1 T ts s
def rdCat (n : Nat) (s : List Int) : Rd := rdG n 2 .e [] s
def rdCatL (n : Nat) (T : Tr) (ts : List Tk) (s : List Int) : Rd := rdG n 3 T ts s
def rdItem (n : Nat) (s : List Int) : Rd := rdG n 4 .e [] s
def rdAtom (n : Nat) (s : List Int) : Rd := rdG n 5 .e [] s
theorem rdAlt_s (n : Nat) (s : List Int) : rdAlt (n + 1) s = (rdCat n s).bind fun x => rdAltL n x.1 x.2.1 x.2.2 := rfl
theorem rdAltL_n (n : Nat) (T : Tr) (ts : List Tk) : rdAltL (n + 1) T ts [] = some (T, ts, []) := rfl
theorem rdAltL_c (n : Nat) (T : Tr) (ts : List Tk) (c : Int) (r : List Int) : rdAltL (n + 1) T ts (c :: r) = if c = 124 then (rdCat n r).bind fun x => rdAltL n (.alt T x.1) (ts ++ .inr (.inr (.inr ())) :: x.2.1) x.2.2 else some (T, ts, c :: r) := rfl
theorem rdCat_s (n : Nat) (s : List Int) : rdCat (n + 1) s = if catEnd s then some (.e, [], s) else (rdItem n s).bind fun x => rdCatL n x.1 x.2.1 x.2.2 := rfl
theorem rdCatL_s (n : Nat) (T : Tr) (ts : List Tk) (s : List Int) : rdCatL (n + 1) T ts s = if catEnd s then some (T, ts, s) else (rdItem n s).bind fun x => rdCatL n (.cat T x.1) (ts ++ x.2.1) x.2.2 := rfl
theorem rdItem_s (n : Nat) (s : List Int) : rdItem (n + 1) s = (rdAtom n s).bind fun x => rdRep x.1 x.2.1 x.2.2 := rfl
theorem rdAtom_n (n : Nat) : rdAtom (n + 1) [] = none := rfl
/-- Behind a group's alternatives. -/
def rdCl (x : Tr × List Tk × List Int) : Rd := match x.2.2 with
  | d :: r2 => if d = 41 then some (x.1, .inr (.inr (.inl true)) :: (x.2.1 ++ [.inr (.inr (.inl false))]), r2) else none
  | [] => none
/-- A set. -/
def rdSet (s : List Int) : Rd := match lx s with
  | some (.inl cs, r2) => some (.s cs, [.inl cs], r2)
  | _ => none
theorem rdAtom_c (n : Nat) (c : Int) (r : List Int) : rdAtom (n + 1) (c :: r) = if c = 40 then (rdAlt n r).bind rdCl else rdSet (c :: r) := rfl
theorem rd_z (k : Nat) (T : Tr) (ts : List Tk) (s : List Int) : rdG 0 k T ts s = none := rfl
theorem lx_op (r : List Int) : lx (40 :: r) = some (.inr (.inr (.inl true)), r) := by rw [lx, if_pos rfl]
theorem lx_cl (r : List Int) : lx (41 :: r) = some (.inr (.inr (.inl false)), r) := by rw [lx, if_neg (by decide), if_pos rfl]
theorem lx_bar (r : List Int) : lx (124 :: r) = some (.inr (.inr (.inr ())), r) := by rw [lx, if_neg (by decide), if_neg (by decide), if_pos rfl]
/-- What is read is in the grammar. -/
theorem rd_sound : ∀ n : Nat,
    (∀ s T ts r, rdAlt n s = some (T, ts, r) → Lxs s ts r ∧ Gr 3 ts T ∧ altEnd r = true) ∧
    (∀ A us s T ts r, rdAltL n A us s = some (T, ts, r) → Gr 3 us A → catEnd s = true → ∃ vs, ts = us ++ vs ∧ Lxs s vs r ∧ Gr 3 ts T ∧ altEnd r = true) ∧
    (∀ s T ts r, rdCat n s = some (T, ts, r) → Lxs s ts r ∧ ((ts = [] ∧ T = .e) ∨ Gr 2 ts T) ∧ catEnd r = true) ∧
    (∀ A us s T ts r, rdCatL n A us s = some (T, ts, r) → Gr 2 us A → ∃ vs, ts = us ++ vs ∧ Lxs s vs r ∧ Gr 2 ts T ∧ catEnd r = true) ∧
    (∀ s T ts r, rdItem n s = some (T, ts, r) → Lxs s ts r ∧ Gr 1 ts T) ∧
    (∀ s T ts r, rdAtom n s = some (T, ts, r) → Lxs s ts r ∧ Gr 0 ts T) := by
  intro n
  induction n with
  | zero => refine ⟨?_, ?_, ?_, ?_, ?_, ?_⟩ <;> intros <;> simp_all [rdAlt, rdAltL, rdCat, rdCatL, rdItem, rdAtom, rd_z]
  | succ n ih =>
    obtain ⟨i1, i2, i3, i4, i5, i6⟩ := ih
    refine ⟨?_, ?_, ?_, ?_, ?_, ?_⟩
    · intro s T ts r h
      rw [rdAlt_s] at h
      cases hc : rdCat n s with
      | none => rw [hc] at h; cases h
      | some x =>
        obtain ⟨A, us, u⟩ := x
        rw [hc, Option.bind_some] at h
        obtain ⟨j1, j2, j3⟩ := i3 _ _ _ _ hc
        have j4 : Gr 3 us A := by
          rcases j2 with ⟨rfl, rfl⟩ | j2
          · exact .nil
          · exact .cat j2
        obtain ⟨vs, rfl, k2, k3, k4⟩ := i2 _ _ _ _ _ _ h j4 j3
        exact ⟨j1.app k2, k3, k4⟩
    · intro A us s T ts r h hA hs
      match s, h, hs with
      | [], h, _ =>
        rw [rdAltL_n] at h
        cases h
        exact ⟨[], by simp, .nil _, hA, rfl⟩
      | c :: t, h, hs =>
        rw [rdAltL_c] at h
        by_cases h1 : c = 124
        · rw [if_pos h1] at h
          subst h1
          cases hc : rdCat n t with
          | none => rw [hc] at h; cases h
          | some x =>
            obtain ⟨B, ws, u⟩ := x
            rw [hc, Option.bind_some] at h
            obtain ⟨j1, j2, j3⟩ := i3 _ _ _ _ hc
            have j4 : Gr 3 (us ++ .inr (.inr (.inr ())) :: ws) (.alt A B) := by
              rcases j2 with ⟨rfl, rfl⟩ | j2
              · exact .alt0 hA
              · exact .alt hA j2
            obtain ⟨vs, rfl, k2, k3, k4⟩ := i2 _ _ _ _ _ _ h j4 j3
            refine ⟨.inr (.inr (.inr ())) :: (ws ++ vs), by simp, .cons (lx_bar t) (j1.app k2), k3, k4⟩
        · rw [if_neg h1] at h
          cases h
          refine ⟨[], by simp, .nil _, hA, ?_⟩
          simp [catEnd, altEnd, h1] at hs ⊢
          exact hs
    · intro s T ts r h
      rw [rdCat_s] at h
      by_cases h1 : catEnd s = true
      · rw [if_pos h1] at h
        cases h
        exact ⟨.nil _, .inl ⟨rfl, rfl⟩, h1⟩
      · rw [if_neg h1] at h
        cases hc : rdItem n s with
        | none => rw [hc] at h; cases h
        | some x =>
          obtain ⟨A, us, u⟩ := x
          rw [hc, Option.bind_some] at h
          obtain ⟨j1, j2⟩ := i5 _ _ _ _ hc
          obtain ⟨vs, rfl, k2, k3, k4⟩ := i4 _ _ _ _ _ _ h (.one j2)
          exact ⟨j1.app k2, .inr k3, k4⟩
    · intro A us s T ts r h hA
      rw [rdCatL_s] at h
      by_cases h1 : catEnd s = true
      · rw [if_pos h1] at h
        cases h
        exact ⟨[], by simp, .nil _, hA, h1⟩
      · rw [if_neg h1] at h
        cases hc : rdItem n s with
        | none => rw [hc] at h; cases h
        | some x =>
          obtain ⟨B, ws, u⟩ := x
          rw [hc, Option.bind_some] at h
          obtain ⟨j1, j2⟩ := i5 _ _ _ _ hc
          obtain ⟨vs, rfl, k2, k3, k4⟩ := i4 _ _ _ _ _ _ h (.more hA j2)
          exact ⟨ws ++ vs, by simp, j1.app k2, k3, k4⟩
    · intro s T ts r h
      rw [rdItem_s] at h
      cases hc : rdAtom n s with
      | none => rw [hc] at h; cases h
      | some x =>
        obtain ⟨A, us, u⟩ := x
        rw [hc, Option.bind_some] at h
        obtain ⟨j1, j2⟩ := i6 _ _ _ _ hc
        simp only [rdRep] at h
        by_cases h1 : repHd u = true
        · rw [if_pos h1] at h
          cases hl : lx u with
          | none => rw [hl] at h; cases h
          | some y =>
            obtain ⟨t, r2⟩ := y
            rw [hl] at h
            rcases t with cs | ⟨lo, hi⟩ | (_ | _) | _
            · cases h
            · cases h
              exact ⟨j1.app (.cons hl (.nil _)), .rep lo hi j2⟩
            · cases h
            · cases h
            · cases h
        · rw [if_neg h1] at h
          cases h
          exact ⟨j1, .atm j2⟩
    · intro s T ts r h
      match s, h with
      | [], h => rw [rdAtom_n] at h; cases h
      | c :: t, h =>
        rw [rdAtom_c] at h
        by_cases h1 : c = 40
        · rw [if_pos h1] at h
          subst h1
          cases hc : rdAlt n t with
          | none => rw [hc] at h; cases h
          | some x =>
            obtain ⟨A, us, u⟩ := x
            rw [hc, Option.bind_some] at h
            obtain ⟨j1, j2, -⟩ := i1 _ _ _ _ hc
            match u, h, j1 with
            | d :: r2, h, j1 =>
              simp only [rdCl] at h
              by_cases h2 : d = 41
              · rw [if_pos h2] at h
                subst h2
                cases h
                exact ⟨.cons (lx_op t) (j1.app (.cons (lx_cl _) (.nil _))), .grp j2⟩
              · rw [if_neg h2] at h; cases h
        · rw [if_neg h1, rdSet] at h
          cases hl : lx (c :: t) with
          | none => rw [hl] at h; cases h
          | some y =>
            obtain ⟨u, r2⟩ := y
            rw [hl] at h
            rcases u with cs | ⟨lo, hi⟩ | (_ | _) | _
            · cases h
              exact ⟨.cons hl (.nil _), .set cs⟩
            · cases h
            · cases h
            · cases h
            · cases h


theorem Lxs.split {us vs : List Tk} : ∀ {s r : List Int}, Lxs s (us ++ vs) r → ∃ m, Lxs s us m ∧ Lxs m vs r := by
  induction us with
  | nil => exact fun h => ⟨_, .nil _, h⟩
  | cons u us ih =>
    intro s r h
    obtain ⟨r', h1, h2⟩ := h
    obtain ⟨m, h3, h4⟩ := ih h2
    exact ⟨m, .cons h1 h3, h4⟩
/-- Which byte a token begins with. -/
def HdOf (s r : List Int) : Tk → Prop
  | .inr (.inr (.inl true)) => s = 40 :: r
  | .inr (.inr (.inl false)) => s = 41 :: r
  | .inr (.inr (.inr ())) => s = 124 :: r
  | .inr (.inl _) => repHd s = true
  | .inl _ => repHd s = false ∧ catEnd s = false ∧ ∀ u, s ≠ 40 :: u
theorem lx_inv {s r : List Int} {t : Tk} (h : lx s = some (t, r)) : HdOf s r t := by
  match s, h with
  | c :: q, h =>
    rw [lx] at h
    by_cases h1 : c = 40
    · rw [if_pos h1] at h; cases h; simp [HdOf, h1]
    rw [if_neg h1] at h
    by_cases h2 : c = 41
    · rw [if_pos h2] at h; cases h; simp [HdOf, h2]
    rw [if_neg h2] at h
    by_cases h3 : c = 124
    · rw [if_pos h3] at h; cases h; simp [HdOf, h3]
    rw [if_neg h3] at h
    by_cases h4 : c = 42
    · rw [if_pos h4] at h; cases h; simp [HdOf, repHd, h4]
    rw [if_neg h4] at h
    by_cases h5 : c = 43
    · rw [if_pos h5] at h; cases h; simp [HdOf, repHd, h5]
    rw [if_neg h5] at h
    by_cases h6 : c = 63
    · rw [if_pos h6] at h; cases h; simp [HdOf, repHd, h6]
    rw [if_neg h6] at h
    by_cases h7 : c = 123
    · rw [if_pos h7] at h
      cases hb : brc q with
      | none => rw [hb] at h; cases h
      | some y => rw [hb] at h; cases h; simp [HdOf, repHd, h7]
    rw [if_neg h7] at h
    have h36 : c = 36 → t = t ∧ False := fun e => by
      subst e
      rw [if_neg (by decide), if_neg (by decide), if_neg (by decide), if_pos (by decide)] at h
      cases h
    have hset : ∀ cs, t = .inl cs → HdOf (c :: q) r t := fun cs e => by
      subst e
      refine ⟨by simp [repHd, h4, h5, h6, h7], ?_, fun u e => h1 (List.cons.inj e).1⟩
      simp [catEnd, h2, h3]
      intro e
      exact (h36 e).2
    by_cases h8 : c = 46
    · rw [if_pos h8] at h; exact hset _ (Prod.mk.inj (Option.some.inj h)).1.symm
    rw [if_neg h8] at h
    by_cases h9 : c = 91
    · rw [if_pos h9] at h
      cases hb : cls q with
      | none => rw [hb] at h; cases h
      | some y => rw [hb] at h; exact hset _ (Prod.mk.inj (Option.some.inj h)).1.symm
    rw [if_neg h9] at h
    by_cases h10 : c = 92
    · rw [if_pos h10] at h
      cases hb : sesc q with
      | some y => rw [hb] at h; exact hset _ (Prod.mk.inj (Option.some.inj h)).1.symm
      | none =>
        rw [hb] at h
        simp only at h
        cases hc : besc q with
        | none => rw [hc] at h; cases h
        | some y => rw [hc] at h; exact hset _ (Prod.mk.inj (Option.some.inj h)).1.symm
    rw [if_neg h10] at h
    by_cases h11 : c ∈ spcZ
    · rw [if_pos h11] at h; cases h
    · rw [if_neg h11] at h; exact hset _ (Prod.mk.inj (Option.some.inj h)).1.symm
theorem Gr.first {n : Nat} {ts : List Tk} {T : Tr} (h : Gr n ts T) : n < 3 → ∃ t us, ts = t :: us ∧ ((∃ cs, t = .inl cs) ∨ t = .inr (.inr (.inl true))) := by
  refine h.ind (Q := fun n ts _ => n < 3 → ∃ t us, ts = t :: us ∧ ((∃ cs, t = .inl cs) ∨ t = .inr (.inr (.inl true)))) ?_ ?_ ?_ ?_ ?_ ?_ ?_ ?_ ?_ ?_
  · intro cs _; exact ⟨_, _, rfl, .inl ⟨cs, rfl⟩⟩
  · intro ts T _ _ _; exact ⟨_, _, rfl, .inr rfl⟩
  · intro ts T _ ih _; exact ih (by omega)
  · intro ts T lo hi _ ih _; obtain ⟨t, us, rfl, h⟩ := ih (by omega); exact ⟨t, _, rfl, h⟩
  · intro ts T _ ih _; exact ih (by omega)
  · intro us vs A B _ _ i1 _ _; obtain ⟨t, us, rfl, h⟩ := i1 (by omega); exact ⟨t, _, rfl, h⟩
  · intro h; omega
  · intro ts T _ _ h; omega
  · intro us A _ _ h; omega
  · intro us vs A B _ _ _ _ h; omega
theorem Gr.start {n : Nat} {ts : List Tk} {T : Tr} {s r : List Int} (h : Gr n ts T) (hn : n < 3) (hl : Lxs s ts r) : catEnd s = false ∧ repHd s = false := by
  obtain ⟨t, us, rfl, h1⟩ := h.first hn
  obtain ⟨r', h2, -⟩ := hl
  rcases h1 with ⟨cs, rfl⟩ | rfl
  · have : repHd s = false ∧ catEnd s = false ∧ ∀ u, s ≠ 40 :: u := lx_inv h2
    exact ⟨this.2.1, this.1⟩
  · have : s = 40 :: _ := lx_inv h2
    rw [this]
    exact ⟨rfl, rfl⟩
theorem end_rep {r : List Int} (h : catEnd r = true) : repHd r = false := by
  cases r with
  | nil => rfl
  | cons c t =>
    simp [catEnd] at h
    rcases h with (rfl | rfl) | rfl <;> rfl
/-- What is in the grammar is read. -/
def Cmp : Nat → List Tk → Tr → Prop
  | 0, ts, T => ∀ s r, Lxs s ts r → ∃ N, ∀ n, N ≤ n → rdAtom n s = some (T, ts, r)
  | 1, ts, T => ∀ s r, Lxs s ts r → repHd r = false → ∃ N, ∀ n, N ≤ n → rdItem n s = some (T, ts, r)
  | 2, ts, T => ∀ s r, Lxs s ts r → repHd r = false → ∃ k N, ∀ n, N ≤ n → rdCat (n + k) s = rdCatL n T ts r
  | _, ts, T => ∀ s r, Lxs s ts r → catEnd r = true → ∃ k N, ∀ n, N ≤ n → rdAlt (n + k) s = rdAltL n T ts r
theorem rdAltL_end {n : Nat} {T : Tr} {ts : List Tk} {r : List Int} (h : altEnd r = true) : rdAltL (n + 1) T ts r = some (T, ts, r) := by
  cases r with
  | nil => rw [rdAltL_n]
  | cons c t =>
    simp [altEnd] at h
    rw [rdAltL_c, if_neg (by rcases h with rfl | rfl <;> decide)]
theorem cat_done {s r : List Int} {ts : List Tk} {T : Tr} (h : ∃ k N, ∀ n, N ≤ n → rdCat (n + k) s = rdCatL n T ts r) (hr : catEnd r = true) : ∃ N, ∀ n, N ≤ n → rdCat n s = some (T, ts, r) := by
  obtain ⟨k, N, h⟩ := h
  refine ⟨N + 1 + k, fun n hn => ?_⟩
  obtain ⟨m, rfl⟩ : ∃ m, n = m + 1 + k := ⟨n - 1 - k, by omega⟩
  rw [h (m + 1) (by omega), rdCatL_s, if_pos hr]
theorem rd_complete {n : Nat} {ts : List Tk} {T : Tr} (h : Gr n ts T) : Cmp n ts T := by
  refine h.ind (Q := Cmp) ?_ ?_ ?_ ?_ ?_ ?_ ?_ ?_ ?_ ?_
  · rintro cs s r ⟨r', h1, h2⟩
    obtain rfl : r' = r := h2
    refine ⟨1, fun n hn => ?_⟩
    obtain ⟨m, rfl⟩ : ∃ m, n = m + 1 := ⟨n - 1, by omega⟩
    have h9 : repHd s = false ∧ catEnd s = false ∧ ∀ u, s ≠ 40 :: u := lx_inv h1
    have h3 := h9.2.2
    match s, h1, h3 with
    | c :: t, h1, h3 =>
      rw [rdAtom_c, if_neg (fun e => h3 t (by rw [e])), rdSet, h1]
  · rintro ts T h ih s r ⟨r', h1, h2⟩
    obtain ⟨m, h3, r2, h5, h6⟩ := Lxs.split h2
    obtain rfl : r2 = r := h6
    have e1 : s = 40 :: _ := lx_inv h1
    have e2 : m = 41 :: _ := lx_inv h5
    subst e1 e2
    obtain ⟨k, N, h7⟩ := ih _ _ h3 rfl
    refine ⟨N + 1 + k + 1, fun n hn => ?_⟩
    obtain ⟨m, rfl⟩ : ∃ m, n = m + 1 + k + 1 := ⟨n - 1 - k - 1, by omega⟩
    rw [rdAtom_c, if_pos rfl, h7 (m + 1) (by omega), rdAltL_end rfl]
    rfl
  · intro ts T h ih s r hl hr
    obtain ⟨N, h1⟩ := ih s r hl
    refine ⟨N + 1, fun n hn => ?_⟩
    obtain ⟨m, rfl⟩ : ∃ m, n = m + 1 := ⟨n - 1, by omega⟩
    rw [rdItem_s, h1 m (by omega), Option.bind_some]
    simp [rdRep, hr]
  · intro ts T lo hi h ih s r hl hr
    obtain ⟨u, h3, r2, h5, h6⟩ := Lxs.split hl
    obtain rfl : r2 = r := h6
    obtain ⟨N, h1⟩ := ih s u h3
    refine ⟨N + 1, fun n hn => ?_⟩
    obtain ⟨m, rfl⟩ : ∃ m, n = m + 1 := ⟨n - 1, by omega⟩
    rw [rdItem_s, h1 m (by omega), Option.bind_some]
    have : repHd u = true := lx_inv h5
    simp [rdRep, this, h5]
  · intro ts T h ih s r hl hr
    obtain ⟨N, h1⟩ := ih s r hl hr
    refine ⟨1, N, fun n hn => ?_⟩
    rw [rdCat_s, if_neg (by rw [(h.start (by omega) hl).1]; simp), h1 n hn, Option.bind_some]
  · intro us vs A B h1 h2 i1 i2 s r hl hr
    obtain ⟨u, h3, h4⟩ := Lxs.split hl
    have hs := h2.start (by omega) h4
    obtain ⟨k, N, e1⟩ := i1 s u h3 hs.2
    obtain ⟨N2, e2⟩ := i2 u r h4 hr
    refine ⟨1 + k, max N N2, fun n hn => ?_⟩
    rw [← Nat.add_assoc, e1 (n + 1) (by omega), rdCatL_s, if_neg (by rw [hs.1]; simp), e2 n (by omega), Option.bind_some]
  · intro s r hl hr
    obtain rfl : s = r := hl
    refine ⟨1, 1, fun n hn => ?_⟩
    obtain ⟨m, rfl⟩ : ∃ m, n = m + 1 := ⟨n - 1, by omega⟩
    rw [rdAlt_s, rdCat_s, if_pos hr, Option.bind_some]
  · intro ts T h ih s r hl hr
    obtain ⟨N, h1⟩ := cat_done (ih s r hl (end_rep hr)) hr
    refine ⟨1, N, fun n hn => ?_⟩
    rw [rdAlt_s, h1 n hn, Option.bind_some]
  · intro us A h ih s r hl hr
    obtain ⟨u, h3, r2, h5, h6⟩ := Lxs.split hl
    obtain rfl : r2 = r := h6
    have e1 : u = 124 :: _ := lx_inv h5
    subst e1
    obtain ⟨k, N, e2⟩ := ih s _ h3 rfl
    refine ⟨1 + k, N + 1, fun n hn => ?_⟩
    obtain ⟨m, rfl⟩ : ∃ m, n = m + 1 := ⟨n - 1, by omega⟩
    rw [← Nat.add_assoc, e2 (m + 1 + 1) (by omega), rdAltL_c, if_pos rfl, rdCat_s, if_pos hr, Option.bind_some]
  · intro us vs A B h1 h2 i1 i2 s r hl hr
    obtain ⟨u, h3, r2, h5, h6⟩ := Lxs.split hl
    have e1 : u = 124 :: _ := lx_inv h5
    subst e1
    obtain ⟨k, N, e2⟩ := i1 s _ h3 rfl
    obtain ⟨N2, e3⟩ := cat_done (i2 _ r h6 (end_rep hr)) hr
    refine ⟨1 + k, max N N2, fun n hn => ?_⟩
    rw [← Nat.add_assoc, e2 (n + 1) (by omega), rdAltL_c, if_pos rfl, e3 n (by omega), Option.bind_some]
/-- All that can be read is read. -/
theorem rd_all {s r : List Int} {ts : List Tk} {T : Tr} (hl : Lxs s ts r) (h : Gr 3 ts T) (hr : altEnd r = true) : ∃ N, ∀ n, N ≤ n → rdAlt n s = some (T, ts, r) := by
  have hc : catEnd r = true := by
    cases r with
    | nil => rfl
    | cons c t => simp [altEnd] at hr; simp [catEnd]; rcases hr with h | h <;> simp [h]
  obtain ⟨k, N, e⟩ := rd_complete h s r hl hc
  refine ⟨N + 1 + k, fun n hn => ?_⟩
  obtain ⟨m, rfl⟩ : ∃ m, n = m + 1 + k := ⟨n - 1 - k, by omega⟩
  rw [e (m + 1) (by omega), rdAltL_end hr]

end Go.Proofs.Ytjjmgegbeccjoaa
