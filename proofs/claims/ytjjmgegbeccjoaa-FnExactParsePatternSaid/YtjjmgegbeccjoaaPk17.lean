import Derived.Test.YtjjmgegbeccjoaaPk16
namespace Go.Proofs.Ytjjmgegbeccjoaa

theorem mem2_loc {p : Nat → Bool} {lo : Int} {s : List Int} {q : Nat → Bool} {r : List Int} (h : mem2 p lo s = some (q, r)) : ∃ pre, s = pre ++ r ∧ ∀ r', r'.head? = r.head? → mem2 p lo (pre ++ r') = some (q, r') := by
  match s, h with
  | [], h =>
    simp only [mem2] at h
    obtain ⟨rfl, rfl⟩ := Prod.mk.inj (Option.some.inj h)
    refine ⟨[], rfl, fun r' hr => ?_⟩
    cases r' with
    | nil => rfl
    | cons c t => simp at hr
  | c :: t, h =>
    simp only [mem2] at h
    split at h
    · rename_i h1
      cases hc : chr1 t with
      | none => rw [hc] at h; cases h
      | some x =>
        rw [hc] at h
        simp only [Option.bind_some] at h
        split at h
        · cases h
        · rename_i h2
          obtain ⟨rfl, rfl⟩ := Prod.mk.inj (Option.some.inj h)
          obtain ⟨pre, h3, h4, h5⟩ := chr1_loc t x.1 x.2 (by rw [hc])
          refine ⟨c :: pre, by rw [h3]; rfl, fun r' _ => ?_⟩
          simp only [List.cons_append, mem2]
          rw [if_pos h1, h5 r']
          simp only [Option.bind_some]
          rw [if_neg h2]
    · rename_i h1
      obtain ⟨rfl, rfl⟩ := Prod.mk.inj (Option.some.inj h)
      refine ⟨[], rfl, fun r' hr => ?_⟩
      cases r' with
      | nil => simp at hr
      | cons d t' =>
        simp at hr
        subst hr
        simp only [List.nil_append, mem2]
        rw [if_neg h1]
theorem sesB_none {s r r' pre : List Int} {x : Int} (h : chr1 s = some (x, r)) (hs : s = pre ++ r) (hn : sesB s = none) (h0 : ∀ r'', chr1 (pre ++ r'') = some (x, r'')) (hp : 0 < pre.length) : sesB (pre ++ r') = none := by
  match pre, hp with
  | [c], _ =>
    by_cases e : c = 92
    · subst e
      have := h0 []
      simp [chr1, besc] at this
    · simp only [List.cons_append, sesB]
      rw [if_neg e]
  | c :: d :: t, _ =>
    subst hs
    simp only [List.cons_append, sesB] at hn ⊢
    split at hn
    · rename_i h1
      rw [if_pos h1]
      simp only [sesc] at hn ⊢
      split at hn
      · cases hn
      · split at hn
        · cases hn
        · split at hn
          · cases hn
          · rename_i a b c
            rw [if_neg a, if_neg b, if_neg c]
    · rename_i h1
      rw [if_neg h1]
theorem mem1_loc (p : Nat → Bool) : LocH (mem1 p) := fun s q r h => by
  unfold mem1 at h
  cases hs : sesB s with
  | some x =>
    rw [hs] at h
    obtain ⟨cs, t⟩ := x
    simp only at h
    obtain ⟨rfl, rfl⟩ := Prod.mk.inj (Option.some.inj h)
    obtain ⟨pre, h1, h2, h3⟩ := sesB_loc s cs t hs
    exact ⟨pre, h1, h2, fun r' _ => by unfold mem1; rw [h3 r']⟩
  | none =>
    rw [hs] at h
    simp only at h
    cases hc : chr1 s with
    | none => rw [hc] at h; cases h
    | some x =>
      rw [hc] at h
      simp only [Option.bind_some] at h
      obtain ⟨pre, h1, h2, h3⟩ := chr1_loc s x.1 x.2 (by rw [hc])
      obtain ⟨pre2, h4, h5⟩ := mem2_loc h
      refine ⟨pre ++ pre2, by rw [h1, h4]; simp, by simp; omega, fun r' hr => ?_⟩
      unfold mem1
      rw [List.append_assoc, sesB_none (x := x.1) (by rw [hc]) h1 hs h3 h2]
      simp only
      rw [h3]
      simp only [Option.bind_some]
      exact h5 r' hr
theorem clsG_loc : ∀ (n : Nat) (p : Nat → Bool), ∀ s q r, clsG n p s = some (q, r) → ∃ pre, s = pre ++ r ∧ 0 < pre.length ∧ ∀ r' m, n ≤ m → clsG m p (pre ++ r') = some (q, r')
  | 0, p, s, q, r, h => by simp [clsG] at h
  | n + 1, p, [], q, r, h => by simp [clsG] at h
  | n + 1, p, c :: t, q, r, h => by
    simp only [clsG] at h
    split at h
    · rename_i h1
      obtain ⟨rfl, rfl⟩ := Prod.mk.inj (Option.some.inj h)
      refine ⟨[c], rfl, by simp, fun r' m hm => ?_⟩
      cases m with
      | zero => omega
      | succ m => simp only [List.cons_append, List.nil_append, clsG]; rw [if_pos h1]
    · rename_i h1
      cases hm : mem1 p (c :: t) with
      | none => rw [hm] at h; cases h
      | some x =>
        rw [hm] at h
        simp only [Option.bind_some] at h
        obtain ⟨p1, e1, l1, k1⟩ := mem1_loc p (c :: t) x.1 x.2 (by rw [hm])
        obtain ⟨p2, e2, l2, k2⟩ := clsG_loc n x.1 x.2 q r h
        refine ⟨p1 ++ p2, by rw [e1, e2]; simp, by simp; omega, fun r' m hmn => ?_⟩
        cases m with
        | zero => omega
        | succ m =>
          match p1, l1, e1, k1 with
          | d :: p1', _, e1, k1 =>
            simp only [List.cons_append] at e1 ⊢
            have e3 := (List.cons.inj e1).1
            subst e3
            simp only [clsG]
            rw [if_neg h1]
            have := k1 (p2 ++ r') (by rw [e2]; match p2, l2 with | y :: p2', _ => rfl)
            simp only [List.cons_append] at this
            rw [List.append_assoc, this]
            simp only [Option.bind_some]
            exact k2 r' m (by omega)
theorem clsG_more {n m : Nat} {p q : Nat → Bool} {s r : List Int} (h : clsG n p s = some (q, r)) (hm : n ≤ m) : clsG m p s = some (q, r) := by
  obtain ⟨pre, h1, -, h3⟩ := clsG_loc n p s q r h
  rw [h1]
  exact h3 r m hm
/-- The fuel does not matter. -/
theorem clsG_fuel : ∀ (n : Nat) (p : Nat → Bool) (s : List Int), s.length < n → ∀ m, n ≤ m → clsG m p s = clsG n p s
  | 0, _, _, h, _, _ => by omega
  | n + 1, p, [], _, m, hm => by
    cases m with
    | zero => omega
    | succ m => simp [clsG]
  | n + 1, p, c :: t, h, m, hm => by
    cases m with
    | zero => omega
    | succ m =>
      simp only [clsG]
      split
      · rfl
      · cases hx : mem1 p (c :: t) with
        | none => rfl
        | some x =>
          simp only [Option.bind_some]
          obtain ⟨p1, e1, l1, -⟩ := mem1_loc p (c :: t) x.1 x.2 (by rw [hx])
          have := congrArg List.length e1
          simp at this h
          exact clsG_fuel n x.1 x.2 (by omega) m (by omega)
theorem cls_loc : Loc cls := fun s x r h => by
  match s, h with
  | c :: t, h =>
    simp only [cls] at h
    split at h
    · rename_i h1
      cases hc : clsG (t.length + 1) (fun _ => false) t with
      | none => rw [hc] at h; cases h
      | some y =>
        rw [hc] at h
        simp only [Option.map_some] at h
        obtain ⟨rfl, rfl⟩ := Prod.mk.inj (Option.some.inj h)
        obtain ⟨pre, e1, l1, k1⟩ := clsG_loc _ _ t y.1 y.2 (by rw [hc])
        refine ⟨c :: pre, by rw [e1]; rfl, by simp, fun r' => ?_⟩
        simp only [List.cons_append, cls]
        rw [if_pos h1]
        have h5 := k1 r' (max (t.length + 1) ((pre ++ r').length + 1)) (by omega)
        rw [clsG_fuel ((pre ++ r').length + 1) _ _ (by omega) _ (by omega)] at h5
        rw [h5]
        rfl
    · rename_i h1
      cases hc : clsG (t.length + 2) (fun _ => false) (c :: t) with
      | none => rw [hc] at h; cases h
      | some y =>
        rw [hc] at h
        simp only [Option.map_some] at h
        obtain ⟨rfl, rfl⟩ := Prod.mk.inj (Option.some.inj h)
        obtain ⟨pre, e1, l1, k1⟩ := clsG_loc _ _ (c :: t) y.1 y.2 (by rw [hc])
        match pre, l1, e1, k1 with
        | d :: pre, _, e1, k1 =>
          have e3 := (List.cons.inj e1).1
          subst e3
          refine ⟨c :: pre, e1, by simp, fun r' => ?_⟩
          simp only [List.cons_append, cls]
          rw [if_neg h1]
          have h5 := k1 r' (max (t.length + 2) ((pre ++ r').length + 2)) (by omega)
          simp only [List.cons_append] at h5
          rw [clsG_fuel ((pre ++ r').length + 2) _ _ (by simp) _ (by omega)] at h5
          rw [h5]
          rfl


theorem take_hd {s r' : List Int} (h : r'.head? = (s.dropWhile isD).head?) : (s.takeWhile isD ++ r').takeWhile isD = s.takeWhile isD ∧ (s.takeWhile isD ++ r').dropWhile isD = r' := by
  have key : r'.takeWhile isD = [] ∧ r'.dropWhile isD = r' := by
    cases r' with
    | nil => exact ⟨rfl, rfl⟩
    | cons c t =>
      simp only [List.head?_cons] at h
      have hc : isD c = false := by
        clear t
        induction s with
        | nil => simp at h
        | cons d u ih =>
          rw [List.dropWhile_cons] at h
          split at h
          · exact ih h
          · rename_i hd
            simp at h
            subst h
            simpa using hd
      exact ⟨by rw [List.takeWhile_cons, hc]; rfl, by rw [List.dropWhile_cons, hc]; rfl⟩
  clear h
  induction s with
  | nil => exact key
  | cons d u ih =>
    rw [List.takeWhile_cons]
    split
    · rename_i hd
      rw [List.cons_append, List.takeWhile_cons, if_pos hd, List.dropWhile_cons, if_pos hd, ih.1, ih.2]
      exact ⟨rfl, rfl⟩
    · exact key
theorem num1_loc : LocH num1 := fun s x r h => by
  unfold num1 at h
  split at h
  · cases h
  · rename_i h1
    obtain ⟨rfl, rfl⟩ := Prod.mk.inj (Option.some.inj h)
    refine ⟨s.takeWhile isD, (List.takeWhile_append_dropWhile).symm, by omega, fun r' hr => ?_⟩
    obtain ⟨e1, e2⟩ := take_hd hr
    unfold num1
    rw [e1, e2, if_neg h1]
theorem brc3_loc (lo : Int) : Loc (brc3 lo) := fun s x r h => by
  match s, h with
  | c :: t, h =>
    simp only [brc3] at h
    split at h
    · rename_i h1
      obtain ⟨rfl, rfl⟩ := Prod.mk.inj (Option.some.inj h)
      exact ⟨[c], rfl, by simp, fun r' => by simp only [List.cons_append, List.nil_append, brc3]; rw [if_pos h1]⟩
    · rename_i h1
      cases hn : num1 (c :: t) with
      | none => rw [hn] at h; cases h
      | some y =>
        rw [hn] at h
        simp only [Option.bind_some] at h
        split at h
        · cases h
        · rename_i h2
          obtain ⟨v, u⟩ := y
          simp only at h h2
          obtain ⟨p1, e1, l1, k1⟩ := num1_loc _ _ _ hn
          match u, h with
          | d :: r2, h =>
            simp only at h
            split at h
            · rename_i h3
              obtain ⟨rfl, rfl⟩ := Prod.mk.inj (Option.some.inj h)
              match p1, l1, e1, k1 with
              | c' :: p1, _, e1, k1 =>
                have e3 := (List.cons.inj e1).1
                subst e3
                refine ⟨c :: (p1 ++ [d]), by rw [e1]; simp, by simp, fun r' => ?_⟩
                simp only [List.cons_append, brc3]
                have h5 := k1 (d :: r') rfl
                simp only [List.cons_append] at h5
                rw [if_neg h1, show p1 ++ [d] ++ r' = p1 ++ d :: r' by simp, h5]
                simp only [Option.bind_some]
                rw [if_neg h2]
                exact if_pos h3
            · cases h
theorem brc2_loc (lo : Int) : Loc (brc2 lo) := fun s x r h => by
  match s, h with
  | c :: t, h =>
    simp only [brc2] at h
    split at h
    · rename_i h1
      obtain ⟨rfl, rfl⟩ := Prod.mk.inj (Option.some.inj h)
      exact ⟨[c], rfl, by simp, fun r' => by simp only [List.cons_append, List.nil_append, brc2]; rw [if_pos h1]⟩
    · rename_i h1
      split at h
      · rename_i h2
        obtain ⟨p1, e1, l1, k1⟩ := brc3_loc lo _ _ _ h
        exact ⟨c :: p1, by rw [e1]; rfl, by simp, fun r' => by simp only [List.cons_append, brc2]; rw [if_neg h1, if_pos h2]; exact k1 r'⟩
      · cases h
theorem brc_loc : Loc brc := fun s x r h => by
  unfold brc at h
  cases hn : num1 s with
  | none => rw [hn] at h; cases h
  | some y =>
    rw [hn] at h
    simp only [Option.bind_some] at h
    obtain ⟨p1, e1, l1, k1⟩ := num1_loc s y.1 y.2 (by rw [hn])
    obtain ⟨p2, e2, l2, k2⟩ := brc2_loc y.1 _ _ _ h
    refine ⟨p1 ++ p2, by rw [e1, e2]; simp, by simp; omega, fun r' => ?_⟩
    unfold brc
    rw [List.append_assoc, k1 (p2 ++ r') (by rw [e2]; match p2, l2 with | y :: p2', _ => rfl)]
    simp only [Option.bind_some]
    exact k2 r'
theorem sesc_none {s r r' p : List Int} {x : Int} (h : besc s = some (x, r)) (hn : sesc s = none) (hs : s = p ++ r) (hp : 0 < p.length) : sesc (p ++ r') = none := by
  match p, hp with
  | c :: t, _ =>
    subst hs
    simp only [List.cons_append, sesc] at hn ⊢
    split at hn
    · cases hn
    · split at hn
      · cases hn
      · split at hn
        · cases hn
        · rename_i a b c
          rw [if_neg a, if_neg b, if_neg c]
/-- A token looks at nothing behind it. -/
theorem lx_loc : Loc lx := fun s x r h => by
  match s, h with
  | c :: t, h =>
    have one : ∀ {u : Tk}, some (u, t) = some (x, r) → (∀ r', lx (c :: r') = some (u, r')) → ∃ p, c :: t = p ++ r ∧ 0 < p.length ∧ ∀ r', lx (p ++ r') = some (x, r') := fun e k => by
      obtain ⟨rfl, rfl⟩ := Prod.mk.inj (Option.some.inj e)
      exact ⟨[c], rfl, by simp, fun r' => k r'⟩
    rw [lx] at h
    by_cases h1 : c = 40
    · rw [if_pos h1] at h
      exact one h (fun r' => by rw [lx, if_pos h1])
    rw [if_neg h1] at h
    by_cases h2 : c = 41
    · rw [if_pos h2] at h
      exact one h (fun r' => by rw [lx, if_neg h1, if_pos h2])
    rw [if_neg h2] at h
    by_cases h3 : c = 124
    · rw [if_pos h3] at h
      exact one h (fun r' => by rw [lx, if_neg h1, if_neg h2, if_pos h3])
    rw [if_neg h3] at h
    by_cases h4 : c = 42
    · rw [if_pos h4] at h
      exact one h (fun r' => by rw [lx, if_neg h1, if_neg h2, if_neg h3, if_pos h4])
    rw [if_neg h4] at h
    by_cases h5 : c = 43
    · rw [if_pos h5] at h
      exact one h (fun r' => by rw [lx, if_neg h1, if_neg h2, if_neg h3, if_neg h4, if_pos h5])
    rw [if_neg h5] at h
    by_cases h6 : c = 63
    · rw [if_pos h6] at h
      exact one h (fun r' => by rw [lx, if_neg h1, if_neg h2, if_neg h3, if_neg h4, if_neg h5, if_pos h6])
    rw [if_neg h6] at h
    by_cases h7 : c = 123
    · rw [if_pos h7] at h
      cases hb : brc t with
      | none => rw [hb] at h; cases h
      | some y =>
        rw [hb] at h
        simp only [Option.map_some] at h
        obtain ⟨rfl, rfl⟩ := Prod.mk.inj (Option.some.inj h)
        obtain ⟨p1, e1, l1, k1⟩ := brc_loc t y.1 y.2 (by rw [hb])
        refine ⟨c :: p1, by rw [e1]; rfl, by simp, fun r' => ?_⟩
        rw [List.cons_append, lx, if_neg h1, if_neg h2, if_neg h3, if_neg h4, if_neg h5, if_neg h6, if_pos h7, k1 r']
        rfl
    rw [if_neg h7] at h
    by_cases h8 : c = 46
    · rw [if_pos h8] at h
      exact one h (fun r' => by rw [lx, if_neg h1, if_neg h2, if_neg h3, if_neg h4, if_neg h5, if_neg h6, if_neg h7, if_pos h8])
    rw [if_neg h8] at h
    by_cases h9 : c = 91
    · rw [if_pos h9] at h
      cases hb : cls t with
      | none => rw [hb] at h; cases h
      | some y =>
        rw [hb] at h
        simp only [Option.map_some] at h
        obtain ⟨rfl, rfl⟩ := Prod.mk.inj (Option.some.inj h)
        obtain ⟨p1, e1, l1, k1⟩ := cls_loc t y.1 y.2 (by rw [hb])
        refine ⟨c :: p1, by rw [e1]; rfl, by simp, fun r' => ?_⟩
        rw [List.cons_append, lx, if_neg h1, if_neg h2, if_neg h3, if_neg h4, if_neg h5, if_neg h6, if_neg h7, if_neg h8, if_pos h9, k1 r']
        rfl
    rw [if_neg h9] at h
    by_cases h10 : c = 92
    · rw [if_pos h10] at h
      cases hb : sesc t with
      | some y =>
        rw [hb] at h
        simp only at h
        obtain ⟨rfl, rfl⟩ := Prod.mk.inj (Option.some.inj h)
        obtain ⟨p1, e1, l1, k1⟩ := sesc_loc t y.1 y.2 (by rw [hb])
        refine ⟨c :: p1, by rw [e1]; rfl, by simp, fun r' => ?_⟩
        rw [List.cons_append, lx, if_neg h1, if_neg h2, if_neg h3, if_neg h4, if_neg h5, if_neg h6, if_neg h7, if_neg h8, if_neg h9, if_pos h10, k1 r']
      | none =>
        rw [hb] at h
        simp only at h
        cases hc : besc t with
        | none => rw [hc] at h; cases h
        | some y =>
          rw [hc] at h
          simp only [Option.map_some] at h
          obtain ⟨rfl, rfl⟩ := Prod.mk.inj (Option.some.inj h)
          obtain ⟨p1, e1, l1, k1⟩ := besc_loc t y.1 y.2 (by rw [hc])
          refine ⟨c :: p1, by rw [e1]; rfl, by simp, fun r' => ?_⟩
          rw [List.cons_append, lx, if_neg h1, if_neg h2, if_neg h3, if_neg h4, if_neg h5, if_neg h6, if_neg h7, if_neg h8, if_neg h9, if_pos h10, sesc_none (x := y.1) (by rw [hc]) hb e1 l1]
          simp only
          rw [k1 r']
          rfl
    rw [if_neg h10] at h
    by_cases h11 : c ∈ spcZ
    · rw [if_pos h11] at h; cases h
    · rw [if_neg h11] at h
      exact one h (fun r' => by rw [lx, if_neg h1, if_neg h2, if_neg h3, if_neg h4, if_neg h5, if_neg h6, if_neg h7, if_neg h8, if_neg h9, if_neg h10, if_neg h11])
/-- A text begins with these tokens. -/
def Lxs : List Int → List Tk → List Int → Prop
  | s, [], u => s = u
  | s, t :: ts, u => ∃ r, lx s = some (t, r) ∧ Lxs r ts u
theorem Lxs.nil (s : List Int) : Lxs s [] s := rfl
theorem Lxs.cons {s r u : List Int} {t : Tk} {ts : List Tk} (h : lx s = some (t, r)) (k : Lxs r ts u) : Lxs s (t :: ts) u := ⟨r, h, k⟩
theorem Lxs.part {ts : List Tk} : ∀ {s u : List Int}, Lxs s ts u → ∃ p, s = p ++ u ∧ ∀ u', Lxs (p ++ u') ts u' := by
  induction ts with
  | nil => intro s u h; obtain rfl : s = u := h; exact ⟨[], rfl, fun u' => .nil _⟩
  | cons t ts ih =>
    rintro s u ⟨r, h1, h2⟩
    obtain ⟨p, e, k⟩ := ih h2
    obtain ⟨p1, e1, -, k1⟩ := lx_loc _ _ _ h1
    refine ⟨p1 ++ p, by rw [e1, e]; simp, fun u' => ?_⟩
    rw [List.append_assoc]
    exact .cons (k1 _) (k u')
theorem Lxs.app {ts us : List Tk} : ∀ {s r u : List Int}, Lxs s ts r → Lxs r us u → Lxs s (ts ++ us) u := by
  induction ts with
  | nil => intro s r u h k; obtain rfl : s = r := h; exact k
  | cons t ts ih =>
    rintro s r u ⟨r', h1, h2⟩ k
    exact ⟨r', h1, ih h2 k⟩
theorem Lxs.one {ts : List Tk} : ∀ {s u u' : List Int} {ts' : List Tk}, Lxs s ts u → Lxs s ts' u' → lx u = none → lx u' = none → ts = ts' ∧ u = u' := by
  induction ts with
  | nil =>
    intro s u u' ts' h k hu hu'
    obtain rfl : s = u := h
    cases ts' with
    | nil => exact ⟨rfl, k⟩
    | cons t ts' => obtain ⟨r, h1, -⟩ := k; rw [hu] at h1; cases h1
  | cons t ts ih =>
    rintro s u u' ts' ⟨r, h1, h2⟩ k hu hu'
    cases ts' with
    | nil => obtain rfl : s = u' := k; rw [hu'] at h1; cases h1
    | cons t' ts' =>
      obtain ⟨r', k1, k2⟩ := k
      rw [h1] at k1
      obtain ⟨rfl, rfl⟩ := Prod.mk.inj (Option.some.inj k1)
      obtain ⟨rfl, rfl⟩ := ih h2 k2 hu hu'
      exact ⟨rfl, rfl⟩
/-- A dollar at the end: the tokens ahead of it. -/
theorem Lxs.dollar {s : List Int} {ts : List Tk} : Lxs (s ++ [36]) ts [36] ↔ Lxs s ts [] := by
  constructor
  · intro h
    obtain ⟨p, e, k⟩ := h.part
    have := (List.append_inj' e rfl).1
    subst this
    have := k []
    rwa [List.append_nil] at this
  · intro h
    obtain ⟨p, e, k⟩ := h.part
    rw [List.append_nil] at e
    subst e
    exact k [36]
theorem lx_dollar (r : List Int) : lx (36 :: r) = none := by simp [lx, spcZ]

end Go.Proofs.Ytjjmgegbeccjoaa
