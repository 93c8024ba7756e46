import Derived.Test.YtpkghafpelilfaaEn5
namespace Go.Proofs.Ytpkghafpelilfaa
open Go.RowKit

/-- A number is read: at most f bytes, zeros behind the end. -/
def tv : Nat → List Int → Int × List Int
  | 0, xs => (0, xs)
  | f + 1, xs => if xs.headD 0 < 128 then (xs.headD 0, xs.tail) else (xs.headD 0 % 128 + 128 * (tv f xs.tail).1, (tv f xs.tail).2)
/-- The same, but a number must end, and the bytes must be there. -/
def rv : Nat → List Int → Option (Int × List Int)
  | 0, _ => none
  | _ + 1, [] => none
  | f + 1, b :: r => if b < 128 then some (b, r) else (rv f r).map (fun p => (b % 128 + 128 * p.1, p.2))

theorem tv_lo (f : Nat) (n : Int) (r : List Int) (h0 : 0 ≤ n) (h : n < 128) : tv (f + 1) (vi n ++ r) = (n, r) := by
  rw [vi_lo h]
  have e : n % 256 = n := by omega
  simp [tv, e, h]
theorem tv_vi (f : Nat) : ∀ (n : Int) (r : List Int), 0 ≤ n → n < 128 ^ (f + 1) → tv (f + 1) (vi n ++ r) = (n, r) := by
  induction f with
  | zero => intro n r h0 h1; exact tv_lo 0 n r h0 (by simpa using h1)
  | succ f ih =>
    intro n r h0 h1
    by_cases h : n < 128
    · exact tv_lo _ n r h0 h
    · have hlt : n / 128 < 128 ^ (f + 1) := by rw [Int.pow_succ] at h1; omega
      have hi := ih (n / 128) r (by omega) hlt
      have e1 : ¬ (n % 128 + 128 < 128) := by omega
      rw [vi_hi h]
      generalize f + 1 = g at hi ⊢
      have e2 : tv (g + 1) ((n % 128 + 128) :: vi (n / 128) ++ r) = ((n % 128 + 128) % 128 + 128 * (tv g (vi (n / 128) ++ r)).1, (tv g (vi (n / 128) ++ r)).2) := by
        simp only [tv, List.cons_append, List.headD_cons, List.tail_cons, e1, if_false]
      rw [e2, hi]
      show ((n % 128 + 128) % 128 + 128 * (n / 128), r) = (n, r)
      congr 1
      omega
theorem rv_lo (f : Nat) (n : Int) (r : List Int) (h0 : 0 ≤ n) (h : n < 128) : rv (f + 1) (vi n ++ r) = some (n, r) := by
  rw [vi_lo h]
  have e : n % 256 = n := by omega
  simp [rv, e, h]
theorem rv_vi (f : Nat) : ∀ (n : Int) (r : List Int), 0 ≤ n → n < 128 ^ (f + 1) → rv (f + 1) (vi n ++ r) = some (n, r) := by
  induction f with
  | zero => intro n r h0 h1; exact rv_lo 0 n r h0 (by simpa using h1)
  | succ f ih =>
    intro n r h0 h1
    by_cases h : n < 128
    · exact rv_lo _ n r h0 h
    · have hlt : n / 128 < 128 ^ (f + 1) := by rw [Int.pow_succ] at h1; omega
      have hi := ih (n / 128) r (by omega) hlt
      have e1 : ¬ (n % 128 + 128 < 128) := by omega
      rw [vi_hi h]
      generalize f + 1 = g at hi ⊢
      have e2 : rv (g + 1) ((n % 128 + 128) :: vi (n / 128) ++ r) = (rv g (vi (n / 128) ++ r)).map (fun p => ((n % 128 + 128) % 128 + 128 * p.1, p.2)) := by
        simp only [rv, List.cons_append, e1, if_false]
      rw [e2, hi]
      show some ((n % 128 + 128) % 128 + 128 * (n / 128), r) = some (n, r)
      congr 2
      omega
theorem tv_bounds (f : Nat) : ∀ xs : List Int, (∀ x ∈ xs, 0 ≤ x ∧ x ≤ 255) → 0 ≤ (tv f xs).1 ∧ (tv f xs).1 < 128 ^ f ∧ ∃ k, (tv f xs).2 = xs.drop k := by
  induction f with
  | zero => intro xs _; exact ⟨Int.le_refl _, by simp [tv], 0, by simp [tv]⟩
  | succ f ih =>
    intro xs h
    have hh : 0 ≤ xs.headD 0 ∧ xs.headD 0 ≤ 255 := by
      cases xs with
      | nil => simp
      | cons x r => exact h x (List.mem_cons_self ..)
    obtain ⟨h1, h2, k, hk⟩ := ih xs.tail (fun x hx => h x (List.mem_of_mem_tail hx))
    have hp : (128 : Int) ^ (f + 1) = 128 * 128 ^ f := by rw [Int.pow_succ]; omega
    have hpos : (1 : Int) ≤ 128 ^ f := by omega
    simp only [tv]
    split
    · refine ⟨hh.1, by rw [hp]; omega, 1, ?_⟩
      cases xs <;> simp
    · refine ⟨by omega, by rw [hp]; omega, k + 1, ?_⟩
      show (tv f xs.tail).2 = _
      rw [hk]
      cases xs <;> simp

/-- The lines, so many, each behind its length: what is found. -/
def pl : Nat → List Int → List (List Int)
  | 0, _ => []
  | k + 1, xs => (tv 9 xs).2.take (tv 9 xs).1.toNat :: pl k ((tv 9 xs).2.drop (tv 9 xs).1.toNat)
theorem pl_len : ∀ (k : Nat) (xs : List Int), (pl k xs).length = k
  | 0, _ => rfl
  | k + 1, xs => by simp [pl, pl_len k]
/-- The same, but they must be there. -/
def rl : Nat → List Int → Option (List (List Int))
  | 0, _ => some []
  | k + 1, xs => match rv 4 xs with
    | none => none
    | some (m, r) => if (r.length : Int) < m then none else (rl k (r.drop m.toNat)).map (fun l => r.take m.toNat :: l)

theorem pl_ln : ∀ (xss : List (List Int)) (r : List Int), tot xss ≤ 1048576 → pl xss.length (lnL xss ++ r) = xss
  | [], _, _ => rfl
  | x :: xss, r, h => by
    simp only [Go.Proofs.Ytpkghafpelilfaa.tot] at h
    have e : lnL (x :: xss) ++ r = vi x.length ++ (x ++ (lnL xss ++ r)) := by simp [lnL, List.append_assoc]
    have e1 := tv_vi 8 (x.length : Int) (x ++ (lnL xss ++ r)) (by omega) (by omega)
    rw [List.length_cons, e, pl, e1]
    simp only [Int.toNat_natCast, List.take_left, List.drop_left]
    rw [pl_ln xss r (by omega)]
theorem rl_ln : ∀ (xss : List (List Int)) (r : List Int), tot xss ≤ 1048576 → rl xss.length (lnL xss ++ r) = some xss
  | [], _, _ => rfl
  | x :: xss, r, h => by
    simp only [Go.Proofs.Ytpkghafpelilfaa.tot] at h
    have e : lnL (x :: xss) ++ r = vi x.length ++ (x ++ (lnL xss ++ r)) := by simp [lnL, List.append_assoc]
    have e1 := rv_vi 3 (x.length : Int) (x ++ (lnL xss ++ r)) (by omega) (by omega)
    have e2 : ¬ (((x ++ (lnL xss ++ r)).length : Int) < (x.length : Int)) := by rw [List.length_append]; omega
    rw [List.length_cons, e, rl, e1]
    simp only [e2, if_false, Int.toNat_natCast, List.take_left, List.drop_left]
    rw [rl_ln xss r (by omega)]
    rfl

/-- What the program reads, what the model reads. -/
def parP (bs : List Int) : Int × List (List Int) :=
  ((tv 9 (bs.drop 2)).1, pl (min (tv 9 (tv 9 (bs.drop 2)).2).1 1000).toNat (tv 9 (tv 9 (bs.drop 2)).2).2)
def parM (bs : List Int) : Option (Int × List (List Int)) :=
  if bs.length < 2 then none else match rv 4 (bs.drop 2) with
    | none => none
    | some (b, r) => match rv 4 r with
      | none => none
      | some (n, r2) => if 1000 < n then none else (rl n.toNat r2).map (fun l => (b, l))

theorem enc_shape (base : Int) (xss pss : List (List Int)) (ks : List Int) : ∃ r, encL base xss ks pss = 84 :: 71 :: (vi base ++ (vi xss.length ++ (lnL xss ++ r))) := by
  refine ⟨vi ks.length ++ (kyL base 0 ks pss ++ ckB (ck (bodL base xss ks pss))), ?_⟩
  simp [encL, bodL, List.append_assoc]
theorem parP_enc {base : Int} {xss pss : List (List Int)} {ks : List Int} (h : Fits base xss) : parP (encL base xss ks pss) = (base, xss) := by
  obtain ⟨h0, h1, h2, -, h4⟩ := h
  obtain ⟨r, e⟩ := enc_shape base xss pss ks
  have e1 := tv_vi 8 base (vi xss.length ++ (lnL xss ++ r)) h0 (by omega)
  have e2 := tv_vi 8 (xss.length : Int) (lnL xss ++ r) (by omega) (by omega)
  have e3 : min (xss.length : Int) 1000 = xss.length := by omega
  unfold parP
  rw [e]
  simp only [List.drop_succ_cons, List.drop_zero, e1, e2, e3, Int.toNat_natCast, pl_ln xss r (by omega)]
theorem parM_enc {base : Int} {xss pss : List (List Int)} {ks : List Int} (h : Fits base xss) : parM (encL base xss ks pss) = some (base, xss) := by
  obtain ⟨h0, h1, h2, -, h4⟩ := h
  obtain ⟨r, e⟩ := enc_shape base xss pss ks
  have e1 := rv_vi 3 base (vi xss.length ++ (lnL xss ++ r)) h0 (by omega)
  have e2 := rv_vi 3 (xss.length : Int) (lnL xss ++ r) (by omega) (by omega)
  have e3 : ¬ (1000 : Int) < xss.length := by omega
  have e4 : ¬ (84 :: 71 :: (vi base ++ (vi xss.length ++ (lnL xss ++ r)))).length < 2 := by simp
  unfold parM
  rw [e, if_neg e4]
  simp only [List.drop_succ_cons, List.drop_zero, e1, e2, e3, if_false, Int.toNat_natCast, rl_ln xss r (by omega), Option.map_some]

/-- bs is the encoded form of this segment. -/
def Dec (bs : List Int) (b : Int) (xs : List (List Int)) (ks : List Int) (pss : List (List Int)) : Prop := Fits b xs ∧ SegR b xs ks pss ∧ encL b xs ks pss = bs
theorem Dec.uniq {bs : List Int} {b b' : Int} {xs xs' pss pss' : List (List Int)} {ks ks' : List Int} (h : Dec bs b xs ks pss) (h' : Dec bs b' xs' ks' pss') : b = b' ∧ xs = xs' ∧ ks = ks' ∧ pss = pss' := by
  obtain ⟨h1, h2, h3⟩ := h
  obtain ⟨g1, g2, g3⟩ := h'
  have e1 := parP_enc (ks := ks) (pss := pss) h1
  have e2 := parP_enc (ks := ks') (pss := pss') g1
  rw [h3] at e1
  rw [g3, e1] at e2
  simp only [Prod.mk.injEq] at e2
  obtain ⟨rfl, rfl⟩ := e2
  have := h2.uniq g2
  exact ⟨rfl, rfl, this.1, this.2⟩
/-- What both sides answer, as data. -/
def DecIs (bs : List Int) (b : Int) (xs : List (List Int)) (ks : List Int) (pss : List (List Int)) (c : Int) : Prop :=
  (Dec bs b xs ks pss ∧ c = 0) ∨ ((∀ b xs ks pss, ¬ Dec bs b xs ks pss) ∧ b = 0 ∧ xs = [] ∧ ks = [] ∧ pss = [] ∧ c = 5)
theorem DecIs.uniq {bs : List Int} {b b' c c' : Int} {xs xs' pss pss' : List (List Int)} {ks ks' : List Int} (h : DecIs bs b xs ks pss c) (h' : DecIs bs b' xs' ks' pss' c') : b = b' ∧ xs = xs' ∧ ks = ks' ∧ pss = pss' ∧ c = c' := by
  rcases h with ⟨h, rfl⟩ | ⟨h, rfl, rfl, rfl, rfl, rfl⟩
  · rcases h' with ⟨h', rfl⟩ | ⟨h', -⟩
    · have := h.uniq h'
      exact ⟨this.1, this.2.1, this.2.2.1, this.2.2.2, rfl⟩
    · exact absurd h (h' _ _ _ _)
  · rcases h' with ⟨h', -⟩ | ⟨-, rfl, rfl, rfl, rfl, rfl⟩
    · exact absurd h' (h _ _ _ _)
    · exact ⟨rfl, rfl, rfl, rfl, rfl⟩
/-- No such segment, if what is read makes none. -/
theorem noDec_P {bs : List Int} {b : Int} {xs : List (List Int)} (hp : parP bs = (b, xs)) (h : ¬ Fits b xs ∨ ∃ ks pss, SegR b xs ks pss ∧ encL b xs ks pss ≠ bs) : ∀ b xs ks pss, ¬ Dec bs b xs ks pss := by
  rintro b' xs' ks' pss' ⟨h1, h2, h3⟩
  have e1 := parP_enc (ks := ks') (pss := pss') h1
  rw [h3, hp] at e1
  simp only [Prod.mk.injEq] at e1
  obtain ⟨rfl, rfl⟩ := e1
  rcases h with h | ⟨ks, pss, g1, g2⟩
  · exact h h1
  · obtain ⟨rfl, rfl⟩ := g1.uniq h2
    exact g2 h3
theorem noDec_M {bs : List Int} (h : parM bs = none ∨ ∃ b xs, parM bs = some (b, xs) ∧ (¬ Fits b xs ∨ ∃ ks pss, SegR b xs ks pss ∧ encL b xs ks pss ≠ bs)) : ∀ b xs ks pss, ¬ Dec bs b xs ks pss := by
  rintro b' xs' ks' pss' ⟨h1, h2, h3⟩
  have e1 := parM_enc (ks := ks') (pss := pss') h1
  rw [h3] at e1
  rcases h with h | ⟨b, xs, hp, h⟩
  · rw [h] at e1; cases e1
  · rw [hp] at e1
    simp only [Option.some.injEq, Prod.mk.injEq] at e1
    obtain ⟨rfl, rfl⟩ := e1
    rcases h with h | ⟨ks, pss, g1, g2⟩
    · exact h h1
    · obtain ⟨rfl, rfl⟩ := g1.uniq h2
      exact g2 h3

end Go.Proofs.Ytpkghafpelilfaa
