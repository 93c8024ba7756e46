import Derived.Test.YthgnefdefjannaaGreatDe5
namespace Go.Proofs.YthgnefdefjannaaGreat
open Go.RowKit

/-- A segment as data. -/
structure Sg where
  b : Int
  xs : List (List Int)
  ks : List Int
  pss : List (List Int)
def DecG (bs : List Int) (g : Sg) : Prop := Dec bs g.b g.xs g.ks g.pss
theorem DecG.uniq {bs : List Int} {g g' : Sg} (h : DecG bs g) (h' : DecG bs g') : g = g' := by
  obtain ⟨h1, h2, h3, h4⟩ := Dec.uniq h h'
  cases g; cases g'
  simp only at h1 h2 h3 h4
  subst h1 h2 h3 h4
  rfl
theorem DecG.enc {bs : List Int} {g : Sg} (h : DecG bs g) (hb : Bytes bs) : EncIn g.b g.xs g.ks g.pss ∧ SegIn g.b g.xs g.ks g.pss := by
  obtain ⟨h1, h2, h3⟩ := h
  have hp := parP_enc (ks := g.ks) (pss := g.pss) h1
  rw [h3] at hp
  have hy : ∀ l ∈ g.xs, Bytes l := by
    have := (parP_ok hb).2.2.2
    rw [hp] at this
    exact this
  obtain ⟨f0, f1, f2, f3, f4⟩ := id h1
  have hl := segR_len h2 (by omega)
  have hl3 := h2.len
  exact ⟨built_enc h1 h2 hy (by omega) (by omega), ⟨hy, by omega, by omega, by omega, by omega, by omega, by omega, by omega⟩⟩
open Classical in
/-- What bytes decode to. -/
noncomputable def decO (bs : List Int) : Option Sg := if h : ∃ g, DecG bs g then some h.choose else none
theorem decO_some {bs : List Int} {g : Sg} (h : DecG bs g) : decO bs = some g := by
  unfold decO
  have hx : ∃ g, DecG bs g := ⟨g, h⟩
  rw [dif_pos hx, hx.choose_spec.uniq h]
theorem decO_none {bs : List Int} (h : ∀ b xs ks pss, ¬ Dec bs b xs ks pss) : decO bs = none := by
  unfold decO
  rw [dif_neg]
  rintro ⟨g, hg⟩
  exact h _ _ _ _ hg
theorem decO_is {bs : List Int} {g : Sg} (h : decO bs = some g) : DecG bs g := by
  unfold decO at h
  by_cases hx : ∃ g, DecG bs g
  · rw [dif_pos hx] at h
    cases h
    exact hx.choose_spec
  · rw [dif_neg hx] at h
    cases h

def nL : List Sg → Nat
  | [] => 0
  | g :: r => g.xs.length + nL r
def nB : List Sg → Nat
  | [] => 0
  | g :: r => tot g.xs + nB r
theorem nL_app (a b : List Sg) : nL (a ++ b) = nL a + nL b := by
  induction a with
  | nil => simp [nL]
  | cons g r ih => simp only [List.cons_append, nL, ih]; omega
theorem nB_app (a b : List Sg) : nB (a ++ b) = nB a + nB b := by
  induction a with
  | nil => simp [nB]
  | cons g r ih => simp only [List.cons_append, nB, ih]; omega
theorem nL_one (g : Sg) : nL [g] = g.xs.length := by simp [nL]
theorem nB_one (g : Sg) : nB [g] = tot g.xs := by simp [nB]

/-- The segments of a state. -/
noncomputable def decA : Int → List (List Int) → Option (List Sg)
  | _, [] => some []
  | base, bs :: r => match decO bs with
    | none => none
    | some g => if g.b = base then (decA (base + g.xs.length) r).map (fun t => g :: t) else none
theorem decA_none {base : Int} {bs : List Int} {r : List (List Int)} (h : decO bs = none) : decA base (bs :: r) = none := by simp only [decA, h]
theorem decA_base {base : Int} {bs : List Int} {r : List (List Int)} {g : Sg} (h : decO bs = some g) (hb : ¬ g.b = base) : decA base (bs :: r) = none := by simp only [decA, h, if_neg hb]
theorem decA_cons {base : Int} {bs : List Int} {r : List (List Int)} {g : Sg} (h : decO bs = some g) (hb : g.b = base) : decA base (bs :: r) = (decA (base + g.xs.length) r).map (fun t => g :: t) := by simp only [decA, h, if_pos hb]
/-- What is known of the segments of a state. -/
theorem decA_ok : ∀ (bss : List (List Int)) (base : Int) (gs : List Sg), decA base bss = some gs → gs.length = bss.length ∧ (∀ i : Nat, i < gs.length → ∃ g, gs[i]? = some g ∧ DecG (bss[i]?.getD []) g ∧ g.b = base + nL (gs.take i)) ∧ (0 ≤ base → bss = [] ∨ base + nL gs ≤ 1000)
  | [], base, gs, h => by
    simp only [decA, Option.some.injEq] at h
    subst h
    exact ⟨rfl, fun i hi => absurd hi (Nat.not_lt_zero _), fun _ => Or.inl rfl⟩
  | bs :: r, base, gs, h => by
    cases hd : decO bs with
    | none => rw [decA_none hd] at h; cases h
    | some g =>
      by_cases hb : g.b = base
      · rw [decA_cons hd hb] at h
        cases ht : decA (base + g.xs.length) r with
        | none => rw [ht] at h; cases h
        | some t =>
          rw [ht] at h
          simp only [Option.map_some, Option.some.injEq] at h
          subst h
          obtain ⟨h1, h2, h3⟩ := decA_ok r _ t ht
          have hg := decO_is hd
          obtain ⟨⟨f0, f1, f2, f3, f4⟩, -⟩ := id hg
          refine ⟨by simp [h1], fun i hi => ?_, fun h0 => Or.inr ?_⟩
          · cases i with
            | zero => exact ⟨g, rfl, hg, by simp [nL, hb]⟩
            | succ i =>
              obtain ⟨g', e1, e2, e3⟩ := h2 i (by simpa using hi)
              exact ⟨g', by simpa using e1, by simpa using e2, by rw [e3, List.take_succ_cons, nL]; omega⟩
          · rcases h3 (by omega) with h3 | h3
            · subst h3
              have : t = [] := List.eq_nil_of_length_eq_zero (by simpa using h1)
              subst this
              simp only [nL]
              omega
            · simp only [nL]
              omega
      · rw [decA_base hd hb] at h; cases h

open Classical in
/-- The segments of a state, if it is valid. -/
noncomputable def stO (bss oss : List (List Int)) : Option (List Sg) := match decA 0 bss with
  | none => none
  | some gs => if Plain oss ∧ nL gs + oss.length ≤ 1000 ∧ nB gs + tot oss ≤ 20000 then some gs else none
theorem stO_none {bss oss : List (List Int)} (h : decA 0 bss = none) : stO bss oss = none := by simp only [stO, h]
theorem stO_no {bss oss : List (List Int)} {gs : List Sg} (h : decA 0 bss = some gs) (hn : ¬ (Plain oss ∧ nL gs + oss.length ≤ 1000 ∧ nB gs + tot oss ≤ 20000)) : stO bss oss = none := by simp only [stO, h, if_neg hn]
theorem stO_yes {bss oss : List (List Int)} {gs : List Sg} (h : decA 0 bss = some gs) (hn : Plain oss ∧ nL gs + oss.length ≤ 1000 ∧ nB gs + tot oss ≤ 20000) : stO bss oss = some gs := by simp only [stO, h, if_pos hn]
theorem stO_is {bss oss : List (List Int)} {gs : List Sg} (h : stO bss oss = some gs) : decA 0 bss = some gs ∧ Plain oss ∧ nL gs + oss.length ≤ 1000 ∧ nB gs + tot oss ≤ 20000 := by
  cases hd : decA 0 bss with
  | none => rw [stO_none hd] at h; cases h
  | some t =>
    by_cases hn : Plain oss ∧ nL t + oss.length ≤ 1000 ∧ nB t + tot oss ≤ 20000
    · rw [stO_yes hd hn] at h
      cases h
      exact ⟨rfl, hn⟩
    · rw [stO_no hd hn] at h; cases h

/-- The first segments of a state, and the rest. -/
def DecP (bss : List (List Int)) (i : Nat) (gs : List Sg) : Prop := decA 0 bss = (decA (nL gs) (bss.drop i)).map (fun t => gs ++ t)
theorem DecP.start (bss : List (List Int)) : DecP bss 0 [] := by
  unfold DecP
  simp [nL]
theorem DecP.step {bss : List (List Int)} {i : Nat} {gs : List Sg} {g : Sg} (h : DecP bss i gs) (hi : i < bss.length) (hd : decO (bss[i]?.getD []) = some g) (hb : g.b = nL gs) : DecP bss (i + 1) (gs ++ [g]) := by
  unfold DecP at *
  rw [List.getElem?_eq_getElem hi, Option.getD_some] at hd
  rw [h, List.drop_eq_getElem_cons hi, decA_cons hd hb, nL_app, nL_one, Option.map_map]
  congr 1
  funext t
  simp
theorem DecP.bad {bss : List (List Int)} {i : Nat} {gs : List Sg} (h : DecP bss i gs) (hi : i < bss.length) (hd : decO (bss[i]?.getD []) = none) : decA 0 bss = none := by
  unfold DecP at h
  rw [List.getElem?_eq_getElem hi, Option.getD_some] at hd
  rw [h, List.drop_eq_getElem_cons hi, decA_none hd]
  rfl
theorem DecP.base {bss : List (List Int)} {i : Nat} {gs : List Sg} {g : Sg} (h : DecP bss i gs) (hi : i < bss.length) (hd : decO (bss[i]?.getD []) = some g) (hb : ¬ g.b = nL gs) : decA 0 bss = none := by
  unfold DecP at h
  rw [List.getElem?_eq_getElem hi, Option.getD_some] at hd
  rw [h, List.drop_eq_getElem_cons hi, decA_base hd hb]
  rfl
theorem DecP.done {bss : List (List Int)} {gs : List Sg} (h : DecP bss bss.length gs) : decA 0 bss = some gs := by
  unfold DecP at h
  rw [h, List.drop_length]
  simp [decA]
/-- A beginning that is too long can't be mended. -/
theorem DecP.full {bss oss : List (List Int)} {i : Nat} {gs : List Sg} (h : DecP bss i gs) (hf : 1000 < nL gs ∨ 20000 < nB gs) : stO bss oss = none := by
  unfold DecP at h
  cases hd : decA (nL gs) (bss.drop i) with
  | none => rw [hd] at h; exact stO_none h
  | some t =>
    rw [hd] at h
    refine stO_no h ?_
    rintro ⟨-, h1, h2⟩
    rw [nL_app] at h1
    rw [nB_app] at h2
    omega

end Go.Proofs.YthgnefdefjannaaGreat
