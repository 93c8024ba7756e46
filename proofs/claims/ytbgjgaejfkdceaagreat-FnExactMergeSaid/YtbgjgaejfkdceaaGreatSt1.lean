import Derived.Test.YtbgjgaejfkdceaaGreatDe5
namespace Go.Proofs.YtbgjgaejfkdceaaGreat
open Go.RowKit

/-- A segment as data. -/
structure Sg where
  b : Int
  xs : List (List Int)
  ks : List Int
  pss : List (List Int)
def DecG (bs : List Int) (g : Sg) : Prop := Dec bs g.b g.xs g.ks g.pss
theorem DecG.uniq {bs : List Int} {g g' : Sg} (h : DecG bs g) (h' : DecG bs g') : g = g' := by
  obtain ⟨h1, h2, h3, h4⟩ := Dec.uniq h h'
  cases g; cases g'
  simp only at h1 h2 h3 h4
  subst h1 h2 h3 h4
  rfl
theorem DecG.enc {bs : List Int} {g : Sg} (h : DecG bs g) (hb : Bytes bs) : EncIn g.b g.xs g.ks g.pss ∧ SegIn g.b g.xs g.ks g.pss := by
  obtain ⟨h1, h2, h3⟩ := h
  have hp := parP_enc (ks := g.ks) (pss := g.pss) h1
  rw [h3] at hp
  have hy : ∀ l ∈ g.xs, Bytes l := by
    have := (parP_ok hb).2.2.2
    rw [hp] at this
    exact this
  obtain ⟨f0, f1, f2, f3, f4⟩ := id h1
  have hl := segR_len h2 (by omega)
  have hl3 := h2.len
  exact ⟨built_enc h1 h2 hy (by omega) (by omega), ⟨hy, by omega, by omega, by omega, by omega, by omega, by omega, by omega⟩⟩
/-- Bytes that decode to nothing. -/
def DecN (bs : List Int) : Prop := ∀ g, ¬ DecG bs g
theorem decO_some {bs : List Int} {g : Sg} (h : DecG bs g) : DecG bs g := h
theorem decO_none {bs : List Int} (h : ∀ b xs ks pss, ¬ Dec bs b xs ks pss) : DecN bs := fun _ hg => h _ _ _ _ hg
theorem decO_is {bs : List Int} {g : Sg} (h : DecG bs g) : DecG bs g := h

def nL : List Sg → Nat
  | [] => 0
  | g :: r => g.xs.length + nL r
def nB : List Sg → Nat
  | [] => 0
  | g :: r => tot g.xs + nB r
theorem nL_app (a b : List Sg) : nL (a ++ b) = nL a + nL b := by
  induction a with
  | nil => simp [nL]
  | cons g r ih => simp only [List.cons_append, nL, ih]; omega
theorem nB_app (a b : List Sg) : nB (a ++ b) = nB a + nB b := by
  induction a with
  | nil => simp [nB]
  | cons g r ih => simp only [List.cons_append, nB, ih]; omega
theorem nL_one (g : Sg) : nL [g] = g.xs.length := by simp [nL]
theorem nB_one (g : Sg) : nB [g] = tot g.xs := by simp [nB]

/-- The segments of a state. -/
def DecS : Int → List (List Int) → List Sg → Prop
  | _, [], gs => gs = []
  | base, bs :: r, gs => ∃ g t, DecG bs g ∧ g.b = base ∧ DecS (base + g.xs.length) r t ∧ gs = g :: t
theorem DecS.one : ∀ {bss : List (List Int)} {base : Int} {gs gs' : List Sg}, DecS base bss gs → DecS base bss gs' → gs = gs'
  | [], _, _, _, h, h' => h.trans h'.symm
  | _ :: _, _, _, _, ⟨_, _, a1, _, a3, rfl⟩, ⟨_, _, b1, _, b3, rfl⟩ => by
    obtain rfl := a1.uniq b1
    rw [DecS.one a3 b3]
/-- What is known of the segments of a state. -/
theorem decA_ok : ∀ (bss : List (List Int)) (base : Int) (gs : List Sg), DecS base bss gs → gs.length = bss.length ∧ (∀ i : Nat, i < gs.length → ∃ g, gs[i]? = some g ∧ DecG (bss[i]?.getD []) g ∧ g.b = base + nL (gs.take i)) ∧ (0 ≤ base → bss = [] ∨ base + nL gs ≤ 1000)
  | [], base, gs, h => by
    have h : gs = [] := h
    subst h
    exact ⟨rfl, fun i hi => absurd hi (Nat.not_lt_zero _), fun _ => Or.inl rfl⟩
  | bs :: r, base, gs, ⟨g, t, hg, hb, ht, e⟩ => by
    subst e
    obtain ⟨h1, h2, h3⟩ := decA_ok r _ t ht
    obtain ⟨⟨f0, f1, f2, f3, f4⟩, -⟩ := id hg
    refine ⟨by simp [h1], fun i hi => ?_, fun h0 => Or.inr ?_⟩
    · cases i with
      | zero => exact ⟨g, rfl, hg, by simp [nL, hb]⟩
      | succ i =>
        obtain ⟨g', e1, e2, e3⟩ := h2 i (by simpa using hi)
        exact ⟨g', by simpa using e1, by simpa using e2, by rw [e3, List.take_succ_cons, nL]; omega⟩
    · rcases h3 (by omega) with h3 | h3
      · subst h3
        have : t = [] := List.eq_nil_of_length_eq_zero (by simpa using h1)
        subst this
        simp only [nL]
        omega
      · simp only [nL]
        omega

/-- The segments of a state that is valid; a state that is not. -/
def StS (bss oss : List (List Int)) (gs : List Sg) : Prop := DecS 0 bss gs ∧ Plain oss ∧ nL gs + oss.length ≤ 1000 ∧ nB gs + tot oss ≤ 20000
def StN (bss oss : List (List Int)) : Prop := ∀ gs, ¬ StS bss oss gs
theorem StS.one {bss oss : List (List Int)} {gs gs' : List Sg} (h : StS bss oss gs) (h' : StS bss oss gs') : gs = gs' := h.1.one h'.1
theorem stO_none {bss oss : List (List Int)} (h : ∀ gs, ¬ DecS 0 bss gs) : StN bss oss := fun gs k => h gs k.1
theorem stO_no {bss oss : List (List Int)} {gs : List Sg} (h : DecS 0 bss gs) (hn : ¬ (Plain oss ∧ nL gs + oss.length ≤ 1000 ∧ nB gs + tot oss ≤ 20000)) : StN bss oss := fun gs' k => hn (by rw [h.one k.1]; exact k.2)
theorem stO_yes {bss oss : List (List Int)} {gs : List Sg} (h : DecS 0 bss gs) (hn : Plain oss ∧ nL gs + oss.length ≤ 1000 ∧ nB gs + tot oss ≤ 20000) : StS bss oss gs := ⟨h, hn⟩
theorem stO_is {bss oss : List (List Int)} {gs : List Sg} (h : StS bss oss gs) : DecS 0 bss gs ∧ Plain oss ∧ nL gs + oss.length ≤ 1000 ∧ nB gs + tot oss ≤ 20000 := h

/-- The first segments of a state, and the rest. -/
def DecP (bss : List (List Int)) (i : Nat) (gs : List Sg) : Prop := ∀ ts, DecS 0 bss ts ↔ ∃ t, DecS (nL gs) (bss.drop i) t ∧ ts = gs ++ t
theorem DecP.start (bss : List (List Int)) : DecP bss 0 [] := fun ts => ⟨fun h => ⟨ts, h, rfl⟩, fun ⟨t, h, e⟩ => by subst e; exact h⟩
theorem DecP.cons {bss : List (List Int)} {i : Nat} {gs : List Sg} (h : DecP bss i gs) (hi : i < bss.length) (ts : List Sg) : DecS 0 bss ts ↔ ∃ g t, DecG (bss[i]?.getD []) g ∧ g.b = nL gs ∧ DecS ((nL gs : Nat) + (g.xs.length : Nat)) (bss.drop (i + 1)) t ∧ ts = gs ++ g :: t := by
  rw [h ts, List.drop_eq_getElem_cons hi, List.getElem?_eq_getElem hi, Option.getD_some]
  constructor
  · rintro ⟨_, ⟨g, t, h1, h2, h3, rfl⟩, rfl⟩
    exact ⟨g, t, h1, h2, h3, rfl⟩
  · rintro ⟨g, t, h1, h2, h3, rfl⟩
    exact ⟨_, ⟨g, t, h1, h2, h3, rfl⟩, rfl⟩
theorem DecP.step {bss : List (List Int)} {i : Nat} {gs : List Sg} {g : Sg} (h : DecP bss i gs) (hi : i < bss.length) (hd : DecG (bss[i]?.getD []) g) (hb : g.b = nL gs) : DecP bss (i + 1) (gs ++ [g]) := fun ts => by
  rw [h.cons hi ts, nL_app, nL_one]
  constructor
  · rintro ⟨g', t, h1, h2, h3, rfl⟩
    obtain rfl := hd.uniq h1
    exact ⟨t, by simpa using h3, by simp⟩
  · rintro ⟨t, h1, rfl⟩
    exact ⟨g, t, hd, hb, by simpa using h1, by simp⟩
theorem DecP.bad {bss : List (List Int)} {i : Nat} {gs : List Sg} (h : DecP bss i gs) (hi : i < bss.length) (hd : DecN (bss[i]?.getD [])) : ∀ ts, ¬ DecS 0 bss ts := fun ts k => by
  obtain ⟨g, t, h1, -⟩ := (h.cons hi ts).1 k
  exact hd g h1
theorem DecP.base {bss : List (List Int)} {i : Nat} {gs : List Sg} {g : Sg} (h : DecP bss i gs) (hi : i < bss.length) (hd : DecG (bss[i]?.getD []) g) (hb : ¬ g.b = nL gs) : ∀ ts, ¬ DecS 0 bss ts := fun ts k => by
  obtain ⟨g', t, h1, h2, -⟩ := (h.cons hi ts).1 k
  obtain rfl := hd.uniq h1
  exact hb h2
theorem DecP.done {bss : List (List Int)} {gs : List Sg} (h : DecP bss bss.length gs) : DecS 0 bss gs := (h gs).2 ⟨[], by rw [List.drop_length]; rfl, by simp⟩
/-- A beginning that is too long can't be mended. -/
theorem DecP.full {bss oss : List (List Int)} {i : Nat} {gs : List Sg} (h : DecP bss i gs) (hf : 1000 < nL gs ∨ 20000 < nB gs) : StN bss oss := by
  rintro ts ⟨h0, -, h1, h2⟩
  obtain ⟨t, -, rfl⟩ := (h ts).1 h0
  rw [nL_app] at h1
  rw [nB_app] at h2
  omega

end Go.Proofs.YtbgjgaejfkdceaaGreat
