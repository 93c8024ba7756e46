import Derived.Test.YtjefklagedidmaaGreatN7
namespace Go.Proofs.YtjefklagedidmaaGreat
open Go.RowKit

theorem Boxed.below' {w w' : World} {B m : Nat} {t : TypeId} {v : Value} (h : Boxed w B t v) (hb : Below m w w') (hm : B < m) : Boxed w' B t v := (hb.block B hm).trans h

/-- The limits of a query that is made normal. -/
structure Lim (xss : List (List Int)) : Prop where
  len : xss.length ≤ 1000
  each : ∀ k : Nat, k < xss.length → (xss[k]?.getD []).length ≤ 1000 ∧ ∀ j : Nat, j < (xss[k]?.getD []).length → 0 ≤ (xss[k]?.getD [])[j]?.getD 0 ∧ (xss[k]?.getD [])[j]?.getD 0 ≤ 16777215
def NormR (xss rs : List (List Int)) : Prop := (Lim xss ∧ NormV xss rs) ∨ (¬ Lim xss ∧ rs = [])
theorem NormR.uniq {xss rs rs' : List (List Int)} (h : NormR xss rs) (k : NormR xss rs') : rs = rs' := by
  rcases h with ⟨h1, h2⟩ | ⟨h1, h2⟩ <;> rcases k with ⟨k1, k2⟩ | ⟨k1, k2⟩
  · exact h2.uniq k2
  · exact absurd h1 k1
  · exact absurd k1 h1
  · rw [h2, k2]

theorem ssAt_nil {N : Nat} {w : World} : SsAt mI 0 N w (.slice none 0 0) [] := ⟨none, 0, rfl, ⟨Nat.le_refl _, Nat.zero_le _⟩, fun h => absurd h (by simp)⟩

end Go.Proofs.YtjefklagedidmaaGreat
