import Derived.Test.YtjefklagedidmaaGreatQ2
import Derived.Deep.RegionHeld3
import Derived.Deep.RegionWith
namespace Go.Proofs.YtjefklagedidmaaGreat
open Go.RowKit Go.Shelf

theorem RetB.is_true {e : Ending} {P : Prop} (h : RetB e P) (hp : P) : e = .returned (.bool true) := by
  rcases h.cases with ⟨h1, -⟩ | ⟨-, h2⟩
  · exact h1
  · exact absurd hp h2
theorem RetB.is_false {e : Ending} {P : Prop} (h : RetB e P) (hp : ¬ P) : e = .returned (.bool false) := by
  rcases h.cases with ⟨-, h2⟩ | ⟨h1, -⟩
  · exact absurd h2 hp
  · exact h1

theorem clone_any (v : Value) (xs : List Int) (w : World) (hv : SlAt mI 0 0 w.heap.size w v xs) (hl : xs.length ≤ 1048576) :
    Calls Tryz.prog 40 #[v] w fun e w' => ∃ v', e = .returned v' ∧ w'.ownsRow w.heap.size 3 1 v' xs.length (xs.map mI) ∧ Below w.heap.size w w' := by
  obtain ⟨a, cap, rfl, -, hc⟩ := hv
  by_cases hp : 0 < xs.length
  · obtain ⟨b, off, rfl, -, -, hcell⟩ := hc hp
    refine (Any.slices_Clone_int Tryz.laysClone b off xs.length cap xs w (Nat.le_refl _) (by omega) (fun j hj => ?_)).mono ?_
    · rw [hcell j hj, List.getD_eq_getElem?_getD]
      rfl
    · rintro e w' ⟨v', rfl, h1, -, h2⟩
      rw [List.take_length] at h1
      exact ⟨v', rfl, h1, h2⟩
  · have e : xs = [] := List.eq_nil_of_length_eq_zero (by omega)
    subst e
    cases a with
    | none =>
      refine (Any.slices_Clone_int_nil Tryz.laysClone 0 cap w).mono ?_
      rintro e w' ⟨rfl, rfl⟩
      exact ⟨_, rfl, World.ownsRow_nil _ _ _ _, Below.refl _ _⟩
    | some ad =>
      refine (Any.slices_Clone_int_zero Tryz.laysClone ad cap w).mono ?_
      rintro e w' ⟨v', rfl, h1, -, h2⟩
      exact ⟨v', rfl, h1, h2⟩

theorem evalP_halves (xss : List (List Int)) (ts : List Int) (k : Nat) : EvalP xss ts ↔ EvalP (xss.take k) ts ∨ EvalP (xss.drop k) ts := by
  unfold EvalP
  constructor
  · rintro ⟨i, hi, h⟩
    by_cases hk : i < k
    · exact Or.inl ⟨i, by simp; omega, by rw [List.getElem?_take, if_pos hk]; exact h⟩
    · exact Or.inr ⟨i - k, by simp; omega, by rw [List.getElem?_drop, show k + (i - k) = i by omega]; exact h⟩
  · rintro (⟨i, hi, h⟩ | ⟨i, hi, h⟩)
    · simp at hi
      rw [List.getElem?_take, if_pos (by omega)] at h
      exact ⟨i, by omega, h⟩
    · simp at hi
      rw [List.getElem?_drop] at h
      exact ⟨k + i, by omega, h⟩

end Go.Proofs.YtjefklagedidmaaGreat
