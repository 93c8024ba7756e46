import Derived.Test.YthgnefdefjannaaGreatP2
import Derived.Test.YthgnefdefjannaaGreatP1
import Derived.Test.YthgnefdefjannaaGreatP3
namespace Go.Proofs.YthgnefdefjannaaGreat
open Go.RowKit

/-- The values of a list of lines, and what they read as. -/
theorem SsAt.vals {N : Nat} {w : World} {v : Value} {xss : List (List Int)} (h : SsAt mB 0 N w v xss) : ∃ vs : List Value, vs.length = xss.length ∧ SlAt id undef 0 N w v vs ∧ CapOk v ∧ ∀ i : Nat, i < xss.length → SlAt mB 0 0 N w (vs[i]?.getD undef) (xss[i]?.getD []) ∧ CapOk (vs[i]?.getD undef) := by
  obtain ⟨a, cap, rfl, hl, hc⟩ := h
  by_cases hp : 0 < xss.length
  · obtain ⟨b, off, rfl, hb, hcell⟩ := hc hp
    have hch : ∀ i : Nat, ∃ s, i < xss.length → w.cell? ⟨b, off + i, none⟩ = some s ∧ SlAt mB 0 0 N w s (xss[i]?.getD []) ∧ CapOk s := fun i => by
      by_cases hi : i < xss.length
      · obtain ⟨s, hs⟩ := hcell i hi
        exact ⟨s, fun _ => hs⟩
      · exact ⟨undef, fun h => absurd h hi⟩
    refine ⟨(List.range xss.length).map (fun i => (hch i).choose), by simp, ⟨_, cap, by simp, by simp; omega, fun _ => ⟨b, off, rfl, Nat.zero_le _, hb, fun i hi => ?_⟩⟩, CapOk.mk hl.1 hl.2, fun i hi => ?_⟩
    · have hi' : i < xss.length := by simpa using hi
      rw [((hch i).choose_spec hi').1]
      simp [hi']
    · have e : ((List.range xss.length).map (fun i => (hch i).choose))[i]?.getD undef = (hch i).choose := by simp [hi]
      rw [e]
      exact ((hch i).choose_spec hi).2
  · refine ⟨[], by simp; omega, ⟨a, cap, by rw [show xss.length = 0 by omega]; rfl, Nat.zero_le _, fun h => absurd h (by simp)⟩, CapOk.mk hl.1 hl.2, fun i hi => by omega⟩
theorem SlAt.isOne {N : Nat} {w : World} {v : Value} {x : List Int} (h : SlAt mB 0 0 N w v x) : v.oneCell' = true := by
  obtain ⟨a, cap, rfl, -⟩ := h
  rfl
theorem vals_one {N : Nat} {w : World} {xss : List (List Int)} {vs : List Value} (hn : vs.length = xss.length) (h : ∀ i : Nat, i < xss.length → SlAt mB 0 0 N w (vs[i]?.getD undef) (xss[i]?.getD []) ∧ CapOk (vs[i]?.getD undef)) : ∀ u ∈ vs, u.oneCell' = true := by
  intro u hu
  obtain ⟨i, hi, rfl⟩ := List.getElem_of_mem hu
  have := (h i (by omega)).1
  rw [List.getElem?_eq_getElem hi] at this
  exact this.isOne

end Go.Proofs.YthgnefdefjannaaGreat
