import Derived.Test.YtmhafibngbojcaaDoorX6
namespace Go.Proofs.YtmhafibngbojcaaDoor
open Go.RowKit

/-- The first j parts of a counted repetition. -/
def tk (X : List El) (m j : Nat) : List (List El) := List.replicate (min j m) X ++ List.replicate (j - m) (optE X)
theorem tk_lt {X : List El} {m j : Nat} (h : j < m) : tk X m (j + 1) = tk X m j ++ [X] := by
  unfold tk
  rw [show min (j + 1) m = j + 1 by omega, show j + 1 - m = 0 by omega, show min j m = j by omega, show j - m = 0 by omega, List.replicate_succ']
  simp
theorem tk_ge {X : List El} {m j : Nat} (h : m ≤ j) : tk X m (j + 1) = tk X m j ++ [optE X] := by
  unfold tk
  rw [show min (j + 1) m = m by omega, show j + 1 - m = (j - m) + 1 by omega, show min j m = m by omega, List.replicate_succ', List.append_assoc]
theorem tk_all {X : List El} {m M : Nat} (h : m ≤ M) : tk X m M = partsX X m M := by
  unfold tk partsX
  rw [if_neg (by omega), show min M m = m by omega, show ((m : Int)).toNat = m by omega, show ((M : Int) - (m : Int)).toNat = M - m by omega]
theorem tk_mem {X : List El} {m j : Nat} {p : List El} (h : p ∈ tk X m j) : p = X ∨ p = optE X := by
  unfold tk at h
  rcases List.mem_append.1 h with h | h
  · exact Or.inl (List.mem_replicate.1 h).2
  · exact Or.inr (List.mem_replicate.1 h).2
theorem tk_len (X : List El) (m j : Nat) : (tk X m j).length = j := by unfold tk; simp; omega
theorem optE_nice {X : List El} (h : Nice X) : Nice (optE X) := (h.app (Nice.op 0 0 0 (by simp [In64]) (by simp [In64]) (by simp [In64]))).app (Nice.op 3 0 0 (by simp [In64]) (by simp [In64]) (by simp [In64]))

end Go.Proofs.YtmhafibngbojcaaDoor
