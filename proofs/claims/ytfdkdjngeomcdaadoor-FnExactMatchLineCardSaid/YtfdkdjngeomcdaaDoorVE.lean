import Derived.Test.YtfdkdjngeomcdaaDoorP18
import Derived.Test.YtfdkdjngeomcdaaDoorV5
import Derived.Test.YtfdkdjngeomcdaaDoorA5
import Derived.Test.YtfdkdjngeomcdaaDoorP12
namespace Go.Proofs.YtfdkdjngeomcdaaDoor
open Go.RowKit

theorem num_of {n : Nat} {w : World} {v : Value} {xs : List El} (h : ElsAt 0 n w v xs) : Num xs := by
  obtain ⟨a, cap, -, -, hc⟩ := h
  intro i
  by_cases hi : i < xs.length
  · obtain ⟨b, off, -, -, -, hel⟩ := hc (by omega)
    obtain ⟨i1, i2, i3, s, -, -, -, -, a', c', -, -, hr, -⟩ := hel i hi
    exact ⟨i1, i2, i3, hr⟩
  · rw [List.getElem?_eq_none (by omega)]
    simp [dE, In64]
theorem set_le {xs : List El} {m : Nat} (h : bulk xs ≤ m) : ∀ i : Nat, (xs[i]?.getD dE).set.length ≤ m := by
  intro i
  by_cases hi : i < xs.length
  · have h1 := bulk_take_succ xs i hi
    have hb : ∀ (l : List El) (j : Nat), bulk (l.take j) ≤ bulk l := by
      intro l
      induction l with
      | nil => intro j; simp [bulk]
      | cons x r ih => intro j; cases j with
        | zero => simp [bulk]
        | succ j => have := ih j; simp only [List.take_succ_cons, bulk]; omega
    have h2 := hb xs (i + 1)
    omega
  · rw [List.getElem?_eq_none (by omega)]
    simp [dE]

theorem ElsF.keep {S : Nat → Prop} {m : Nat} {w w' : World} {v : Value} {xs : List El} (h : ElsF S w v xs) (hb : Below m w w') (hs : ∀ k, S k → k < m) : ElsF S w' v xs := h.same (fun k hk => hb.block k (hs k hk))

end Go.Proofs.YtfdkdjngeomcdaaDoor
