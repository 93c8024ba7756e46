import Derived.Test.YtfjnhmgmcldidaaS3
namespace Go.Proofs.Ytfjnhmgmcldidaa
open Go.RowKit

theorem SameB.refl (lo n : Nat) (w : World) : SameB lo n w w := fun _ _ _ => rfl
theorem SameB.trans {lo n : Nat} {a b c : World} (h : SameB lo n a b) (k : SameB lo n b c) : SameB lo n a c := fun i h1 h2 => (k i h1 h2).trans (h i h1 h2)
def Bytes (bs : List Int) : Prop := ∀ i : Nat, 0 ≤ bs[i]?.getD 0 ∧ bs[i]?.getD 0 ≤ 255
theorem SlW.keep {α : Type} {mk : α → Value} {d : α} {lo n m : Nat} {w w' : World} {v : Value} {xs : List α} (h : SlW mk d lo n w v xs) (hb : Below m w w') (hn : n ≤ m) : SlW mk d lo n w' v xs := h.same (SameB.of_below hb hn)
theorem SlW.all {α : Type} {mk : α → Value} {d : α} {lo n : Nat} {w : World} {v : Value} {xs : List α} (h : SlW mk d lo n w v xs) (hn : n ≤ w.heap.size) : SlAt mk d 0 w.heap.size w v xs := h.at.mono (Nat.zero_le _) hn
theorem SlW.val {α : Type} {mk : α → Value} {d : α} {lo n : Nat} {w : World} {v : Value} {xs : List α} (h : SlW mk d lo n w v xs) : ∃ a cap, v = .slice a xs.length cap := by
  obtain ⟨a, cap, rfl, -, -⟩ := h
  exact ⟨a, cap, rfl⟩
theorem drewB {m : Nat} {w : World} (q : Nat) : Below m w (w.drewN q) := below_drewN (Below.refl _ _) q
theorem SameB.mono {lo n lo' n' : Nat} {a b : World} (h : SameB lo n a b) (h1 : lo ≤ lo') (h2 : n' ≤ n) : SameB lo' n' a b := fun k k1 k2 => h k (by omega) (by omega)
theorem SlAt.cut {α : Type} {mk : α → Value} {d : α} {m : Nat} {w w' : World} {v : Value} {xs : List α} (h : SlAt mk d 0 w.heap.size w v xs) (hb : Below m w w') (hm : w.heap.size ≤ m) : SlAt mk d 0 w'.heap.size w' v xs := h.below hb hm
theorem SlAt.drewN {α : Type} {mk : α → Value} {d : α} {lo n : Nat} {w : World} {v : Value} {xs : List α} (h : SlAt mk d lo n w v xs) (q : Nat) : SlAt mk d lo n (w.drewN q) v xs := h

end Go.Proofs.Ytfjnhmgmcldidaa
