import Derived.Test.YtfjnhmgmcldidaaX0
namespace Go.Proofs.Ytfjnhmgmcldidaa
open Go.RowKit

/-- Outside one block nothing has changed. -/
structure Obk (g : Nat) (w w' : World) : Prop where
  os : w'.os = w.os
  tape : w'.tape = w.tape
  output : w'.output = w.output
  size : w'.heap.size = w.heap.size
  block : ∀ k, k ≠ g → w'.heap[k]? = w.heap[k]?
theorem Obk.trans {g : Nat} {a b c : World} (h : Obk g a b) (k : Obk g b c) : Obk g a c := ⟨k.os.trans h.os, k.tape.trans h.tape, k.output.trans h.output, k.size.trans h.size, fun i hi => (k.block i hi).trans (h.block i hi)⟩
theorem Obk.refl (g : Nat) (w : World) : Obk g w w := ⟨rfl, rfl, rfl, rfl, fun _ _ => rfl⟩
theorem obk_put {w : World} {b : Nat} (o : Nat) (u : Value) : Obk b w (w.setCell ⟨b, o, none⟩ u) := ⟨rfl, rfl, rfl, by simp [World.setCell], fun k hk => Below.heap_setCell _ _ _ _ (by show k ≠ b; exact hk)⟩
theorem Obk.drew {g : Nat} {a b : World} (h : Obk g a b) : Obk g a b.drew := ⟨h.os, h.tape, h.output, h.size, h.block⟩

/-- Outside the blocks of O nothing has changed. -/
structure FrO (O : Nat → Prop) (w w' : World) : Prop where
  os : w'.os = w.os
  tape : w'.tape = w.tape
  output : w'.output = w.output
  size : w.heap.size ≤ w'.heap.size
  block : ∀ k, ¬ O k → w'.heap[k]? = w.heap[k]?
theorem FrO.refl (O : Nat → Prop) (w : World) : FrO O w w := ⟨rfl, rfl, rfl, Nat.le_refl _, fun _ _ => rfl⟩
theorem FrO.trans {O : Nat → Prop} {a b c : World} (h : FrO O a b) (k : FrO O b c) : FrO O a c := ⟨k.os.trans h.os, k.tape.trans h.tape, k.output.trans h.output, Nat.le_trans h.size k.size, fun i hi => (k.block i hi).trans (h.block i hi)⟩
theorem FrO.mono {O O' : Nat → Prop} {a b : World} (h : FrO O a b) (hO : ∀ k, O k → O' k) : FrO O' a b := ⟨h.os, h.tape, h.output, h.size, fun k hk => h.block k (fun e => hk (hO k e))⟩
theorem FrO.drew {O : Nat → Prop} {a b : World} (h : FrO O a b) : FrO O a b.drew := ⟨h.os, h.tape, h.output, h.size, h.block⟩
theorem fro_of {O : Nat → Prop} {a b : World} (h : Below a.heap.size a b) (hO : ∀ k, a.heap.size ≤ k → O k) : FrO O a b := ⟨h.os, h.tape, h.output, h.size, fun k hk => h.block k (by apply Nat.lt_of_not_le; intro e; exact hk (hO k e))⟩
theorem Obk.fro {O : Nat → Prop} {g : Nat} {a b : World} (h : Obk g a b) (hO : O g) : FrO O a b := ⟨h.os, h.tape, h.output, by rw [h.size]; exact Nat.le_refl _, fun k hk => h.block k (fun e => hk (e ▸ hO))⟩
theorem FrO.below {O : Nat → Prop} {a b : World} {m : Nat} (h : FrO O a b) (hO : ∀ k, k < m → ¬ O k) : Below m a b := ⟨h.os, h.tape, h.output, h.size, fun k hk => h.block k (hO k hk)⟩

/-- A row that is owned, as a row of cells, and back. -/
theorem own_row {base e sz n : Nat} {w : World} {v : Value} {xs : List Value} (h : w.ownsRow base e sz v n xs) (hp : 0 < n) : ∃ g cap m F, v = .slice (some ⟨g, 0, none⟩) n cap ∧ g < w.heap.size ∧ w.rowIs g e m F ∧ n * sz ≤ m ∧ (∀ k, k < n * sz → xs[k]? = some (F k)) ∧
    ∀ (w' : World) (F' : Nat → Value) (ys : List Value), w'.rowIs g e m F' → ys.length = n * sz → (∀ k, k < n * sz → ys[k]? = some (F' k)) → w'.ownsRow base e sz v n ys := by
  obtain ⟨hl, h⟩ := h
  rcases h with ⟨-, h⟩ | ⟨g, cap, cur, rfl, hb, hg, hnc, hcm, hcs, ht⟩
  · omega
  · have hm : n * sz ≤ cap * sz := Nat.mul_le_mul_right _ hnc
    refine ⟨g, cap, cur.size, fun k => cur[k]?.getD undef, rfl, ?_, ⟨cur, hg, rfl, fun i hi => by simp [Array.getElem?_eq_getElem hi]⟩, by omega, fun k hk => ?_, fun w' F' ys hr hy hF => ?_⟩
    · rcases Nat.lt_or_ge g w.heap.size with h | h
      · exact h
      · rw [Array.getElem?_eq_none h] at hg; cases hg
    · rw [← ht, List.getElem?_take_of_lt hk, Array.getElem?_toList, Array.getElem?_eq_getElem (show k < cur.size by omega)]; simp [Array.getElem?_eq_getElem (show k < cur.size by omega)]
    · obtain ⟨c, h1, h2, h3⟩ := hr
      refine ⟨hy, Or.inr ⟨g, cap, c, rfl, hb, h1, hnc, hcm, by omega, ?_⟩⟩
      refine List.ext_getElem? (fun k => ?_)
      by_cases hk : k < n * sz
      · rw [List.getElem?_take_of_lt hk, Array.getElem?_toList, h3 k (by omega), hF k hk]
      · rw [List.getElem?_eq_none (by rw [List.length_take]; omega), List.getElem?_eq_none (by omega)]
theorem own_blk {base e sz n : Nat} {w w' : World} {v : Value} {xs : List Value} (h : w.ownsRow base e sz v n xs) (hs : ∀ q, v.ownBlock = some q → w'.heap[q]? = w.heap[q]?) : w'.ownsRow base e sz v n xs := by
  refine ⟨h.1, ?_⟩
  rcases h.2 with hn | ⟨g, cap, cur, rfl, hb, hg, rest⟩
  · exact .inl hn
  · exact .inr ⟨g, cap, cur, rfl, hb, (hs g rfl).trans hg, rest⟩
theorem own_lt {base e sz n : Nat} {w : World} {v : Value} {xs : List Value} (h : w.ownsRow base e sz v n xs) : ∀ q, v.ownBlock = some q → q < w.heap.size := fun q hq => (h.lt q hq).2

/-- The blocks of O but those from a on and below b. -/
def Sk (O : Nat → Prop) (a b : Nat) : Nat → Prop := fun k => O k ∧ (k < a ∨ b ≤ k)
theorem Sk.sub {O : Nat → Prop} {a b : Nat} : ∀ k, Sk O a b k → O k := fun _ h => h.1
theorem Sk.top {O : Nat → Prop} {a b m : Nat} (hO : ∀ k, a ≤ k → O k) (h : a ≤ m) (h2 : b ≤ m) : ∀ k, m ≤ k → Sk O a b k := fun k hk => ⟨hO k (by omega), Or.inr (by omega)⟩

end Go.Proofs.Ytfjnhmgmcldidaa
