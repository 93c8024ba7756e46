import Derived.Test.YtmafkoppadminaaB0
import Derived.Deep.OwnRows
namespace Go.Proofs.Ytmafkoppadminaa
open Go.RowKit
theorem ElAt.below {lo n m b o : Nat} {w w' : World} {x : El} (h : ElAt lo n w b o x) (hb : Below m w w') (hm : n ≤ m) (hbm : b < m) : ElAt lo n w' b o x := by
  obtain ⟨i1, i2, i3, v, c0, c1, c2, c3, hi⟩ := h
  refine ⟨i1, i2, i3, v, ?_, ?_, ?_, ?_, hi.same (Same.of_below hb hm)⟩ <;> rw [hb.cell (by exact hbm)] <;> assumption
theorem ElAt.put {lo n b o b' o' : Nat} {w : World} {x : El} {u : Value} (h : ElAt lo n w b o x) (hne : b' ≠ b ∨ o' < o ∨ o + 3 < o') (hlo : b' < lo) : ElAt lo n (w.setCell ⟨b', o', none⟩ u) b o x := by
  obtain ⟨i1, i2, i3, v, c0, c1, c2, c3, hi⟩ := h
  have key : ∀ q, q ≤ 3 → (w.setCell ⟨b', o', none⟩ u).cell? ⟨b, o + q, none⟩ = w.cell? ⟨b, o + q, none⟩ := by
    intro q hq
    apply World.cell?_setCell_other
    intro e
    simp only [Addr.mk.injEq] at e
    omega
  refine ⟨i1, i2, i3, v, ?_, ?_, ?_, ?_, hi.same ((Same.refl lo n w).setCell (Or.inl hlo) u)⟩
  · exact (key 0 (by omega)).trans c0
  · exact (key 1 (by omega)).trans c1
  · exact (key 2 (by omega)).trans c2
  · exact (key 3 (by omega)).trans c3
end Go.Proofs.Ytmafkoppadminaa
