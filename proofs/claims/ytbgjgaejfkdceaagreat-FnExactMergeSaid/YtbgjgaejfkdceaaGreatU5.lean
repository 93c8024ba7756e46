import Derived.Test.YtbgjgaejfkdceaaGreatU3
import Derived.Test.YtbgjgaejfkdceaaGreatP9
import Derived.ChangeSame
import Derived.Lib.SmallJoins
namespace Go.Proofs.YtbgjgaejfkdceaaGreat
open Go.ChangeShapes Go.WideShapes Go.ChangeAt Go.RowKit

theorem Tryz.cellsSS : Tryz.prog.cellsOf 22 = 1 := by kernel_rfl
theorem Tryz.cellsSt : Tryz.prog.cellsOf 24 = 2 := by kernel_rfl

section
variable {H : Type} {enc : TypeId × Value → H} {W : World}

set_option maxRecDepth 100000 in
theorem state_of {r : Reach} {b0 : Nat} {v : Value} {d : DataW H} {p : List MemPlace} (hv : Value.okWide Tryz.prog W r b0 24 v) (h : DataW.Trod enc Tryz.prog W 0 (fun _ => true) true 24 v d p) :
    ∃ bss oss, StRd W v bss oss ∧ (∀ x ∈ bss, Bytes x) ∧ ∀ x ∈ oss, Bytes x := by
  obtain ⟨cs, rfl, hsz⟩ := okWide_struct Tryz.underlying24 hv
  rw [Tryz.cellsSt] at hsz
  obtain ⟨c0, c1, rfl⟩ := Go.Joins.array2 hsz
  obtain ⟨fuel, hf⟩ := h
  obtain ⟨y0, y1, m, -, -, h0, h1⟩ := Go.ChangeShapes.trod_struct2 Tryz.underlying24 hf
  simp only [Value.cells, Tryz.cellsSS, List.drop_zero, List.take_succ_cons, List.take_zero, List.drop_succ_cons] at h0 h1
  obtain ⟨bss, s1, b1⟩ := bytess_of h0
  obtain ⟨oss, s2, b2⟩ := bytess_of h1
  exact ⟨bss, oss, ⟨c0, c1, rfl, s1, s2⟩, b1, b2⟩

end
end Go.Proofs.YtbgjgaejfkdceaaGreat
