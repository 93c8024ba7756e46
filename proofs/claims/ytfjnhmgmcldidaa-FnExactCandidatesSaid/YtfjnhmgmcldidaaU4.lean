import Derived.Test.YtfjnhmgmcldidaaU3
import Derived.Test.YtfjnhmgmcldidaaSgm
namespace Go.Proofs.Ytfjnhmgmcldidaa
open Go.ChangeShapes Go.WideShapes Go.ChangeAt Go.RowKit

theorem Try.cells22 : Try.prog.cellsOf 22 = 1 := by kernel_rfl
theorem Try.cells26 : Try.prog.cellsOf 26 = 4 := by kernel_rfl

section
variable {H : Type} {enc : TypeId × Value → H} {W : World}

set_option maxRecDepth 100000 in
theorem segment_of {r : Reach} {b0 : Nat} {v : Value} {d : DataW H} {p : List MemPlace} (hv : Value.okWide Try.prog W r b0 26 v) (h : DataW.Trod enc Try.prog W 0 (fun _ => true) true 26 v d p) :
    ∃ base xss ks pss, SegRd W v base xss ks pss ∧ In64 base ∧ (∀ x ∈ xss, Bytes x) ∧ (∀ i : Nat, In64 (ks[i]?.getD 0)) ∧ ∀ k i : Nat, In64 ((pss[k]?.getD [])[i]?.getD 0) := by
  obtain ⟨cs, rfl, hsz⟩ := okWide_struct Try.underlying26 hv
  rw [Try.cells26] at hsz
  obtain ⟨c0, c1, c2, c3, rfl⟩ := Go.Joins.array4 hsz
  obtain ⟨fuel, hf⟩ := h
  obtain ⟨y0, y1, y2, y3, m, -, -, h0, h1, h2, h3⟩ := Go.Joins.trod_struct4 Try.underlying26 hf
  simp only [Value.cells, Try.cells3, Try.cells23, Try.cells24, Try.cells22, List.drop_zero, List.take_succ_cons, List.take_zero, List.drop_succ_cons] at h0 h1 h2 h3
  obtain ⟨base, e0, -, wb⟩ := DataW.trod_int Try.underlying3 h0
  simp only [List.cons.injEq, and_true] at e0
  subst e0
  obtain ⟨xss, s1, b1⟩ := bytess_of h1
  obtain ⟨ks, s2, -, b2⟩ := ints_cap h2
  obtain ⟨pss, s3, b3⟩ := intss_of h3
  exact ⟨base, xss, ks, pss, ⟨c1, c2, c3, rfl, s1, s2, s3⟩, in64_of_wf wb, b1, b2, b3⟩

end
end Go.Proofs.Ytfjnhmgmcldidaa
