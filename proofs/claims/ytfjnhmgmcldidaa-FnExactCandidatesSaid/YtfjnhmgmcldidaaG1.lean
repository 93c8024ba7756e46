import Derived.Test.YtfjnhmgmcldidaaB0
import Derived.Lib.SmallJoins
import Derived.Deep.Slices
import Derived.OpenShut
namespace Go.Proofs.Ytfjnhmgmcldidaa
open Go.ChangeShapes Go.WideShapes Go.ChangeAt Go.RowKit

theorem Try.cells3 : Try.prog.cellsOf 3 = 1 := by kernel_rfl
theorem Try.cells23 : Try.prog.cellsOf 23 = 1 := by kernel_rfl

theorem in64_of_wf {n : Int} (h : (Lit.int .i64 n).wf = true) : In64 n := by
  simpa [Lit.wf, IntKind.min, IntKind.max, IntKind.signed, IntKind.bits, In64] using h

section
variable {H : Type} {enc : TypeId × Value → H} {W : World}

theorem ints_of {n : Nat} {v : Value} {y : DataW H × List MemPlace} (h : DataW.trod enc Try.prog W 0 (fun _ => true) true n 23 [v] = some y) : ∃ xs, IntsAt 0 W.heap.size W v xs := by
  rcases open_ints Try.underlying23 Try.underlying3 Try.cells3 h with ⟨hcs, -⟩ | ⟨a, len, cap, zs, hcs, -, hl, hm, hz, -, hcell, hwz⟩
  · simp only [List.cons.injEq, and_true] at hcs
    subst hcs
    exact ⟨[], none, 0, rfl, by simp, by intro i; simp [In64], by simp⟩
  · simp only [List.cons.injEq, and_true] at hcs
    subst hcs
    simp only [if_true] at hz
    have hlen : (zs.take len).length = len := by rw [List.length_take]; omega
    refine ⟨zs.take len, some a, cap, by rw [hlen], by omega, fun i => ?_, fun hp => ?_⟩
    · by_cases hi : i < (zs.take len).length
      · rw [List.getElem?_eq_getElem hi]
        exact in64_of_wf (hwz _ (List.mem_of_mem_take (List.getElem_mem hi)))
      · rw [List.getElem?_eq_none (by omega)]
        simp [In64]
    · obtain ⟨b, off, rfl, hc⟩ := ints_at hcell (by omega)
      refine ⟨b, off, rfl, Nat.zero_le _, World.block_lt_of_cell? _ _ (hc 0 (by omega)), fun i hi => ?_⟩
      rw [hlen] at hi
      rw [hc i (by omega), List.getElem?_take_of_lt hi]
      rfl

end
end Go.Proofs.Ytfjnhmgmcldidaa
