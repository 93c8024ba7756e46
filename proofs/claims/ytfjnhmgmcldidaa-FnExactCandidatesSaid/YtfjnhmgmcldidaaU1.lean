import Derived.Test.YtfjnhmgmcldidaaU0
import Derived.Test.YtfjnhmgmcldidaaG1
import Derived.ShutString
import Derived.ChangeOld
namespace Go.Proofs.Ytfjnhmgmcldidaa
open Go.ChangeShapes Go.WideShapes Go.ChangeAt Go.RowKit

theorem Try.own : ownKnob Try.prog.godebug = none := by kernel_rfl
theorem Try.laidOut : laidOutB Try.prog = true := by kernel_rfl
theorem Try.cells5 : Try.prog.cellsOf 5 = 1 := by kernel_rfl
theorem IntsAt.sl {lo n : Nat} {w : World} {v : Value} {xs : List Int} (h : IntsAt lo n w v xs) : SlAt mI 0 lo n w v xs ∧ ∀ i : Nat, In64 (xs[i]?.getD 0) := by
  obtain ⟨a, cap, rfl, hl, hr, hc⟩ := h
  exact ⟨⟨a, cap, rfl, hl, hc⟩, hr⟩

section
variable {H : Type} {enc : TypeId × Value → H} {W : World}

theorem bytes_of {n : Nat} {v : Value} {y : DataW H × List MemPlace} (h : DataW.trod enc Try.prog W 0 (fun _ => true) true n 66 [v] = some y) : ∃ bs, SlAt mB 0 0 W.heap.size W v bs ∧ Bytes bs := by
  rcases open_ints Try.underlying66 Try.underlying5 Try.cells5 h with ⟨hcs, -⟩ | ⟨a, len, cap, zs, hcs, -, hl, hm, hz, -, hcell, hwz⟩
  · simp only [List.cons.injEq, and_true] at hcs
    subst hcs
    exact ⟨[], ⟨none, 0, rfl, by simp, by simp⟩, by intro i; simp⟩
  · simp only [List.cons.injEq, and_true] at hcs
    subst hcs
    simp only [if_true] at hz
    have hlen : (zs.take len).length = len := by rw [List.length_take]; omega
    refine ⟨zs.take len, ⟨some a, cap, by rw [hlen], by omega, fun hp => ?_⟩, fun i => ?_⟩
    · obtain ⟨b, off, rfl, hc⟩ := ints_at hcell (by omega)
      refine ⟨b, off, rfl, Nat.zero_le _, World.block_lt_of_cell? _ _ (hc 0 (by omega)), fun i hi => ?_⟩
      rw [hlen] at hi
      rw [hc i (by omega), List.getElem?_take_of_lt hi]
      rfl
    · by_cases hi : i < (zs.take len).length
      · rw [List.getElem?_eq_getElem hi]
        have := hwz _ (List.mem_of_mem_take (List.getElem_mem hi))
        simpa [Lit.wf, IntKind.min, IntKind.max, IntKind.signed, IntKind.bits] using this
      · rw [List.getElem?_eq_none (by omega)]
        simp

end
end Go.Proofs.Ytfjnhmgmcldidaa
