import Derived.Test.YtfjnhmgmcldidaaU2
namespace Go.Proofs.Ytfjnhmgmcldidaa
open Go.ChangeShapes Go.WideShapes Go.ChangeAt Go.RowKit

theorem Try.cells66 : Try.prog.cellsOf 66 = 1 := by kernel_rfl

section
variable {H : Type} {enc : TypeId × Value → H} {W : World}

theorem bytes_cap {n : Nat} {v : Value} {y : DataW H × List MemPlace} (h : DataW.trod enc Try.prog W 0 (fun _ => true) true n 66 [v] = some y) : ∃ xs, SlAt mB 0 0 W.heap.size W v xs ∧ CapOk v ∧ Bytes xs := by
  obtain ⟨xs, h1, h2⟩ := bytes_of h
  refine ⟨xs, h1, ?_, h2⟩
  rcases open_ints Try.underlying66 Try.underlying5 Try.cells5 h with ⟨hcs, -⟩ | ⟨a, len, cap, zs, hcs, -, hl, hm, -⟩
  · simp only [List.cons.injEq, and_true] at hcs
    subst hcs
    exact CapOk.mk (Nat.le_refl _) (Nat.zero_le _)
  · simp only [List.cons.injEq, and_true] at hcs
    subst hcs
    exact CapOk.mk hl hm

theorem bytess_of {n : Nat} {v : Value} {y : DataW H × List MemPlace} (h : DataW.trod enc Try.prog W 0 (fun _ => true) true n 22 [v] = some y) : ∃ xss, SsAt mB 0 W.heap.size W v xss ∧ ∀ x ∈ xss, Bytes x := by
  rcases Go.Deep.open_slice1 Try.underlying22 Try.cells66 h with ⟨hcs, -⟩ | ⟨a, len, cap, m, fu, V, D, Pl, hcs, -, hl, hm, hmm, -, hx⟩
  · simp only [List.cons.injEq, and_true] at hcs
    subst hcs
    exact ⟨[], ⟨none, 0, rfl, ⟨Nat.le_refl _, Nat.zero_le _⟩, by simp⟩, by simp⟩
  · simp only [List.cons.injEq, and_true] at hcs
    subst hcs
    simp only [if_true] at hmm
    subst hmm
    by_cases h0 : len = 0
    · subst h0
      exact ⟨[], ⟨some a, m, rfl, ⟨Nat.zero_le _, hm⟩, by simp⟩, by simp⟩
    · obtain ⟨b, off, spot⟩ := a
      have hspot : spot = none := by simpa [Addr.add] using World.cell?_spot (hx 0 (by omega)).1
      subst hspot
      obtain ⟨f, hf⟩ := Go.Deep.choose_lt (α := List Int) (p := fun i x => ∃ s, W.cell? ⟨b, off + i, none⟩ = some s ∧ SlAt mB 0 0 W.heap.size W s x ∧ CapOk s ∧ Bytes x) (n := len) (fun i hi => by
        obtain ⟨h1, h2⟩ := hx i (by omega)
        obtain ⟨x, e1, e2, e3⟩ := bytes_cap h2
        rw [add_plain] at h1
        exact ⟨x, _, h1, e1, e2, e3⟩)
      have hb : b < W.heap.size := by
        obtain ⟨s, h1, -⟩ := hf 0 (by omega)
        exact World.block_lt_of_cell? _ _ h1
      refine ⟨(List.range len).map f, ⟨_, m, by simp, ⟨by simpa using hl, hm⟩, fun _ => ⟨b, off, rfl, hb, fun i hi => ?_⟩⟩, fun x hx => ?_⟩
      · have hi' : i < len := by simpa using hi
        obtain ⟨s, h1, h2, h3, -⟩ := hf i hi'
        exact ⟨s, h1, by simpa [hi'] using h2, h3⟩
      · obtain ⟨k, hk, rfl⟩ := List.mem_map.1 hx
        obtain ⟨s, -, -, -, h4⟩ := hf k (List.mem_range.1 hk)
        exact h4

end
end Go.Proofs.Ytfjnhmgmcldidaa
