import Derived.Test.YtfjnhmgmcldidaaU1
import Derived.Test.YtfjnhmgmcldidaaS9
namespace Go.Proofs.Ytfjnhmgmcldidaa
open Go.ChangeShapes Go.WideShapes Go.ChangeAt Go.RowKit

set_option maxRecDepth 100000 in
theorem Try.cells24 : Try.prog.cellsOf 24 = 1 := by kernel_rfl

section
variable {H : Type} {enc : TypeId × Value → H} {W : World}

set_option maxRecDepth 100000 in
theorem ints_cap {n : Nat} {v : Value} {y : DataW H × List MemPlace} (h : DataW.trod enc Try.prog W 0 (fun _ => true) true n 23 [v] = some y) : ∃ xs, SlAt mI 0 0 W.heap.size W v xs ∧ CapOk v ∧ ∀ i : Nat, In64 (xs[i]?.getD 0) := by
  obtain ⟨xs, hxs⟩ := ints_of h
  refine ⟨xs, hxs.sl.1, ?_, hxs.sl.2⟩
  rcases open_ints Try.underlying23 Try.underlying3 Try.cells3 h with ⟨hcs, -⟩ | ⟨a, len, cap, zs, hcs, -, hl, hm, -⟩
  · simp only [List.cons.injEq, and_true] at hcs
    subst hcs
    exact CapOk.mk (Nat.le_refl _) (Nat.zero_le _)
  · simp only [List.cons.injEq, and_true] at hcs
    subst hcs
    exact CapOk.mk hl hm

set_option maxRecDepth 100000 in
theorem intss_of {n : Nat} {v : Value} {y : DataW H × List MemPlace} (h : DataW.trod enc Try.prog W 0 (fun _ => true) true n 24 [v] = some y) : ∃ xss, SsAt mI 0 W.heap.size W v xss ∧ ∀ k i : Nat, In64 ((xss[k]?.getD [])[i]?.getD 0) := by
  rcases Go.Deep.open_slice1 Try.underlying24 Try.cells23 h with ⟨hcs, -⟩ | ⟨a, len, cap, m, fu, V, D, Pl, hcs, -, hl, hm, hmm, -, hx⟩
  · simp only [List.cons.injEq, and_true] at hcs
    subst hcs
    exact ⟨[], ⟨none, 0, rfl, ⟨Nat.le_refl _, Nat.zero_le _⟩, by simp⟩, by intro k i; simp [In64]⟩
  · simp only [List.cons.injEq, and_true] at hcs
    subst hcs
    simp only [if_true] at hmm
    subst hmm
    by_cases h0 : len = 0
    · subst h0
      exact ⟨[], ⟨some a, m, rfl, ⟨Nat.zero_le _, hm⟩, by simp⟩, by intro k i; simp [In64]⟩
    · obtain ⟨b, off, spot⟩ := a
      have hspot : spot = none := by simpa [Addr.add] using World.cell?_spot (hx 0 (by omega)).1
      subst hspot
      obtain ⟨f, hf⟩ := Go.Deep.choose_lt (α := List Int) (p := fun i x => ∃ s, W.cell? ⟨b, off + i, none⟩ = some s ∧ SlAt mI 0 0 W.heap.size W s x ∧ CapOk s ∧ ∀ i : Nat, In64 (x[i]?.getD 0)) (n := len) (fun i hi => by
        obtain ⟨h1, h2⟩ := hx i (by omega)
        obtain ⟨x, e1, e2, e3⟩ := ints_cap h2
        rw [add_plain] at h1
        exact ⟨x, _, h1, e1, e2, e3⟩)
      have hb : b < W.heap.size := by
        obtain ⟨s, h1, -⟩ := hf 0 (by omega)
        exact World.block_lt_of_cell? _ _ h1
      refine ⟨(List.range len).map f, ⟨_, m, by simp, ⟨by simpa using hl, hm⟩, fun _ => ⟨b, off, rfl, hb, fun i hi => ?_⟩⟩, fun k i => ?_⟩
      · have hi' : i < len := by simpa using hi
        obtain ⟨s, h1, h2, h3, -⟩ := hf i hi'
        exact ⟨s, h1, by simpa [hi'] using h2, h3⟩
      · by_cases hk : k < len
        · obtain ⟨s, -, -, -, h4⟩ := hf k hk
          simpa [hk] using h4 i
        · have e : ((List.range len).map f)[k]? = none := List.getElem?_eq_none (by simp; omega)
          rw [e]
          simp [In64]

set_option maxRecDepth 100000 in
theorem query_of {r : Reach} {b0 : Nat} {v : Value} {d : DataW H} {p : List MemPlace} (hv : Value.okWide Try.prog W r b0 28 v) (h : DataW.Trod enc Try.prog W 0 (fun _ => true) true 28 v d p) :
    ∃ u xss, v = .agg #[u] ∧ SsAt mI 0 W.heap.size W u xss ∧ ∀ k i : Nat, In64 ((xss[k]?.getD [])[i]?.getD 0) := by
  obtain ⟨cs, rfl, hsz⟩ := okWide_struct Try.underlying28 hv
  have hC : Try.prog.cellsOf 28 = 1 := by kernel_rfl
  rw [hC] at hsz
  obtain ⟨c0, rfl⟩ : ∃ c, cs = #[c] := by
    match cs, hsz with
    | ⟨[c]⟩, _ => exact ⟨c, rfl⟩
  obtain ⟨fuel, hf⟩ := h
  obtain ⟨y0, n, hx, -, h0⟩ := trod_struct1 Try.underlying28 hf
  obtain ⟨xss, h1, h2⟩ := intss_of (n := n) (v := c0) (y := y0) (by simpa [Value.cells, Try.cells24] using h0)
  exact ⟨c0, xss, rfl, h1, h2⟩

end
end Go.Proofs.Ytfjnhmgmcldidaa
