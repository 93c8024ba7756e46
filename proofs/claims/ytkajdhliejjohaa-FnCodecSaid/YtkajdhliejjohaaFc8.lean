import Derived.Test.YtkajdhliejjohaaFc7
import Derived.Test.YtkajdhliejjohaaDe5
namespace Go.Proofs.Ytkajdhliejjohaa
open Go.RowKit

/-- No line ends inside. -/
def NoNl (xs : List Int) : Prop := ∀ x ∈ xs, x ≠ 10
theorem NoNl.app {xs ys : List Int} (h : NoNl xs) (k : NoNl ys) : NoNl (xs ++ ys) := fun x hx => by
  rcases List.mem_append.1 hx with q | q
  · exact h x q
  · exact k x q
theorem wdL_nl (c : Int) : NoNl (wdL c) := by
  unfold wdL NoNl
  repeat' split
  all_goals decide
theorem lnA_nl : ∀ (m i : Nat) (c : Int) (xs : List Int), NoNl (lnA m i c xs).1
  | 0, _, _, xs => fun x hx => absurd hx List.not_mem_nil
  | m + 1, i, c, xs => by
    unfold lnA
    split
    · intro x hx
      rcases List.mem_cons.1 hx with rfl | hx
      · omega
      · exact lnA_nl m _ _ _ x hx
    · intro x hx
      rcases List.mem_cons.1 hx with rfl | hx
      · omega
      · exact lnA_nl m _ _ _ x hx
theorem lnB_nl : ∀ (m : Nat) (xs : List Int), NoNl (lnB m xs).1
  | 0, xs => fun x hx => absurd hx List.not_mem_nil
  | m + 1, xs => by
    unfold lnB
    intro x hx
    rcases List.mem_cons.1 hx with rfl | hx
    · unfold fxB
      split <;> omega
    · exact lnB_nl m _ x hx
theorem dLn_nl (xs : List Int) : NoNl (dLn xs).1 := by
  unfold dLn
  split
  · exact lnA_nl _ _ _ _
  · split
    · exact lnB_nl _ _
    · split
      · refine ((wdL_nl _).app ?_).app (wdL_nl _)
        split
        · intro x hx; simp at hx; omega
        · intro x hx; cases hx
      · split
        · refine (wdL_nl _).app ?_
          intro x hx; simp at hx; omega
        · exact wdL_nl _
theorem dLs_nl : ∀ (n : Nat) (xs : List Int), ∀ l ∈ (dLs n xs).1, NoNl l
  | 0, xs => fun x hx => absurd hx List.not_mem_nil
  | n + 1, xs => by
    unfold dLs
    intro l hl
    rcases List.mem_cons.1 hl with rfl | hl
    · exact dLn_nl xs
    · exact dLs_nl n _ l hl
theorem plain_of {xss : List (List Int)} (h : ∀ l ∈ xss, NoNl l) : Plain xss := by
  intro i hi j hj
  rw [List.getElem?_eq_getElem hi] at hj ⊢
  have hj' : j < xss[i].length := hj
  show (xss[i])[j]?.getD 0 ≠ 10
  rw [List.getElem?_eq_getElem hj']
  exact h _ (List.getElem_mem hi) _ (List.getElem_mem hj')
theorem dSg_fits (xs : List Int) (h : Cod xs) : Fits (dSg xs).2.1 (dSg xs).1 := by
  have h1 := dSg_ok xs h
  have h2 := dLs_ok (1 + xs.headD 0 % 12).toNat xs.tail h.tail
  refine ⟨h1.2.2.2.1.1, ?_, by omega, plain_of (dLs_nl _ _), by omega⟩
  show 1 ≤ (dLs (1 + xs.headD 0 % 12).toNat xs.tail).1.length
  omega
theorem dSg_enc (xs : List Int) (h : Cod xs) {ks : List Int} {pss : List (List Int)} (hs : SegR (dSg xs).2.1 (dSg xs).1 ks pss) : EncIn (dSg xs).2.1 (dSg xs).1 ks pss := by
  have h1 := dSg_ok xs h
  have h2 := segR_len hs (by omega)
  exact built_enc (dSg_fits xs h) hs (fun x hx => bytes_of_mem (h1.2.2.1 x hx)) (by omega) (by omega)

/-- Bytes that are drawn: they can be read, and nothing that was there has changed. -/
def DrawnB (w : World) (bs : List Int) (e : Ending) (w' : World) : Prop := (∃ v, e = .returned v ∧ SlAt mB 0 0 w'.heap.size w' v bs ∧ CapOk v) ∧ Below w.heap.size w w'

end Go.Proofs.Ytkajdhliejjohaa
