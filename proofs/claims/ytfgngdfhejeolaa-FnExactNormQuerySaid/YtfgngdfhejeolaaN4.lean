import Derived.Test.YtfgngdfhejeolaaN3
import Derived.Test.YtfgngdfhejeolaaO2
namespace Go.Proofs.Ytfgngdfhejeolaa
open Go.RowKit

/-- Lists in lexicographic order, each once. -/
def LAsc (rs : List (List Int)) : Prop := rs.Pairwise (fun a b => lexc a b < 0)
theorem lasc_uniq : ∀ {xs ys : List (List Int)}, LAsc xs → LAsc ys → (∀ z, z ∈ xs ↔ z ∈ ys) → xs = ys
  | [], [], _, _, _ => rfl
  | [], y :: ys, _, _, h => absurd ((h y).2 (by simp)) (by simp)
  | x :: xs, [], _, _, h => absurd ((h x).1 (by simp)) (by simp)
  | x :: xs, y :: ys, hx, hy, h => by
    have hx' := List.pairwise_cons.1 hx
    have hy' := List.pairwise_cons.1 hy
    have hself : ∀ a : List Int, ¬ lexc a a < 0 := fun a => by rw [lexc_zero.2 rfl]; omega
    have e : x = y := by
      rcases List.mem_cons.1 ((h x).1 (by simp)) with e | m1
      · exact e
      · rcases List.mem_cons.1 ((h y).2 (by simp)) with e | m2
        · exact e.symm
        · exact absurd (lexc_trans (hx'.1 y m2) (hy'.1 x m1)) (hself x)
    subst e
    congr 1
    refine lasc_uniq hx'.2 hy'.2 (fun z => ⟨fun m => ?_, fun m => ?_⟩)
    · rcases List.mem_cons.1 ((h z).1 (List.mem_cons_of_mem _ m)) with e | m'
      · subst e; exact absurd (hx'.1 z m) (hself z)
      · exact m'
    · rcases List.mem_cons.1 ((h z).2 (List.mem_cons_of_mem _ m)) with e | m'
      · subst e; exact absurd (hy'.1 z m) (hself z)
      · exact m'

/-- While a place is made: the row, with j the hole. -/
def hole {α : Type} (ps : List α) (d : α) (j : Nat) : List α := (ps ++ [d]).take (j + 1) ++ ps.drop j
theorem hole_len {α : Type} (ps : List α) (d : α) {j : Nat} (hj : j ≤ ps.length) : (hole ps d j).length = ps.length + 1 := by simp [hole]; omega
theorem hole_start {α : Type} (ps : List α) (d : α) : hole ps d ps.length = ps ++ [d] := by unfold hole; rw [List.take_of_length_le (by simp), List.drop_length, List.append_nil]
theorem hole_before {α : Type} (ps : List α) (d : α) {j : Nat} (hj : j < ps.length) : (hole ps d (j + 1))[j]? = some (ps[j]) := by
  unfold hole
  rw [List.getElem?_append_left (by simp; omega), List.getElem?_take, if_pos (by omega), List.getElem?_append_left hj]
  simp [hj]
theorem hole_step {α : Type} (ps : List α) (d : α) {j : Nat} (hj : j < ps.length) : (hole ps d (j + 1)).set (j + 1) (ps[j]) = hole ps d j := by
  apply List.ext_getElem?
  intro i
  unfold hole
  by_cases h1 : i = j + 1
  · subst h1
    rw [List.getElem?_set_self (by simp; omega), List.getElem?_append_right (by simp; omega)]
    simp [show min (j + 1) (ps.length + 1) = j + 1 by omega, hj]
  · rw [List.getElem?_set_ne (by omega)]
    by_cases h2 : i < j + 1
    · rw [List.getElem?_append_left (by simp; omega), List.getElem?_append_left (by simp; omega), List.getElem?_take, List.getElem?_take, if_pos (by omega), if_pos (by omega)]
    · rw [List.getElem?_append_right (by simp; omega), List.getElem?_append_right (by simp; omega), List.getElem?_drop, List.getElem?_drop]
      congr 1
      simp
      omega
theorem hole_fill {α : Type} (ps : List α) (d c : α) {j : Nat} (hj : j ≤ ps.length) : (hole ps d j).set j c = ps.take j ++ c :: ps.drop j := by
  apply List.ext_getElem?
  intro i
  unfold hole
  by_cases h1 : i = j
  · subst h1
    rw [List.getElem?_set_self (by simp; omega), List.getElem?_append_right (by simp; omega)]
    simp [show min i ps.length = i by omega]
  · rw [List.getElem?_set_ne (by omega)]
    by_cases h2 : i < j
    · rw [List.getElem?_append_left (by simp; omega), List.getElem?_append_left (by simp; omega), List.getElem?_take, List.getElem?_take, if_pos (by omega), if_pos (by omega), List.getElem?_append_left (by omega)]
    · rw [List.getElem?_append_right (by simp; omega), List.getElem?_append_right (by simp; omega), List.getElem?_drop]
      obtain ⟨m, hm⟩ : ∃ m, i = j + 1 + m := ⟨i - (j + 1), by omega⟩
      subst hm
      rw [show j + 1 + m - (List.take j ps).length = m + 1 by simp; omega, List.getElem?_cons_succ, List.getElem?_drop]
      congr 1
      simp
      omega

/-- One list more, at its place. -/
theorem lasc_ins {rs : List (List Int)} {x : List Int} {at' : Nat} (h : LAsc rs) (hat : at' ≤ rs.length) (hlow : ∀ j : Nat, j < at' → lexc (rs[j]?.getD []) x < 0) (hhigh : at' < rs.length → lexc x (rs[at']?.getD []) < 0) : LAsc (rs.take at' ++ x :: rs.drop at') := by
  have h' : LAsc (rs.take at' ++ rs.drop at') := by rw [List.take_append_drop]; exact h
  obtain ⟨p1, p2, p3⟩ := List.pairwise_append.1 h'
  refine List.pairwise_append.2 ⟨p1, List.pairwise_cons.2 ⟨fun z hz => ?_, p2⟩, fun a ha b hb => ?_⟩
  · have hlt : at' < rs.length := by
      have := List.length_pos_of_mem hz
      simp at this
      omega
    have h1 := hhigh hlt
    rw [List.drop_eq_getElem_cons hlt] at hz p2
    have e : rs[at']?.getD [] = rs[at'] := by simp [hlt]
    rw [e] at h1
    rcases List.mem_cons.1 hz with e2 | m
    · rw [e2]; exact h1
    · exact lexc_trans h1 ((List.pairwise_cons.1 p2).1 z m)
  · have hlow' : ∀ a, a ∈ rs.take at' → lexc a x < 0 := fun a ha => by
      obtain ⟨j, hj, e⟩ := List.mem_iff_getElem.1 ha
      have hj' : j < at' := by simp at hj; omega
      have := hlow j hj'
      rw [List.getElem_take] at e
      rw [show rs[j]?.getD [] = a by rw [← e]; simp [show j < rs.length by simp at hj; omega]] at this
      exact this
    rcases List.mem_cons.1 hb with e | m
    · rw [e]; exact hlow' a ha
    · exact p3 a ha b m

end Go.Proofs.Ytfgngdfhejeolaa
