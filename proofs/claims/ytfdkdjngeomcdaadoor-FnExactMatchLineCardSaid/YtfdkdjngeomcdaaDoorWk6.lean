import Derived.Test.YtfdkdjngeomcdaaDoorWk5
import Derived.Deep.RegionLaw
namespace Go.Proofs.YtfdkdjngeomcdaaDoor
open Go.RowKit

/-- The words of two sets, held against each other. -/
def eqv (g h : Nat → Nat) : Bool := ((g 0 : Int) == (h 0 : Int) && ((g 1 : Int) == (h 1 : Int) && ((g 2 : Int) == (h 2 : Int) && ((g 3 : Int) == (h 3 : Int) && ((g 4 : Int) == (h 4 : Int) && ((g 5 : Int) == (h 5 : Int) && ((g 6 : Int) == (h 6 : Int) && (g 7 : Int) == (h 7 : Int))))))))
theorem eqv_ps {g h : Nat → Nat} (e : eqv g h = true) : ps8 g = ps8 h := by
  unfold eqv at e
  simp only [Bool.and_eq_true, beq_iff_eq] at e
  obtain ⟨e0, e1, e2, e3, e4, e5, e6, e7⟩ := e
  unfold ps8
  rw [e0, e1, e2, e3, e4, e5, e6, e7]
theorem ps_eqv {g h : Nat → Nat} (e : ps8 g = ps8 h) (j : Nat) (hj : j < 8) : g j = h j := by
  unfold ps8 at e
  simp only [Value.agg.injEq, Array.mk.injEq, List.cons.injEq, Value.int.injEq, Int.natCast_inj, true_and, and_true] at e
  obtain ⟨e0, e1, e2, e3, e4, e5, e6, e7⟩ := e
  match j, hj with
  | 0, _ => exact e0
  | 1, _ => exact e1
  | 2, _ => exact e2
  | 3, _ => exact e3
  | 4, _ => exact e4
  | 5, _ => exact e5
  | 6, _ => exact e6
  | 7, _ => exact e7
theorem ps_bt {g h : Nat → Nat} (e : ps8 g = ps8 h) (i : Nat) (hi : i < 512) : Bt g i = Bt h i := by
  unfold Bt
  rw [ps_eqv e (i / 64) (by omega)]
/-- Classes of the bytes below b, by what H says of each; numbered as they are first met. -/
structure Cls (H : Nat → Nat → Nat) (b mm : Nat) (K : Nat → Nat) (hs : Nat → Nat → Nat) (ks : List Value) : Prop where
  len : ks.length = mm
  at_ : ∀ j, j < mm → ks[j]? = some (ps8 (hs j))
  src : ∀ j, j < mm → ∃ x, x < b ∧ hs j = H x
  cl : ∀ x, x < b → K x < mm ∧ ps8 (H x) = ps8 (hs (K x))
  le : mm ≤ b
  nd : ks.Nodup
  fo : ∀ j, j < mm → ∃ x, x < b ∧ K x = j ∧ ∀ x', x' < x → K x' < j
def upd (K : Nat → Nat) (b c : Nat) : Nat → Nat := fun x => if x = b then c else K x
theorem Cls.start (H : Nat → Nat → Nat) (K : Nat → Nat) (hs : Nat → Nat → Nat) : Cls H 0 0 K hs [] :=
  ⟨rfl, fun _ hj => absurd hj (Nat.not_lt_zero _), fun _ hj => absurd hj (Nat.not_lt_zero _), fun _ hj => absurd hj (Nat.not_lt_zero _), Nat.le_refl _, List.nodup_nil, fun _ hj => absurd hj (Nat.not_lt_zero _)⟩
section
variable {H : Nat → Nat → Nat} {b mm : Nat} {K : Nat → Nat} {hs : Nat → Nat → Nat} {ks ks' : List Value}
theorem Cls.again (h : Cls H b mm K hs ks) {c : Nat} (hc : c < mm) (e : ps8 (H b) = ps8 (hs c)) : Cls H (b + 1) mm (upd K b c) hs ks := by
  refine ⟨h.len, h.at_, fun j hj => ?_, fun x hx => ?_, by have := h.le; omega, h.nd, fun j hj => ?_⟩
  · obtain ⟨x, h1, h2⟩ := h.src j hj; exact ⟨x, by omega, h2⟩
  · unfold upd
    by_cases e2 : x = b
    · subst e2; rw [if_pos rfl]; exact ⟨hc, e⟩
    · rw [if_neg e2]; exact h.cl x (by omega)
  · obtain ⟨x, h1, h2, h3⟩ := h.fo j hj
    refine ⟨x, by omega, ?_, fun x' hx' => ?_⟩
    · unfold upd; rw [if_neg (by omega)]; exact h2
    · unfold upd; rw [if_neg (by omega)]; exact h3 x' hx'
theorem Cls.num (h : Cls H b mm K hs ks) {i : Nat} {f : Bool} (hr : NumR ks (ps8 (H b)) ks' i f) : (f = false ∧ i < mm ∧ Cls H (b + 1) mm (upd K b i) hs ks') ∨ (f = true ∧ i = mm ∧ Cls H (b + 1) (mm + 1) (upd K b i) (fun j => if j = mm then H b else hs j) ks') := by
  rcases hr with ⟨h1, rfl, h2, rfl⟩ | ⟨h1, rfl, rfl, rfl⟩
  · left
    have hi : i < mm := by
      rw [← h.len]
      apply Nat.lt_of_not_le
      intro q
      rw [List.getElem?_eq_none q] at h2
      cases h2
    rw [h.at_ i hi] at h2
    exact ⟨rfl, hi, h.again hi (Option.some.inj h2).symm⟩
  · right
    refine ⟨rfl, h.len, ⟨by rw [List.length_append, h.len]; rfl, fun j hj => ?_, fun j hj => ?_, fun x hx => ?_, by have := h.le; omega, ?_, fun j hj => ?_⟩⟩
    · by_cases e : j = mm
      · subst e
        rw [if_pos rfl, List.getElem?_append_right (by rw [h.len]; exact Nat.le_refl _), h.len, Nat.sub_self]
        rfl
      · rw [if_neg e, List.getElem?_append_left (by rw [h.len]; omega)]
        exact h.at_ j (by omega)
    · by_cases e : j = mm
      · subst e; exact ⟨b, by omega, by rw [if_pos rfl]⟩
      · obtain ⟨x, h3, h4⟩ := h.src j (by omega)
        exact ⟨x, by omega, by rw [if_neg e]; exact h4⟩
    · unfold upd
      by_cases e2 : x = b
      · subst e2; rw [if_pos rfl, h.len]; exact ⟨by omega, by rw [if_pos rfl]⟩
      · rw [if_neg e2]
        have := h.cl x (by omega)
        exact ⟨by omega, by rw [if_neg (by omega)]; exact this.2⟩
    · rw [List.nodup_append]
      refine ⟨h.nd, by simp, fun a ha c hc e => ?_⟩
      rw [List.mem_singleton] at hc
      subst hc e
      exact h1 ha
    · by_cases e : j = mm
      · subst e
        refine ⟨b, by omega, ?_, fun x' hx' => ?_⟩
        · unfold upd; rw [if_pos rfl]; exact h.len
        · unfold upd; rw [if_neg (by omega)]; exact (h.cl x' hx').1
      · obtain ⟨x, h3, h4, h5⟩ := h.fo j (by omega)
        refine ⟨x, by omega, ?_, fun x' hx' => ?_⟩
        · unfold upd; rw [if_neg (by omega)]; exact h4
        · unfold upd; rw [if_neg (by omega)]; exact h5 x' hx'
end
/-- A set more at the end of a row of sets. -/
theorem ps_pushed {base n gg cap : Nat} {w WA w7 : World} {v : Value} {hs : Nat → Nat → Nat} {x : Nat → Nat} {o : Obj} (_ : w.ownsRow base 78 8 v n (flatF 8 n hs)) (hP : Pushd w WA o)
    (r1 : w7.ownsRow base 78 8 (.slice (some ⟨gg, 0, none⟩) (n + 1) cap) (n + 1) (flatF 8 n hs ++ [wd x 0, wd x 1, wd x 2, wd x 3, wd x 4, wd x 5, wd x 6, wd x 7])) (r2 : WA.grownBy w7 v.ownBlock) :
    w7.ownsRow base 78 8 (.slice (some ⟨gg, 0, none⟩) (n + 1) cap) (n + 1) (flatF 8 (n + 1) (fun i => if i = n then x else hs i)) ∧ FrO (fun k => v.ownBlock = some k ∨ w.heap.size ≤ k) w w7 := by
  refine ⟨?_, ⟨r2.os.trans hP.os, r2.tape.trans hP.tape, r2.output.trans hP.output, by have := r2.size; have := hP.size; omega, fun k hk => ?_⟩⟩
  · have e : flatF 8 (n + 1) (fun i => if i = n then x else hs i) = flatF 8 n hs ++ [wd x 0, wd x 1, wd x 2, wd x 3, wd x 4, wd x 5, wd x 6, wd x 7] := by
      rw [flatF_next _ _ (by omega), flatF_congr (h := hs) (by omega) (fun i hi => by rw [if_neg (by omega)])]
      simp [List.range_succ]
    rw [e]; exact r1
  · have hk1 : k < w.heap.size := by apply Nat.lt_of_not_le; intro q; exact hk (Or.inr q)
    have hk2 : v.ownBlock ≠ some k := fun q => hk (Or.inl q)
    exact (r2.block k (by have := hP.size; omega) (fun q => hk2 q.symm)).trans (hP.old hk1)

end Go.Proofs.YtfdkdjngeomcdaaDoor
