import Derived.Test.YtfjnhmgmcldidaaB0
import Derived.Lib.SlicesCompact
namespace Go.Proofs.Ytfjnhmgmcldidaa
open Go.RowKit

/-- Ascending, each once. -/
def Asc (ys : List Int) : Prop := ys.Pairwise (· < ·)
/-- ys is xs in ascending order, each number once. -/
structure Ord (xs ys : List Int) : Prop where
  asc : Asc ys
  mem : ∀ z, z ∈ ys ↔ z ∈ xs

theorem asc_uniq : ∀ {xs ys : List Int}, Asc xs → Asc ys → (∀ z, z ∈ xs ↔ z ∈ ys) → xs = ys
  | [], [], _, _, _ => rfl
  | [], y :: ys, _, _, h => absurd ((h y).2 (by simp)) (by simp)
  | x :: xs, [], _, _, h => absurd ((h x).1 (by simp)) (by simp)
  | x :: xs, y :: ys, hx, hy, h => by
    have hx' := List.pairwise_cons.1 hx
    have hy' := List.pairwise_cons.1 hy
    have e : x = y := by
      have h1 := (h x).1 (by simp)
      have h2 := (h y).2 (by simp)
      rcases List.mem_cons.1 h1 with e | m1
      · exact e
      · rcases List.mem_cons.1 h2 with e | m2
        · exact e.symm
        · have a := hx'.1 y m2
          have b := hy'.1 x m1
          omega
    subst e
    congr 1
    refine asc_uniq hx'.2 hy'.2 (fun z => ⟨fun m => ?_, fun m => ?_⟩)
    · rcases List.mem_cons.1 ((h z).1 (List.mem_cons_of_mem _ m)) with e | m'
      · have := hx'.1 z m; omega
      · exact m'
    · rcases List.mem_cons.1 ((h z).2 (List.mem_cons_of_mem _ m)) with e | m'
      · have := hy'.1 z m; omega
      · exact m'

theorem Ord.uniq {xs ys zs : List Int} (h : Ord xs ys) (k : Ord xs zs) : ys = zs := asc_uniq h.asc k.asc (fun z => (h.mem z).trans (k.mem z).symm)
theorem Ord.congr {xs xs' ys : List Int} (h : Ord xs ys) (hm : ∀ z, z ∈ xs ↔ z ∈ xs') : Ord xs' ys := ⟨h.asc, fun z => (h.mem z).trans (hm z)⟩
theorem Ord.nil : Ord [] [] := ⟨List.Pairwise.nil, fun _ => Iff.rfl⟩
theorem Ord.small {xs : List Int} (h : xs.length < 2) : Ord xs xs := by
  refine ⟨?_, fun _ => Iff.rfl⟩
  match xs, h with
  | [], _ => exact List.Pairwise.nil
  | [x], _ => exact List.pairwise_singleton _ _

theorem mem_get {xs : List Int} {z : Int} : z ∈ xs ↔ ∃ k : Nat, k < xs.length ∧ xs[k]?.getD 0 = z := by
  rw [List.mem_iff_getElem]
  constructor
  · rintro ⟨k, hk, rfl⟩
    exact ⟨k, hk, by simp [hk]⟩
  · rintro ⟨k, hk, rfl⟩
    exact ⟨k, hk, by simp [hk]⟩

theorem asc_get {xs : List Int} (h : Asc xs) {i j : Nat} (hij : i < j) (hj : j < xs.length) : xs[i]?.getD 0 < xs[j]?.getD 0 := by
  have := List.pairwise_iff_getElem.1 h i j (by omega) hj hij
  simpa [show i < xs.length by omega, hj] using this

/-- Sorted and with repeated neighbours dropped. -/
theorem ord_compact (zs : List Int) : Ord zs (Lib.compact (zs.mergeSort fun x y => decide (x ≤ y))) := by
  have hs : (zs.mergeSort fun x y => decide (x ≤ y)).Pairwise (fun x y => decide (x ≤ y) = true) :=
    List.pairwise_mergeSort (fun a b c h1 h2 => by simp only [decide_eq_true_eq] at *; omega) (fun a b => by simp only [Bool.or_eq_true, decide_eq_true_eq]; omega) zs
  have hm : ∀ z, z ∈ (zs.mergeSort fun x y => decide (x ≤ y)) ↔ z ∈ zs := fun z => List.mem_mergeSort
  generalize (zs.mergeSort fun x y => decide (x ≤ y)) = d at hs hm
  have hle : ∀ i j : Nat, i ≤ j → j < d.length → d.toArray[i]! ≤ d.toArray[j]! := by
    intro i j hij hj
    by_cases e : i = j
    · subst e; exact Int.le_refl _
    · have := List.pairwise_iff_getElem.1 hs i j (by omega) hj (by omega)
      simpa [getElem!_pos, show i < d.length by omega, hj] using this
  refine ⟨?_, fun z => ?_⟩
  · unfold Asc Lib.compact Lib.compactUpTo
    rw [List.pairwise_map]
    have h1 : ((List.range d.length).filter (Lib.keeps d.toArray)).Pairwise (· < ·) := List.Pairwise.filter _ List.pairwise_lt_range
    refine List.Pairwise.imp_of_mem ?_ h1
    intro i j hi hj hij
    rw [List.mem_filter, List.mem_range] at hi hj
    have hk := hj.2
    have h2 := hle i (j - 1) (by omega) (by omega)
    have h3 := hle (j - 1) j (by omega) hj.1
    have h4 : d.toArray[j]! ≠ d.toArray[j - 1]! := fun e => by rw [Lib.keeps_neg (by omega) e] at hk; cases hk
    omega
  · rw [← hm z]
    unfold Lib.compact Lib.compactUpTo
    simp only [List.mem_map, List.mem_filter, List.mem_range]
    constructor
    · rintro ⟨j, ⟨hj, -⟩, rfl⟩
      simp [getElem!_pos, hj]
    · intro hz
      obtain ⟨j, hj, e⟩ := List.mem_iff_getElem.1 hz
      have : ∀ n : Nat, ∀ j : Nat, j ≤ n → j < d.length → d.toArray[j]! = z → ∃ a, (a < d.length ∧ Lib.keeps d.toArray a = true) ∧ d.toArray[a]! = z := by
        intro n
        induction n with
        | zero => intro j h1 h2 h3; exact ⟨j, ⟨h2, Lib.keeps_lt_one _ _ (by omega)⟩, h3⟩
        | succ n ih =>
          intro j h1 h2 h3
          by_cases hj0 : j = 0
          · exact ⟨j, ⟨h2, Lib.keeps_lt_one _ _ (by omega)⟩, h3⟩
          · by_cases e2 : d.toArray[j]! = d.toArray[j - 1]!
            · exact ih (j - 1) (by omega) (by omega) (by rw [← e2, h3])
            · exact ⟨j, ⟨h2, Lib.keeps_pos e2⟩, h3⟩
      exact this j j (Nat.le_refl _) hj (by simp [getElem!_pos, hj, e])

/-- Two ascending lists that are merged: os is what has come. -/
structure MInv (x y os : List Int) (i j : Nat) : Prop where
  asc : Asc os
  mem : ∀ z, z ∈ os ↔ z ∈ x.take i ∨ z ∈ y.take j
  lx : ∀ z, z ∈ os → ∀ k, i ≤ k → k < x.length → z ≤ x[k]?.getD 0
  ly : ∀ z, z ∈ os → ∀ k, j ≤ k → k < y.length → z ≤ y[k]?.getD 0

theorem MInv.swap {x y os : List Int} {i j : Nat} (h : MInv x y os i j) : MInv y x os j i := ⟨h.asc, fun z => (h.mem z).trans Or.comm, h.ly, h.lx⟩
theorem MInv.start (x y : List Int) : MInv x y [] 0 0 := ⟨List.Pairwise.nil, fun z => by simp, fun z h => by simp at h, fun z h => by simp at h⟩
theorem take_succ_mem {x : List Int} {i : Nat} (h : i < x.length) (z : Int) : z ∈ x.take (i + 1) ↔ z ∈ x.take i ∨ z = x[i]?.getD 0 := by
  rw [List.take_add_one, List.mem_append]
  simp [h]

/-- The next of x is no new number. -/
theorem MInv.skip {x y os : List Int} {i j : Nat} (h : MInv x y os i j) (hi : i < x.length) (hin : x[i]?.getD 0 ∈ os) : MInv x y os (i + 1) j := by
  refine ⟨h.asc, fun z => ?_, fun z hz k h1 h2 => h.lx z hz k (by omega) h2, h.ly⟩
  rw [take_succ_mem hi, h.mem z]
  constructor
  · rintro (a | a)
    · exact Or.inl (Or.inl a)
    · exact Or.inr a
  · rintro ((a | a) | a)
    · exact Or.inl a
    · subst a; exact (h.mem _).1 hin
    · exact Or.inr a
/-- The next of x is a new number. -/
theorem MInv.next {x y os : List Int} {i j : Nat} (h : MInv x y os i j) (hx : Asc x) (hy : Asc y) (hi : i < x.length) (hlt : ∀ z, z ∈ os → z ≠ x[i]?.getD 0) (hle : j < y.length → x[i]?.getD 0 ≤ y[j]?.getD 0) : MInv x y (os ++ [x[i]?.getD 0]) (i + 1) j := by
  refine ⟨?_, fun z => ?_, fun z hz k h1 h2 => ?_, fun z hz k h1 h2 => ?_⟩
  · refine List.pairwise_append.2 ⟨h.asc, List.pairwise_singleton _ _, fun a ha b hb => ?_⟩
    simp at hb
    have h1 := h.lx a ha i (Nat.le_refl _) hi
    have h2 := hlt a ha
    simp [hi] at h1 h2
    subst hb
    simp [hi]
    omega
  · rw [take_succ_mem hi, List.mem_append, h.mem z, List.mem_singleton]
    constructor
    · rintro ((a | a) | a)
      · exact Or.inl (Or.inl a)
      · exact Or.inr a
      · exact Or.inl (Or.inr a)
    · rintro ((a | a) | a)
      · exact Or.inl (Or.inl a)
      · exact Or.inr a
      · exact Or.inl (Or.inr a)
  · rcases List.mem_append.1 hz with a | a
    · exact h.lx z a k (by omega) h2
    · rw [List.mem_singleton] at a
      subst a
      have := asc_get hx (show i < k by omega) h2
      omega
  · rcases List.mem_append.1 hz with a | a
    · exact h.ly z a k h1 h2
    · rw [List.mem_singleton] at a
      subst a
      have h3 := hle (by omega)
      by_cases e : j = k
      · subst e; exact h3
      · have := asc_get hy (show j < k by omega) h2
        omega
theorem MInv.done {x y os : List Int} (h : MInv x y os x.length y.length) {xs : List Int} (hm : ∀ z, z ∈ xs ↔ z ∈ x ∨ z ∈ y) : Ord xs os := ⟨h.asc, fun z => by rw [h.mem z, hm z]; simp⟩
/-- The last one, against all. -/
theorem MInv.last {x y os : List Int} {i j : Nat} (h : MInv x y os i j) {v : Int} (hle : ∀ z, z ∈ os → z ≤ v) (hne : os[os.length - 1]?.getD 0 ≠ v) : ∀ z, z ∈ os → z ≠ v := by
  intro z hz e
  subst e
  obtain ⟨k, hk, hkz⟩ := mem_get.1 hz
  by_cases e : k = os.length - 1
  · subst e; exact hne hkz
  · have h1 := asc_get h.asc (show k < os.length - 1 by omega) (by omega)
    have h2 := hle _ (mem_get.2 ⟨os.length - 1, by omega, rfl⟩)
    omega
end Go.Proofs.Ytfjnhmgmcldidaa
