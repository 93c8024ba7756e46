import Derived.Test.YtjmajdfcfcgegaaMn7
namespace Go.Proofs.Ytjmajdfcfcgegaa

/-- Keys numbered as they are first met: ds the keys that are known, ns the numbers so far, fs the first of each. -/
structure NumL {α : Type} (key : Nat → α) (ds : List α) (ns fs : List Nat) : Prop where
  nd : ∀ i j : Nat, i < ds.length → j < ds.length → ds[i]? = ds[j]? → i = j
  ky : ∀ s, s < ns.length → ds[ns[s]?.getD 0]? = some (key s)
  fl : fs.length = ds.length
  fr : ∀ j, j < ds.length → fs[j]?.getD 0 < ns.length ∧ ns[fs[j]?.getD 0]?.getD 0 = j
  le : ∀ s, s < ns.length → fs[ns[s]?.getD 0]?.getD 0 ≤ s
  up : ∀ i j, i < j → j < ds.length → fs[i]?.getD 0 < fs[j]?.getD 0
theorem NumL.nil {α : Type} (key : Nat → α) : NumL key [] [] [] := by
  refine ⟨fun i j hi => by simp at hi, fun s hs => by simp at hs, rfl, fun j hj => by simp at hj, fun s hs => by simp at hs, fun i j _ hj => by simp at hj⟩
theorem NumL.old {α : Type} {key : Nat → α} {ds : List α} {ns fs : List Nat} {j : Nat} (h : NumL key ds ns fs) (hj : ds[j]? = some (key ns.length)) : NumL key ds (ns ++ [j]) fs where
  nd := h.nd
  ky := fun s hs => by
    simp only [List.length_append, List.length_singleton] at hs
    by_cases he : s = ns.length
    · subst he; rw [snoc_at]; exact hj
    · rw [snoc_lt (by omega)]; exact h.ky s (by omega)
  fl := h.fl
  fr := fun i hi => by
    obtain ⟨h1, h2⟩ := h.fr i hi
    exact ⟨by simp; omega, by rw [snoc_lt h1]; exact h2⟩
  le := fun s hs => by
    simp only [List.length_append, List.length_singleton] at hs
    by_cases he : s = ns.length
    · subst he; rw [snoc_at]; have := (h.fr j (get_lt hj)).1; omega
    · rw [snoc_lt (by omega)]; exact h.le s (by omega)
  up := h.up
theorem NumL.new {α : Type} {key : Nat → α} {ds : List α} {ns fs : List Nat} (h : NumL key ds ns fs) (hno : ∀ i : Nat, i < ds.length → ds[i]? ≠ some (key ns.length)) : NumL key (ds ++ [key ns.length]) (ns ++ [ds.length]) (fs ++ [ns.length]) := by
  have hfl := h.fl
  have hat : (fs ++ [ns.length])[ds.length]?.getD 0 = ns.length := by rw [← hfl]; exact snoc_at
  refine ⟨fun i j hi hj he => ?_, fun s hs => ?_, by simp [hfl], fun j hj => ?_, fun s hs => ?_, fun i j hij hj => ?_⟩
  · simp only [List.length_append, List.length_singleton] at hi hj
    rcases Nat.lt_or_ge i ds.length with h1 | h1 <;> rcases Nat.lt_or_ge j ds.length with h2 | h2
    · rw [List.getElem?_append_left h1, List.getElem?_append_left h2] at he; exact h.nd i j h1 h2 he
    · have : j = ds.length := by omega
      subst this
      rw [List.getElem?_append_left h1] at he
      simp at he
      exact absurd he (hno i h1)
    · have : i = ds.length := by omega
      subst this
      rw [List.getElem?_append_left h2] at he
      simp at he
      exact absurd he.symm (hno j h2)
    · omega
  · simp only [List.length_append, List.length_singleton] at hs
    by_cases he : s = ns.length
    · subst he; rw [snoc_at]; simp
    · rw [snoc_lt (by omega)]
      have := h.ky s (by omega)
      rw [List.getElem?_append_left (get_lt this)]; exact this
  · simp only [List.length_append, List.length_singleton] at hj
    by_cases he : j = ds.length
    · subst he; rw [hat]; exact ⟨by simp, snoc_at⟩
    · obtain ⟨h1, h2⟩ := h.fr j (by omega)
      rw [snoc_lt (by omega)]
      exact ⟨by simp; omega, by rw [snoc_lt h1]; exact h2⟩
  · simp only [List.length_append, List.length_singleton] at hs
    by_cases he : s = ns.length
    · subst he; rw [snoc_at, hat]; exact Nat.le_refl _
    · rw [snoc_lt (ys := ns) (by omega)]
      have := get_lt (h.ky s (by omega))
      rw [snoc_lt (by omega)]
      exact h.le s (by omega)
  · simp only [List.length_append, List.length_singleton] at hj
    rw [snoc_lt (t := i) (by omega)]
    by_cases he : j = ds.length
    · subst he; rw [hat]; exact (h.fr i hij).1
    · rw [snoc_lt (by omega)]; exact h.up i j hij (by omega)

theorem NumL.num1 {α : Type} {key : Nat → α} {ds : List α} {ns fs : List Nat} (h : NumL key ds ns fs) : Num1 ns.length ds.length (fun s => ns[s]?.getD 0) (fun j => fs[j]?.getD 0) :=
  ⟨fun s hs => get_lt (h.ky s hs), h.fr, h.le, h.up⟩
theorem NumL.eq_iff {α : Type} {key : Nat → α} {ds : List α} {ns fs : List Nat} (h : NumL key ds ns fs) {p q : Nat} (hp : p < ns.length) (hq : q < ns.length) : ns[p]?.getD 0 = ns[q]?.getD 0 ↔ key p = key q := by
  have k1 := h.ky p hp
  have k2 := h.ky q hq
  constructor
  · intro he
    rw [he, k2] at k1
    exact (Option.some.inj k1).symm
  · intro he
    exact h.nd _ _ (get_lt k1) (get_lt k2) (by rw [k1, k2, he])

/-- Classes that go the same way from the first q states. -/
structure MgC (A : Tb) (q m : Nat) (mg G : Nat → Nat) : Prop where
  num : Num1 A.k m mg G
  sm : ∀ c c', c < A.k → c' < A.k → (mg c = mg c' ↔ ∀ p, p < q → A.nx p c = A.nx p c')
theorem MgC.start {A : Tb} (hk : 0 < A.k) : MgC A 0 1 (fun _ => 0) (fun _ => 0) where
  num := ⟨fun _ _ => by omega, fun j hj => ⟨hk, by omega⟩, fun s _ => Nat.zero_le s, fun i j h1 h2 => by omega⟩
  sm := fun _ _ _ _ => ⟨fun _ p hp => by omega, fun _ => rfl⟩
theorem MgC.next {A : Tb} {q m : Nat} {mg G : Nat → Nat} (h : MgC A q m mg G) {ds : List (Nat × Nat)} {ns fs : List Nat} (g : NumL (fun c => (mg c, A.nx q c)) ds ns fs) (hl : ns.length = A.k) :
    MgC A (q + 1) ds.length (fun c => ns[c]?.getD 0) (fun j => fs[j]?.getD 0) where
  num := by rw [← hl]; exact g.num1
  sm := fun c c' hc hc' => by
    rw [g.eq_iff (by omega) (by omega)]
    constructor
    · intro he p hp
      have h1 : mg c = mg c' := congrArg Prod.fst he
      have h2 : A.nx q c = A.nx q c' := congrArg Prod.snd he
      by_cases hpq : p = q
      · rw [hpq]; exact h2
      · exact (h.sm c c' hc hc').mp h1 p (by omega)
    · intro ha
      exact Prod.ext ((h.sm c c' hc hc').mpr fun p hp => ha p (by omega)) (ha q (by omega))

/-- Going through the classes in order: the next number is met where its first class is. -/
theorem Num1.meet {n m : Nat} {num F : Nat → Nat} (h : Num1 n m num F) {c met : Nat} (hc : c < n) (hm : ∀ j, j < m → (F j < c ↔ j < met)) : (num c = met → F met = c ∧ met < m) ∧ (num c ≠ met → ∀ j, j < m → (F j < c + 1 ↔ j < met)) ∧ (num c = met → ∀ j, j < m → (F j < c + 1 ↔ j < met + 1)) := by
  have hl := h.lt c hc
  have hle := h.le c hc
  have hf := h.fst _ hl
  have a : num c = met → F met = c ∧ met < m := fun he => by
    rw [he] at hle hl
    have := hm met hl
    omega
  refine ⟨a, fun hne j hj => ?_, fun he j hj => ?_⟩
  · have h1 := hm j hj
    constructor
    · intro hlt
      apply Classical.byContradiction
      intro hge
      have hjc : F j = c := by omega
      have := (h.fst j hj).2
      rw [hjc] at this
      have hjm : met < j := by omega
      have h2 := hm met (by omega)
      have h3 := h.up met j hjm hj
      omega
    · omega
  · obtain ⟨a1, a2⟩ := a he
    have h1 := hm j hj
    constructor
    · intro hlt
      apply Classical.byContradiction
      intro hge
      have h3 := h.up met j (by omega) hj
      omega
    · intro hlt
      by_cases hjm : j = met
      · rw [hjm, a1]; omega
      · have := h1.mpr (by omega); omega

end Go.Proofs.Ytjmajdfcfcgegaa
