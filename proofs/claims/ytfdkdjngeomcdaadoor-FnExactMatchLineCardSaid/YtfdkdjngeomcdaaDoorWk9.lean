import Derived.Test.YtfdkdjngeomcdaaDoorWk7
namespace Go.Proofs.YtfdkdjngeomcdaaDoor
open Go.RowKit

theorem ws_bt {g h : Nat → Nat} (e : ws4 g = ws4 h) (b : Nat) (hb : b < 256) : Bt g b = Bt h b := by
  unfold ws4 at e
  simp only [Value.agg.injEq, Array.mk.injEq, List.cons.injEq, Value.int.injEq, Int.natCast_inj, true_and, and_true] at e
  obtain ⟨e0, e1, e2, e3⟩ := e
  have : ∀ j, j < 4 → g j = h j := fun j hj => by
    match j, hj with
    | 0, _ => exact e0
    | 1, _ => exact e1
    | 2, _ => exact e2
    | 3, _ => exact e3
  unfold Bt
  rw [this (b / 64) (by omega)]
theorem bt_putW (g : Nat → Nat) (k i : Nat) : Bt (putW g k) i = true ↔ (Bt g i = true ∨ i = k) := by
  have h := bt_put g k i
  unfold putW
  rw [h]
  simp
/-- The distinct sets among the first x, and where each stands. -/
structure Dst (gs : Nat → Nat → Nat) (x m : Nat) (ds ps : Nat → Nat → Nat) (ks : List Value) : Prop where
  len : ks.length = m
  at_ : ∀ j, j < m → ks[j]? = some (ws4 (ds j))
  fd : ∀ j, j < m → Fit (ds j)
  fp : ∀ j, j < m → Fit (ps j)
  bt : ∀ j, j < m → ∀ i, Bt (ps j) i = true ↔ (i < x ∧ ws4 (gs i) = ws4 (ds j))
  cov : ∀ i, i < x → ∃ j, j < m ∧ ws4 (gs i) = ws4 (ds j)
  le : m ≤ x
  nd : ks.Nodup
def updF (ps : Nat → Nat → Nat) (i : Nat) (v : Nat → Nat) : Nat → Nat → Nat := fun j => if j = i then v else ps j
theorem Dst.start (gs ds ps : Nat → Nat → Nat) : Dst gs 0 0 ds ps [] :=
  ⟨rfl, fun _ h => absurd h (Nat.not_lt_zero _), fun _ h => absurd h (Nat.not_lt_zero _), fun _ h => absurd h (Nat.not_lt_zero _), fun _ h => absurd h (Nat.not_lt_zero _), fun _ h => absurd h (Nat.not_lt_zero _), Nat.le_refl _, List.nodup_nil⟩
theorem nodup_at {ks : List Value} (h : ks.Nodup) {i j : Nat} {v : Value} (hi : ks[i]? = some v) (hj : ks[j]? = some v) : i = j := by
  have h1 : i < ks.length := by apply Nat.lt_of_not_le; intro q; rw [List.getElem?_eq_none q] at hi; cases hi
  have h2 : j < ks.length := by apply Nat.lt_of_not_le; intro q; rw [List.getElem?_eq_none q] at hj; cases hj
  rw [List.getElem?_eq_getElem h1] at hi
  rw [List.getElem?_eq_getElem h2] at hj
  have h3 : ks[i] = ks[j] := (Option.some.inj hi).trans (Option.some.inj hj).symm
  rcases Nat.lt_trichotomy i j with q | q | q
  · exact absurd h3 (List.pairwise_iff_getElem.1 h i j h1 h2 q)
  · exact q
  · exact absurd h3.symm (List.pairwise_iff_getElem.1 h j i h2 h1 q)
section
variable {gs ds ps : Nat → Nat → Nat} {x m i : Nat} {ks ks' : List Value} {f : Bool}
theorem Dst.old (h : Dst gs x m ds ps ks) (hr : NumR ks (ws4 (gs x)) ks' i false) : i < m ∧ Dst gs (x + 1) m ds (updF ps i (putW (ps i) x)) ks' := by
  rcases hr with ⟨h1, rfl, h2, -⟩ | ⟨-, -, -, h⟩
  · have hi : i < m := by
      rw [← h.len]
      apply Nat.lt_of_not_le
      intro q
      rw [List.getElem?_eq_none q] at h2
      cases h2
    have hv : ws4 (gs x) = ws4 (ds i) := by have := h.at_ i hi; rw [h2] at this; exact Option.some.inj this
    refine ⟨hi, h.len, h.at_, h.fd, fun j hj => ?_, fun j hj t => ?_, fun t ht => ?_, by have := h.le; omega, h.nd⟩
    · unfold updF
      by_cases e : j = i
      · rw [if_pos e]; exact fit_put (h.fp i hi) x
      · rw [if_neg e]; exact h.fp j hj
    · unfold updF
      by_cases e : j = i
      · subst e
        rw [if_pos rfl, bt_putW, h.bt j hj t]
        constructor
        · rintro (⟨q1, q2⟩ | rfl)
          · exact ⟨by omega, q2⟩
          · exact ⟨by omega, hv⟩
        · rintro ⟨q1, q2⟩
          by_cases e : t = x
          · exact Or.inr e
          · exact Or.inl ⟨by omega, q2⟩
      · rw [if_neg e, h.bt j hj t]
        constructor
        · rintro ⟨q1, q2⟩; exact ⟨by omega, q2⟩
        · rintro ⟨q1, q2⟩
          refine ⟨?_, q2⟩
          by_cases e2 : t = x
          · subst e2
            exact absurd (nodup_at h.nd (by rw [h.at_ j hj, ← q2]) h2) e
          · omega
    · by_cases e : t = x
      · subst e; exact ⟨i, hi, hv⟩
      · exact h.cov t (by omega)
  · cases h
theorem Dst.new (h : Dst gs x m ds ps ks) (hg : Fit (gs x)) (hr : NumR ks (ws4 (gs x)) ks' i true) : i = m ∧ Dst gs (x + 1) (m + 1) (updF ds m (gs x)) (updF (updF ps m (fun _ => 0)) m (putW (fun _ => 0) x)) ks' := by
  rcases hr with ⟨-, -, -, h⟩ | ⟨h1, rfl, h2, -⟩
  · cases h
  · refine ⟨h2.trans h.len, by rw [List.length_append, h.len]; rfl, fun j hj => ?_, fun j hj => ?_, fun j hj => ?_, fun j hj t => ?_, fun t ht => ?_, by have := h.le; omega, ?_⟩
    · unfold updF
      by_cases e : j = m
      · subst e
        rw [if_pos rfl, List.getElem?_append_right (by rw [h.len]; exact Nat.le_refl _), h.len, Nat.sub_self]
        rfl
      · rw [if_neg e, List.getElem?_append_left (by rw [h.len]; omega)]
        exact h.at_ j (by omega)
    · unfold updF
      by_cases e : j = m
      · rw [if_pos e]; exact hg
      · rw [if_neg e]; exact h.fd j (by omega)
    · unfold updF
      by_cases e : j = m
      · rw [if_pos e]; exact fit_put fit_z x
      · rw [if_neg e, if_neg e]; exact h.fp j (by omega)
    · unfold updF
      by_cases e : j = m
      · subst e
        rw [if_pos rfl, if_pos rfl, bt_putW]
        constructor
        · rintro (q | rfl)
          · simp [Bt] at q
          · exact ⟨by omega, rfl⟩
        · rintro ⟨q1, q2⟩
          right
          apply Classical.byContradiction
          intro e
          obtain ⟨j', h3, h4⟩ := h.cov t (by omega)
          refine h1 ?_
          rw [← q2, h4]
          exact List.mem_of_getElem? (h.at_ j' h3)
      · rw [if_neg e, if_neg e, if_neg e, h.bt j (by omega) t]
        constructor
        · rintro ⟨q1, q2⟩; exact ⟨by omega, q2⟩
        · rintro ⟨q1, q2⟩
          refine ⟨?_, q2⟩
          by_cases e2 : t = x
          · subst e2
            refine absurd ?_ h1
            rw [q2]
            exact List.mem_of_getElem? (h.at_ j (by omega))
          · omega
    · unfold updF
      by_cases e : t = x
      · subst e; exact ⟨m, by omega, by rw [if_pos rfl]⟩
      · obtain ⟨j, h3, h4⟩ := h.cov t (by omega)
        exact ⟨j, by omega, by rw [if_neg (by omega)]; exact h4⟩
    · rw [List.nodup_append]
      refine ⟨h.nd, by simp, fun a ha c hc e => ?_⟩
      rw [List.mem_singleton] at hc
      subst hc e
      exact h1 ha
/-- The holders of a byte. -/
theorem Dst.holds (h : Dst gs x m ds ps ks) (b : Nat) (hb : b < 256) (i : Nat) : Bt (holdW ds ps b m) i = true ↔ (i < x ∧ Bt (gs i) b = true) := by
  rw [bt_hold]
  constructor
  · rintro ⟨j, hj, h1, h2⟩
    have := (h.bt j hj i).1 h2
    exact ⟨this.1, by rw [ws_bt this.2 b hb]; exact h1⟩
  · rintro ⟨h1, h2⟩
    obtain ⟨j, hj, h3⟩ := h.cov i h1
    exact ⟨j, hj, by rw [← ws_bt h3 b hb]; exact h2, (h.bt j hj i).2 ⟨h1, h3⟩⟩
end

end Go.Proofs.YtfdkdjngeomcdaaDoor
