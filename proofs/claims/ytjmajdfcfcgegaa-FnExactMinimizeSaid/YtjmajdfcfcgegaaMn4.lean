import Derived.Test.YtjmajdfcfcgegaaMn3
namespace Go.Proofs.Ytjmajdfcfcgegaa

/-- Breadth first from s0 by k ways: o what was met, in order; ys the numbers of where the ways lead, row by row, so far. -/
structure Bfs {α : Type} (k : Nat) (f : α → Nat → α) (s0 : α) (o : List α) (ys : List Nat) : Prop where
  nd : ∀ i j : Nat, i < o.length → j < o.length → o[i]? = o[j]? → i = j
  z : o[0]? = some s0
  nx : ∀ t, t < ys.length → ∃ x, o[t / k]? = some x ∧ o[ys[t]?.getD 0]? = some (f x (t % k))
  up : ∀ t, t < ys.length → ∀ s, s < ys[t]?.getD 0 → s = 0 ∨ ∃ t', t' < t ∧ ys[t']?.getD 0 = s
  all : ∀ s, s < o.length → s = 0 ∨ ∃ t, t < ys.length ∧ ys[t]?.getD 0 = s ∧ t / k < s

theorem Bfs.start {α : Type} (k : Nat) (f : α → Nat → α) (s0 : α) : Bfs k f s0 [s0] [] where
  nd := fun i j hi hj _ => by simp at hi hj; omega
  z := rfl
  nx := fun t ht => by simp at ht
  up := fun t ht => by simp at ht
  all := fun s hs => by simp at hs; omega
theorem Bfs.pos {α : Type} {k : Nat} {f : α → Nat → α} {s0 : α} {o : List α} {ys : List Nat} (h : Bfs k f s0 o ys) : 0 < o.length := by
  have := h.z
  cases o with
  | nil => simp at this
  | cons => simp
theorem get_lt {α : Type} {o : List α} {i : Nat} {x : α} (h : o[i]? = some x) : i < o.length := (List.getElem?_eq_some_iff.mp h).1

theorem snoc_lt {ys : List Nat} {j t : Nat} (ht : t < ys.length) : (ys ++ [j])[t]?.getD 0 = ys[t]?.getD 0 := by rw [List.getElem?_append_left ht]
theorem snoc_at {ys : List Nat} {j : Nat} : (ys ++ [j])[ys.length]?.getD 0 = j := by simp

/-- A way that leads to what was met. -/
theorem Bfs.old {α : Type} {k : Nat} {f : α → Nat → α} {s0 x : α} {o : List α} {ys : List Nat} {j : Nat} (h : Bfs k f s0 o ys) (hx : o[ys.length / k]? = some x) (hj : o[j]? = some (f x (ys.length % k))) : Bfs k f s0 o (ys ++ [j]) where
  nd := h.nd
  z := h.z
  nx := fun t ht => by
    simp only [List.length_append, List.length_singleton] at ht
    by_cases he : t = ys.length
    · subst he; exact ⟨x, hx, by rw [snoc_at]; exact hj⟩
    · rw [snoc_lt (by omega)]; exact h.nx t (by omega)
  up := fun t ht s hs => by
    simp only [List.length_append, List.length_singleton] at ht
    by_cases he : t = ys.length
    · subst he
      rw [snoc_at] at hs
      rcases h.all s (by have := get_lt hj; omega) with h0 | ⟨t', k1, k2, -⟩
      · exact .inl h0
      · exact .inr ⟨t', k1, by rw [snoc_lt k1]; exact k2⟩
    · rw [snoc_lt (by omega)] at hs
      rcases h.up t (by omega) s hs with h0 | ⟨t', k1, k2⟩
      · exact .inl h0
      · exact .inr ⟨t', k1, by rw [snoc_lt (by omega)]; exact k2⟩
  all := fun s hs => by
    rcases h.all s hs with h0 | ⟨t', k1, k2, k3⟩
    · exact .inl h0
    · exact .inr ⟨t', by simp; omega, by rw [snoc_lt k1]; exact k2, k3⟩

/-- A way that leads to something new. -/
theorem Bfs.new {α : Type} {k : Nat} {f : α → Nat → α} {s0 x : α} {o : List α} {ys : List Nat} (h : Bfs k f s0 o ys) (hx : o[ys.length / k]? = some x) (hno : ∀ i : Nat, i < o.length → o[i]? ≠ some (f x (ys.length % k))) :
    Bfs k f s0 (o ++ [f x (ys.length % k)]) (ys ++ [o.length]) := by
  have hp := h.pos
  have hold : ∀ {i : Nat} {y : α}, o[i]? = some y → (o ++ [f x (ys.length % k)])[i]? = some y := fun {i y} hi => by rw [List.getElem?_append_left (get_lt hi)]; exact hi
  refine ⟨fun i j hi hj he => ?_, hold h.z, fun t ht => ?_, fun t ht s hs => ?_, fun s hs => ?_⟩
  · simp only [List.length_append, List.length_singleton] at hi hj
    rcases Nat.lt_or_ge i o.length with h1 | h1 <;> rcases Nat.lt_or_ge j o.length with h2 | h2
    · rw [List.getElem?_append_left h1, List.getElem?_append_left h2] at he; exact h.nd i j h1 h2 he
    · have : j = o.length := by omega
      subst this
      rw [List.getElem?_append_left h1] at he
      simp at he
      exact absurd he (hno i h1)
    · have : i = o.length := by omega
      subst this
      rw [List.getElem?_append_left h2] at he
      simp at he
      exact absurd he.symm (hno j h2)
    · omega
  · simp only [List.length_append, List.length_singleton] at ht
    by_cases he : t = ys.length
    · subst he; exact ⟨x, hold hx, by rw [snoc_at]; simp⟩
    · rw [snoc_lt (by omega)]
      obtain ⟨y, h1, h2⟩ := h.nx t (by omega)
      exact ⟨y, hold h1, hold h2⟩
  · simp only [List.length_append, List.length_singleton] at ht
    by_cases he : t = ys.length
    · subst he
      rw [snoc_at] at hs
      rcases h.all s hs with h0 | ⟨t', k1, k2, -⟩
      · exact .inl h0
      · exact .inr ⟨t', k1, by rw [snoc_lt k1]; exact k2⟩
    · rw [snoc_lt (by omega)] at hs
      rcases h.up t (by omega) s hs with h0 | ⟨t', k1, k2⟩
      · exact .inl h0
      · exact .inr ⟨t', k1, by rw [snoc_lt (by omega)]; exact k2⟩
  · simp only [List.length_append, List.length_singleton] at hs
    by_cases he : s = o.length
    · subst he
      exact .inr ⟨ys.length, by simp, snoc_at, get_lt hx⟩
    · rcases h.all s (by omega) with h0 | ⟨t', k1, k2, k3⟩
      · exact .inl h0
      · exact .inr ⟨t', by simp; omega, by rw [snoc_lt k1]; exact k2, k3⟩

/-- The table that comes of it. -/
def bfsT {α : Type} (k : Nat) (cl : Nat → Nat) (ac : α → Bool) (o : List α) (ys : List Nat) : Tb := ⟨o.length, k, cl, fun q c => ys[q * k + c]?.getD 0, fun q => (o[q]?.map ac).getD false⟩
theorem row_at {q c k : Nat} (hc : c < k) : (q * k + c) / k = q ∧ (q * k + c) % k = c := by
  have hk : 0 < k := by omega
  constructor
  · rw [Nat.mul_comm, Nat.mul_add_div hk, Nat.div_eq_of_lt hc, Nat.add_zero]
  · rw [Nat.mul_comm, Nat.mul_add_mod, Nat.mod_eq_of_lt hc]
theorem row_in {q c k n : Nat} (hq : q < n) (hc : c < k) : q * k + c < n * k := by
  have : (q + 1) * k ≤ n * k := Nat.mul_le_mul_right _ hq
  rw [Nat.add_mul, Nat.one_mul] at this
  omega
theorem bfs_nx {α : Type} {k : Nat} {f : α → Nat → α} {s0 : α} {o : List α} {ys : List Nat} (h : Bfs k f s0 o ys) (hl : ys.length = o.length * k) {cl : Nat → Nat} {ac : α → Bool} {q c : Nat} {x : α} (hq : o[q]? = some x) (hc : c < k) :
    o[(bfsT k cl ac o ys).nx q c]? = some (f x c) := by
  obtain ⟨y, h1, h2⟩ := h.nx (q * k + c) (by rw [hl]; exact row_in (get_lt hq) hc)
  rw [(row_at hc).1, hq] at h1
  cases h1
  rw [(row_at hc).2] at h2
  exact h2
theorem bfs_run {α : Type} {k : Nat} {f : α → Nat → α} {s0 : α} {o : List α} {ys : List Nat} (h : Bfs k f s0 o ys) (hl : ys.length = o.length * k) {cl : Nat → Nat} {ac : α → Bool} (hcl : ∀ b, b < 256 → cl b < k) :
    ∀ (w : List Nat) (q : Nat) (x : α), o[q]? = some x → Wd w → o[(bfsT k cl ac o ys).run q w]? = some (w.foldl (fun y b => f y (cl b)) x)
  | [], _, _, hq, _ => hq
  | b :: w, _, _, hq, hw => bfs_run h hl hcl w _ _ (bfs_nx h hl hq (hcl b (hw b (.head _)))) fun y hy => hw y (.tail _ hy)

theorem bfs_pre {α : Type} {k : Nat} {f : α → Nat → α} {s0 : α} {o : List α} {ys : List Nat} (h : Bfs k f s0 o ys) (hl : ys.length = o.length * k) {cl : Nat → Nat} {ac : α → Bool} (hcl : ∀ b, b < 256 → cl b < k)
    (hup : ∀ b, b < 256 → ∀ c, c < cl b → ∃ b', b' < b ∧ cl b' = c) (hall : ∀ c, c < k → ∃ b, b < 256 ∧ cl b = c) : Pre (bfsT k cl ac o ys) := by
  have hk : 0 < k := Nat.lt_of_le_of_lt (Nat.zero_le _) (hcl 0 (by decide))
  have hwf : (bfsT k cl ac o ys).Wf := ⟨h.pos, hcl, fun q c hq hc => by
    obtain ⟨x, hx⟩ : ∃ x, o[q]? = some x := ⟨_, List.getElem?_eq_getElem hq⟩
    exact get_lt (bfs_nx h hl hx hc)⟩
  refine ⟨hwf, hup, hall, fun q c hq hc s hs => ?_, fun q => ?_⟩
  · rcases h.up (q * k + c) (by rw [hl]; exact row_in hq hc) s hs with h0 | ⟨t, k1, k2⟩
    · exact .inl h0
    · refine .inr ⟨t / k, t % k, Nat.mod_lt _ hk, ?_, ?_⟩
      · have e := Nat.div_add_mod t k
        rw [Nat.mul_comm] at e
        rcases Nat.lt_trichotomy (t / k) q with g | g | g
        · exact .inl g
        · refine .inr ⟨g, ?_⟩
          rw [g] at e
          omega
        · have : (q + 1) * k ≤ t / k * k := Nat.mul_le_mul_right _ g
          rw [Nat.add_mul, Nat.one_mul] at this
          have hc' : c < k := hc
          omega
      · show ys[t / k * k + t % k]?.getD 0 = s
        rw [Nat.mul_comm, Nat.div_add_mod]
        exact k2
  · induction q using Nat.strongRecOn with
    | _ q ih =>
      intro hq
      rcases h.all q hq with h0 | ⟨t, k1, k2, k3⟩
      · exact ⟨[], Wd.nil, h0.symm⟩
      · obtain ⟨w, hw, hr⟩ := ih (t / k) k3 (Nat.lt_trans k3 hq)
        obtain ⟨b, hb, hc⟩ := hall (t % k) (Nat.mod_lt _ hk)
        refine ⟨w ++ [b], hw.app (Wd.nil.cons hb), ?_⟩
        rw [Tb.run_snoc, hr]
        show ys[t / k * k + cl b]?.getD 0 = q
        rw [hc, Nat.mul_comm, Nat.div_add_mod]
        exact k2

end Go.Proofs.Ytjmajdfcfcgegaa
