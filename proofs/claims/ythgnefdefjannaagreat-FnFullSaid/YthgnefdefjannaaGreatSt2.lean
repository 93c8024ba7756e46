import Derived.Test.YthgnefdefjannaaGreatP8
import Derived.Test.YthgnefdefjannaaGreatP9
namespace Go.Proofs.YthgnefdefjannaaGreat
open Go.RowKit

/-- A state that can be read. -/
def StRd (w : World) (v : Value) (bss oss : List (List Int)) : Prop := ∃ sv ov, v = .agg #[sv, ov] ∧ SsAt mB 0 w.heap.size w sv bss ∧ SsAt mB 0 w.heap.size w ov oss
theorem StRd.below {w w' : World} {v : Value} {bss oss : List (List Int)} {m : Nat} (h : StRd w v bss oss) (hb : Below m w w') (hm : w.heap.size ≤ m) : StRd w' v bss oss := by
  obtain ⟨sv, ov, e, h1, h2⟩ := h
  exact ⟨sv, ov, e, h1.below hb hm, h2.below hb hm⟩
theorem StRd.val {w : World} {v : Value} {bss oss : List (List Int)} (h : StRd w v bss oss) : ∃ a1 c1 a2 c2, v = .agg #[.slice a1 bss.length c1, .slice a2 oss.length c2] := by
  obtain ⟨sv, ov, rfl, ⟨a1, c1, rfl, -⟩, ⟨a2, c2, rfl, -⟩⟩ := h
  exact ⟨a1, c1, a2, c2, rfl⟩
/-- A state that owns its memory, from block lo on and below hi. -/
def StF (lo hi : Nat) (w : World) (v : Value) (bss oss : List (List Int)) : Prop :=
  ∃ (sv ov : Value) (S1 S2 : Nat → Prop), v = .agg #[sv, ov] ∧ SsF mB 0 S1 w sv bss ∧ SsF mB 0 S2 w ov oss ∧ (∀ k, S1 k ∨ S2 k → lo ≤ k ∧ k < hi) ∧ ∀ k, S1 k → ¬ S2 k
theorem StF.same {lo hi : Nat} {w w' : World} {v : Value} {bss oss : List (List Int)} (h : StF lo hi w v bss oss) (hs : ∀ k, lo ≤ k → k < hi → w'.heap[k]? = w.heap[k]?) : StF lo hi w' v bss oss := by
  obtain ⟨sv, ov, S1, S2, e, h1, h2, h3, h4⟩ := h
  exact ⟨sv, ov, S1, S2, e, h1.same (fun k hk => hs k (h3 k (Or.inl hk)).1 (h3 k (Or.inl hk)).2), h2.same (fun k hk => hs k (h3 k (Or.inr hk)).1 (h3 k (Or.inr hk)).2), h3, h4⟩
theorem StF.keep {lo hi m : Nat} {w w' : World} {v : Value} {bss oss : List (List Int)} (h : StF lo hi w v bss oss) (hb : Below m w w') (hm : hi ≤ m) : StF lo hi w' v bss oss := h.same (fun k _ hk => hb.block k (by omega))
theorem StF.low {lo hi lo' hi' : Nat} {w : World} {v : Value} {bss oss : List (List Int)} (h : StF lo hi w v bss oss) (hl : lo' ≤ lo) (hh : hi ≤ hi') : StF lo' hi' w v bss oss := by
  obtain ⟨sv, ov, S1, S2, e, h1, h2, h3, h4⟩ := h
  exact ⟨sv, ov, S1, S2, e, h1, h2, fun k hk => by have := h3 k hk; omega, h4⟩
theorem StF.rd {lo hi : Nat} {w : World} {v : Value} {bss oss : List (List Int)} (h : StF lo hi w v bss oss) (hh : hi ≤ w.heap.size) : StRd w v bss oss := by
  obtain ⟨sv, ov, S1, S2, e, h1, h2, h3, h4⟩ := h
  exact ⟨sv, ov, e, h1.at (fun k hk => by have := h3 k (Or.inl hk); omega), h2.at (fun k hk => by have := h3 k (Or.inr hk); omega)⟩
theorem StF.zero (lo hi : Nat) (w : World) : StF lo hi w (.agg #[.slice none 0 0, .slice none 0 0]) [] [] :=
  ⟨_, _, fun _ => False, fun _ => False, rfl, SsF.nil _ _ _ _ _ _ (Nat.zero_le _), SsF.nil _ _ _ _ _ _ (Nat.zero_le _), fun k h => by simp at h, fun k h => by simp at h⟩
theorem StF.put {lo hi b o : Nat} {w : World} {v u : Value} {bss oss : List (List Int)} (h : StF lo hi w v bss oss) (hb : b < lo ∨ hi ≤ b) : StF lo hi (w.setCell ⟨b, o, none⟩ u) v bss oss := h.same (fun k k1 k2 => Below.heap_setCell _ _ _ _ (by show k ≠ b; omega))

/-- A state whose bytes are marks. -/
def StMk (w : World) (v : Value) (k : Int) (bss oss : List (List Int)) : Prop := StRd w v (marksL cntB k bss) (marksL cntB (k + tot bss) oss)

end Go.Proofs.YthgnefdefjannaaGreat
