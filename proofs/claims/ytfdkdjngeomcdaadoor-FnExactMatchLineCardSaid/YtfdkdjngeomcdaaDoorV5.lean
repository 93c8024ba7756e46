import Derived.Test.YtfdkdjngeomcdaaDoorP13
namespace Go.Proofs.YtfdkdjngeomcdaaDoor
open Go.RowKit

def MkF (S : Nat → Prop) (w0 w : World) (k : Int) (xs : List El) (b off : Nat) (sv : Nat → Value) (T : Nat → Nat → Prop) (m : Nat) : Prop :=
  Free w b ∧ (∀ i : Nat, i < xs.length → El4 w b (off + i * 4) (mixE k xs m i) (sv i)) ∧ (∀ i : Nat, i < xs.length → SlF mI 0 (T i) w (sv i) (mixE k xs m i).set) ∧ ChgF S w0 w

theorem mkF_step {S : Nat → Prop} {w0 wr w1 : World} {k : Int} {xs : List El} {b off : Nat} {sv : Nat → Value} {T : Nat → Nat → Prop} {m : Nat} (h : MkF S w0 wr k xs b off sv T m) (hm : m < xs.length) (hS : S b)
    (h5 : ∀ i : Nat, i < xs.length → ∀ k, T i k → S k ∧ k ≠ b) (h6 : ∀ i j : Nat, i < xs.length → j < xs.length → i ≠ j → ∀ k, T i k → ¬ T j k) (K : Int) (hK : K = endE k (xs.take m)) (L : Int) (hL : L = (xs[m]?.getD dE).set.length)
    (hc : ChgF (T m) (wr.setCell ⟨b, off + m * 4, none⟩ (.int .i64 K)) w1) (hs : SlF mI 0 (T m) w1 (sv m) (cnts (K + 1) (xs[m]?.getD dE).set.length)) (w2 : World)
    (hw : w2 = (w1.setCell ⟨b, off + m * 4 + 2, none⟩ (.int .i64 (K + 1 + L))).setCell ⟨b, off + m * 4 + 3, none⟩ (.int .i64 (K + 2 + L))) : MkF S w0 w2 k xs b off sv T (m + 1) := by
  subst hw
  obtain ⟨hu, h4, h7, hch⟩ := h
  have eb : w1.heap[b]? = (wr.setCell ⟨b, off + m * 4, none⟩ (.int .i64 K)).heap[b]? := hc.block b (fun q => (h5 m hm b q).2 rfl)
  have hput : ∀ (w : World) (o : Nat) (u : Value) (j : Nat), j ≠ b → (w.setCell ⟨b, o, none⟩ u).heap[j]? = w.heap[j]? := fun w o u j hne => Below.heap_setCell _ _ _ _ (by exact hne)
  have hmark := marksE_get k xs m hm
  rw [← hK, ← hL] at hmark
  refine ⟨((hu.put.same eb).put).put, fun i hi => ?_, fun i hi => ?_, ?_⟩
  · by_cases e : i = m
    · subst e
      have q := h4 i hi
      unfold mixE at q ⊢
      rw [if_neg (by omega)] at q
      rw [if_pos (by omega), hmark]
      exact (((q.putK K).same eb).putM (K + 1 + L)).putX (K + 2 + L)
    · have q := h4 i hi
      have e2 : mixE k xs (m + 1) i = mixE k xs m i := by
        unfold mixE
        by_cases e3 : i < m
        · rw [if_pos e3, if_pos (by omega)]
        · rw [if_neg e3, if_neg (by omega)]
      rw [e2]
      exact (((q.put (by omega)).same eb).put (by omega)).put (by omega)
  · by_cases e : i = m
    · subst e
      unfold mixE
      rw [if_pos (by omega), hmark]
      exact hs.same (fun j hj => (hput _ _ _ j (h5 i hi j hj).2).trans (hput _ _ _ j (h5 i hi j hj).2))
    · have q := h7 i hi
      have e2 : mixE k xs (m + 1) i = mixE k xs m i := by
        unfold mixE
        by_cases e3 : i < m
        · rw [if_pos e3, if_pos (by omega)]
        · rw [if_neg e3, if_neg (by omega)]
      rw [e2]
      exact q.same (fun j hj => (hput _ _ _ j (h5 i hi j hj).2).trans ((hput _ _ _ j (h5 i hi j hj).2).trans ((hc.block j (h6 i m hi hm e j hj)).trans (hput _ _ _ j (h5 i hi j hj).2))))
  · exact (((hch.put hS _).trans (hc.mono (fun j hj => (h5 m hm j hj).1))).put hS _).put hS _

end Go.Proofs.YtfdkdjngeomcdaaDoor
