import Derived.Test.YtinhliecfjlocaaGreatX3
namespace Go.Proofs.YtinhliecfjlocaaGreat
open Go.RowKit
structure Nice (xs : List El) : Prop where
  num : Num xs
  len : ∀ i : Nat, (xs[i]?.getD dE).set.length ≤ 1048576
theorem Nice.nil : Nice [] := ⟨fun i => by simp [dE, In64], fun i => by simp [dE]⟩
theorem Nice.app {a b : List El} (ha : Nice a) (hb : Nice b) : Nice (a ++ b) := by
  refine ⟨fun i => ?_, fun i => ?_⟩
  · by_cases h : i < a.length
    · rw [List.getElem?_append_left h]; exact ha.num i
    · rw [List.getElem?_append_right (by omega)]; exact hb.num _
  · by_cases h : i < a.length
    · rw [List.getElem?_append_left h]; exact ha.len i
    · rw [List.getElem?_append_right (by omega)]; exact hb.len _
theorem Nice.op (k mn mx : Int) (h1 : In64 k) (h2 : In64 mn) (h3 : In64 mx) : Nice [⟨k, [], mn, mx⟩] := by
  refine ⟨fun i => ?_, fun i => ?_⟩
  · cases i with
    | zero => exact ⟨h1, h2, h3, fun j => by simp [In64]⟩
    | succ i => simp [dE, In64]
  · cases i with
    | zero => simp
    | succ i => simp [dE]
theorem GrowE.els {base : Nat} {w : World} {v : Value} {xs : List El} (h : GrowE base w v xs) (hn : Nice xs) : ElsAt 0 w.heap.size w v xs := h.foot.at (fun _ hk => hk.2) hn.num
end Go.Proofs.YtinhliecfjlocaaGreat
