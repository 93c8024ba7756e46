import Derived.Test.YtkajdhliejjohaaI15
namespace Go.Proofs.Ytkajdhliejjohaa
open Go.RowKit

/-- All four cells of a box. -/
theorem Row4.all {w : World} {b : Nat} {t : TypeId} {c0 c1 c2 c3 : Value} (h : Row4 w b t c0 c1 c2 c3) (d0 d1 d2 d3 : Value) : Row4 ((((w.setCell ⟨b, 0, none⟩ d0).setCell ⟨b, 1, none⟩ d1).setCell ⟨b, 2, none⟩ d2).setCell ⟨b, 3, none⟩ d3) b t d0 d1 d2 d3 := h.put0.put1.put2.put3
theorem bput4 {m b : Nat} {w w' : World} (h : Below m w w') (hb : m ≤ b) (d0 d1 d2 d3 : Value) : Below m w ((((w'.setCell ⟨b, 0, none⟩ d0).setCell ⟨b, 1, none⟩ d1).setCell ⟨b, 2, none⟩ d2).setCell ⟨b, 3, none⟩ d3) := bput (bput (bput (bput h hb _) hb _) hb _) hb _
theorem SegF.put4 {lo hi b : Nat} {w : World} {v : Value} {base : Int} {xss pss : List (List Int)} {ks : List Int} (h : SegF lo hi w v base xss ks pss) (hb : b < lo) (d0 d1 d2 d3 : Value) : SegF lo hi ((((w.setCell ⟨b, 0, none⟩ d0).setCell ⟨b, 1, none⟩ d1).setCell ⟨b, 2, none⟩ d2).setCell ⟨b, 3, none⟩ d3) v base xss ks pss := (((h.put hb).put hb).put hb).put hb
theorem sz_put4 (b : Nat) (w : World) (d0 d1 d2 d3 : Value) : ((((w.setCell ⟨b, 0, none⟩ d0).setCell ⟨b, 1, none⟩ d1).setCell ⟨b, 2, none⟩ d2).setCell ⟨b, 3, none⟩ d3).heap.size = w.heap.size := by simp only [sz_put]
theorem SegAt.put4 {lo b : Nat} {w : World} {v : Value} {base : Int} {xss pss : List (List Int)} {ks : List Int} (h : SegAt lo w v base xss ks pss) (hb : b < lo) (d0 d1 d2 d3 : Value) : SegAt lo ((((w.setCell ⟨b, 0, none⟩ d0).setCell ⟨b, 1, none⟩ d1).setCell ⟨b, 2, none⟩ d2).setCell ⟨b, 3, none⟩ d3) v base xss ks pss := (((h.put hb).put hb).put hb).put hb

/-- Cells of a box that are written one by one. -/
theorem SegF.mk3 {w1 w2 w3 : World} {lo : Nat} {base : Int} {v1 v2 v3 : Value} {xss pss : List (List Int)} {ks : List Int} (h1 : SsF mB 0 (Rng lo w1.heap.size) w3 v1 xss) (h2 : SlF mI 0 (Rng w1.heap.size w2.heap.size) w3 v2 ks) (h3 : SsF mI 0 (Rng w2.heap.size w3.heap.size) w3 v3 pss) (z1 : w1.heap.size ≤ w2.heap.size) (z2 : w2.heap.size ≤ w3.heap.size) (z0 : lo ≤ w1.heap.size) : SegF lo w3.heap.size w3 (.agg #[.int .i64 base, v1, v2, v3]) base xss ks pss := by
  refine ⟨v1, v2, v3, _, _, _, rfl, h1, h2, h3, fun k hk => ?_, fun k hk => ⟨fun h => ?_, fun h => ?_⟩, fun k hk h => ?_⟩ <;> unfold Rng at * <;> omega

theorem SsF.putR {α : Type} {mk : α → Value} {d : α} {lo n b o : Nat} {w : World} {v u : Value} {xss : List (List α)} (h : SsF mk d (Rng lo n) w v xss) (hb : b < lo ∨ n ≤ b) : SsF mk d (Rng lo n) (w.setCell ⟨b, o, none⟩ u) v xss := h.same (fun k hk => Below.heap_setCell _ _ _ _ (by unfold Rng at hk; show k ≠ b; omega))
theorem SlF.putR {α : Type} {mk : α → Value} {d : α} {lo n b o : Nat} {w : World} {v u : Value} {xs : List α} (h : SlF mk d (Rng lo n) w v xs) (hb : b < lo ∨ n ≤ b) : SlF mk d (Rng lo n) (w.setCell ⟨b, o, none⟩ u) v xs := h.same (fun k hk => Below.heap_setCell _ _ _ _ (by unfold Rng at hk; show k ≠ b; omega))
theorem SlF.keepR {α : Type} {mk : α → Value} {d : α} {lo n m : Nat} {w w' : World} {v : Value} {xs : List α} (h : SlF mk d (Rng lo n) w v xs) (hb : Below m w w') (hn : n ≤ m) : SlF mk d (Rng lo n) w' v xs := h.same (fun k hk => hb.block k (by unfold Rng at hk; omega))

end Go.Proofs.Ytkajdhliejjohaa
