import Derived.Test.YtfdkdjngeomcdaaDoorV5
import Derived.Test.YtfdkdjngeomcdaaDoorP12
namespace Go.Proofs.YtfdkdjngeomcdaaDoor
open Go.RowKit

set_option maxHeartbeats 1000000 in
theorem toPattern_w (l r : Bool) (v : Value) (xs : List El) (w : World) (hv : ElsAt 0 w.heap.size w v xs) (hlen : xs.length ≤ 1048576) (hset : ∀ i : Nat, (xs[i]?.getD dE).set.length ≤ 1048576) :
    Calls Tryd.prog 6 #[.agg #[.bool l, .bool r, v]] w fun e w' => ∃ v', e = .returned (.agg #[.bool l, .bool r, v']) ∧ ElsF (Rng w.heap.size w'.heap.size) w' v' xs ∧ Below w.heap.size w w' := by
  obtain ⟨a, cap, rfl, -, -⟩ := id hv
  go_enter Tryd.func6, Tryd.ntmps6
  go_wp2_with fail
  refine (toOpS_w _ xs _ (by exact hv.below (below3 w _ _ _) (Nat.le_refl _)) hlen hset).mono ?_
  rintro e w1 ⟨v', rfl, hv', hb1⟩
  obtain ⟨hc1, hf1⟩ := bcell hb1
  simp only [sz_alloc] at hc1 hf1
  have hz := hb1.size
  simp only [sz_alloc] at hz
  have hf := hv'.foot
  rw [sz_alloc, sz_alloc, sz_alloc] at hf
  obtain ⟨a', cap', rfl⟩ : ∃ a c, v' = .slice a xs.length c := by obtain ⟨a, c, e, -⟩ := hv'; exact ⟨a, c, e⟩
  have HF := hide hf
  clear hf hv'
  go_wp2
  refine bodyPost_ret (v := .agg #[.bool l, .bool r, .slice a' xs.length cap']) (by simp [results, Tryd.results6, go_sem, hc1]) rfl ⟨_, rfl, ?_, ?_⟩
  · refine ((unhide HF).same (fun k hk => ?_)).mono (fun k hk => ⟨by have := hk.1; omega, by simp only [sz_put]; exact hk.2⟩)
    have := hk.1
    rw [Below.heap_setCell _ _ _ _ (by intro e; simp only at e; omega), Below.heap_setCell _ _ _ _ (by intro e; simp only at e; omega), Below.heap_setCell _ _ _ _ (by intro e; simp only at e; omega), Below.heap_setCell _ _ _ _ (by intro e; simp only at e; omega)]
  · have hb0 : Below w.heap.size w w1 := (below3 w _ _ _).trans (hb1.mono (by rw [sz_alloc, sz_alloc, sz_alloc]; omega))
    exact bput (bput (bput (bput hb0 (by omega) _) (by omega) _) (by omega) _) (by omega) _

/-- A box of three cells. -/
def Bx3 (w : World) (b : Nat) (t : TypeId) (c0 c1 c2 : Value) : Prop := w.rowIs b t 3 (fun j => [c0, c1, c2].getD j undef)
theorem Bx3.new (w : World) (t : TypeId) (c0 c1 c2 : Value) : Bx3 (w.alloc (.cells #[c0, c1, c2] t)) w.heap.size t c0 c1 c2 :=
  World.rowIs_alloc w #[c0, c1, c2] t _ (fun i hi => by
    match i, hi with
    | 0, _ => rfl
    | 1, _ => rfl
    | 2, _ => rfl)
theorem Bx3.below {w w' : World} {b m : Nat} {t : TypeId} {c0 c1 c2 : Value} (h : Bx3 w b t c0 c1 c2) (hb : Below m w w') (hm : b < m) : Bx3 w' b t c0 c1 c2 := World.rowIs.of_block h (hb.block b hm)
theorem Bx3.blk {w w' : World} {b : Nat} {t : TypeId} {c0 c1 c2 : Value} (h : Bx3 w b t c0 c1 c2) (e : w'.heap[b]? = w.heap[b]?) : Bx3 w' b t c0 c1 c2 := World.rowIs.of_block h e
theorem Bx3.facts {w : World} {b : Nat} {t : TypeId} {c0 c1 c2 : Value} (h : Bx3 w b t c0 c1 c2) : w.cell? ⟨b, 0, none⟩ = some c0 ∧ w.cell? ⟨b, 1, none⟩ = some c1 ∧ w.cell? ⟨b, 2, none⟩ = some c2 :=
  ⟨World.rowIs.cell h (i := 0) (by omega), World.rowIs.cell h (i := 1) (by omega), World.rowIs.cell h (i := 2) (by omega)⟩
theorem el_is {S : Nat → Prop} {w : World} {v : Value} {xs : List El} (h : ElsF S w v xs) : ∃ a c, v = .slice a xs.length c := by obtain ⟨a, c, e, -⟩ := h; exact ⟨a, c, e⟩

end Go.Proofs.YtfdkdjngeomcdaaDoor
