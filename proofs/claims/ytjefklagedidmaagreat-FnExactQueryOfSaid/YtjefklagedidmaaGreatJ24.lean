import Derived.Test.YtjefklagedidmaaGreatJ23
import Derived.Test.YtjefklagedidmaaGreatVE
import Derived.Test.YtjefklagedidmaaGreatA2
import Derived.Test.YtjefklagedidmaaGreatA5
import Derived.Test.YtjefklagedidmaaGreatP5
import Derived.Deep.RegionHeld3
namespace Go.Proofs.YtjefklagedidmaaGreat
open Go.RowKit

/-- A box of three cells. -/
def Bx3 (w : World) (b : Nat) (t : TypeId) (c0 c1 c2 : Value) : Prop := w.rowIs b t 3 (fun j => [c0, c1, c2].getD j undef)
theorem Bx3.new (w : World) (t : TypeId) (c0 c1 c2 : Value) : Bx3 (w.alloc (.cells #[c0, c1, c2] t)) w.heap.size t c0 c1 c2 :=
  World.rowIs_alloc w #[c0, c1, c2] t _ (fun i hi => by
    match i, hi with
    | 0, _ => rfl
    | 1, _ => rfl
    | 2, _ => rfl)
theorem Bx3.below {w w' : World} {b m : Nat} {t : TypeId} {c0 c1 c2 : Value} (h : Bx3 w b t c0 c1 c2) (hb : Below m w w') (hm : b < m) : Bx3 w' b t c0 c1 c2 := World.rowIs.of_block h (hb.block b hm)
theorem Bx3.blk {w w' : World} {b : Nat} {t : TypeId} {c0 c1 c2 : Value} (h : Bx3 w b t c0 c1 c2) (e : w'.heap[b]? = w.heap[b]?) : Bx3 w' b t c0 c1 c2 := World.rowIs.of_block h e
theorem Bx3.facts {w : World} {b : Nat} {t : TypeId} {c0 c1 c2 : Value} (h : Bx3 w b t c0 c1 c2) : w.cell? ⟨b, 0, none⟩ = some c0 ∧ w.cell? ⟨b, 1, none⟩ = some c1 ∧ w.cell? ⟨b, 2, none⟩ = some c2 :=
  ⟨World.rowIs.cell h (i := 0) (by omega), World.rowIs.cell h (i := 1) (by omega), World.rowIs.cell h (i := 2) (by omega)⟩
theorem KRet.foot {w : World} {xs : List El} {e : Ending} {w' : World} (h : KRet w xs e w') : ∃ v rs, e = .returned v ∧ AnsK xs rs ∧ SsF mI 0 (Rng w.heap.size w'.heap.size) w' v rs ∧ Below w.heap.size w w' := by
  obtain ⟨v, ps, h1, h2, h3, h4⟩ := h
  refine ⟨v, _, h1, h2, h3.foot (by decide) ?_, h4⟩
  have := h2.sm.1
  rw [List.length_map] at this
  unfold maxLen
  omega
theorem ss_is {S : Nat → Prop} {w : World} {v : Value} {rs : List (List Int)} (h : SsF mI 0 S w v rs) : ∃ a c, v = .slice a rs.length c := by obtain ⟨a, c, e, -⟩ := h; exact ⟨a, c, e⟩
theorem el_is {S : Nat → Prop} {w : World} {v : Value} {xs : List El} (h : ElsF S w v xs) : ∃ a c, v = .slice a xs.length c := by obtain ⟨a, c, e, -⟩ := h; exact ⟨a, c, e⟩

end Go.Proofs.YtjefklagedidmaaGreat
