import Derived.Test.YtjmajdfcfcgegaaPk7
import Derived.Test.YtjmajdfcfcgegaaMu2b
namespace Go.Proofs.Ytjmajdfcfcgegaa
open Go.RowKit

/-- The table in the making: its box, its classes, its ways. -/
structure CtAt (w5 w : World) (c : Nat) (kv av xv nv : Value) (xs ys : List Nat) : Prop where
  out : Row4 w c 27 xv kv nv av
  ox : w.ownsRow w5.heap.size 3 1 xv xs.length (xs.map mN)
  on : w.ownsRow w5.heap.size 3 1 nv ys.length (ys.map mN)
  na : ∀ r, xv.ownBlock = some r → nv.ownBlock ≠ some r
  fr : FrO (OneB w5 c) w5 w
  lt : c < w5.heap.size
theorem CtAt.keep {w5 w w' : World} {c : Nat} {kv av xv nv : Value} {xs ys : List Nat} (h : CtAt w5 w c kv av xv nv xs ys) (hb : Below w.heap.size w w') : CtAt w5 w' c kv av xv nv xs ys :=
  have hz := h.fr.size
  ⟨h.out.below hb (by have := h.lt; omega), own_blk h.ox (fun r hr => hb.block r (own_lt h.ox r hr)), own_blk h.on (fun r hr => hb.block r (own_lt h.on r hr)), h.na, h.fr.trans (fro_of hb (fun k hk => .inr (by omega))), h.lt⟩
theorem CtAt.pushN {w5 w W w2 : World} {c : Nat} {kv av xv nv v' : Value} {xs ys : List Nat} {x : Nat} (h : CtAt w5 w c kv av xv nv xs ys) (hW : Below w.heap.size w W) (r1 : w2.ownsRow w5.heap.size 3 1 v' (ys ++ [x]).length ((ys ++ [x]).map mN)) (r2 : W.grownBy w2 nv.ownBlock) (r3 : ∀ q, v'.ownBlock = some q → nv.ownBlock = some q ∨ w.heap.size ≤ q) :
    w2.cell? ⟨c, 2, none⟩ = some nv ∧ w2.frozen? ⟨c, 2, none⟩ = false ∧ CtAt w5 (w2.setCell ⟨c, 2, none⟩ v') c kv av xv v' xs (ys ++ [x]) := by
  have hz := h.fr.size
  have hlt := h.lt
  have k2 := grown_old hW r2
  have hzW := hW.size
  have hz2 := r2.size
  have nq : ∀ k, k < w5.heap.size → nv.ownBlock ≠ some k := fun k hk e => by have := (h.on.lt k e).1; omega
  have ho2 : Row4 w2 c 27 xv kv nv av := World.rowIs.of_block h.out (k2 _ (by omega) (nq _ (by omega)))
  have ks : ∀ k, k ≠ c → (w2.setCell ⟨c, 2, none⟩ v').heap[k]? = w2.heap[k]? := fun k hk => Below.heap_setCell _ _ _ _ (by show k ≠ c; exact hk)
  refine ⟨ho2.facts.2.2.1, World.rowIs.frozen ho2 2, ho2.put2, own_blk h.ox (fun r hr => ?_), own_blk r1 (fun r hr => ks r (by have := (r1.lt r hr).1; omega)), fun r hr e2 => ?_, ⟨r2.os.trans (hW.os.trans h.fr.os), r2.tape.trans (hW.tape.trans h.fr.tape), r2.output.trans (hW.output.trans h.fr.output), by rw [sz_put]; omega, fun k hk => ?_⟩, hlt⟩
  · have := h.ox.lt r hr
    rw [ks r (by omega)]
    exact k2 r this.2 (fun e => h.na r hr e)
  · rcases r3 r e2 with e | e
    · exact h.na r hr e
    · have := own_lt h.ox r hr; omega
  · have k1 : k ≠ c := fun e => hk (.inl e)
    have k3 : k < w5.heap.size := Nat.lt_of_not_le fun e => hk (.inr e)
    rw [ks k k1, k2 k (by omega) (nq k k3)]
    exact h.fr.block k hk
theorem CtAt.pushX {w5 w W w2 : World} {c : Nat} {kv av xv nv v' : Value} {xs ys : List Nat} {x : Nat} (h : CtAt w5 w c kv av xv nv xs ys) (hW : Below w.heap.size w W) (r1 : w2.ownsRow w5.heap.size 3 1 v' (xs ++ [x]).length ((xs ++ [x]).map mN)) (r2 : W.grownBy w2 xv.ownBlock) (r3 : ∀ q, v'.ownBlock = some q → xv.ownBlock = some q ∨ w.heap.size ≤ q) :
    w2.cell? ⟨c, 0, none⟩ = some xv ∧ w2.frozen? ⟨c, 0, none⟩ = false ∧ CtAt w5 (w2.setCell ⟨c, 0, none⟩ v') c kv av v' nv (xs ++ [x]) ys := by
  have hz := h.fr.size
  have hlt := h.lt
  have k2 := grown_old hW r2
  have hzW := hW.size
  have hz2 := r2.size
  have nq : ∀ k, k < w5.heap.size → xv.ownBlock ≠ some k := fun k hk e => by have := (h.ox.lt k e).1; omega
  have ho2 : Row4 w2 c 27 xv kv nv av := World.rowIs.of_block h.out (k2 _ (by omega) (nq _ (by omega)))
  have ks : ∀ k, k ≠ c → (w2.setCell ⟨c, 0, none⟩ v').heap[k]? = w2.heap[k]? := fun k hk => Below.heap_setCell _ _ _ _ (by show k ≠ c; exact hk)
  refine ⟨ho2.facts.1, World.rowIs.frozen ho2 0, ho2.put0, own_blk r1 (fun r hr => ks r (by have := (r1.lt r hr).1; omega)), own_blk h.on (fun r hr => ?_), fun r hr => ?_, ⟨r2.os.trans (hW.os.trans h.fr.os), r2.tape.trans (hW.tape.trans h.fr.tape), r2.output.trans (hW.output.trans h.fr.output), by rw [sz_put]; omega, fun k hk => ?_⟩, hlt⟩
  · have := h.on.lt r hr
    rw [ks r (by omega)]
    exact k2 r this.2 (fun e => h.na r e hr)
  · rcases r3 r hr with e | e
    · exact h.na r e
    · exact fun e2 => by have := own_lt h.on r e2; omega
  · have k1 : k ≠ c := fun e => hk (.inl e)
    have k3 : k < w5.heap.size := Nat.lt_of_not_le fun e => hk (.inr e)
    rw [ks k k1, k2 k (by omega) (nq k k3)]
    exact h.fr.block k hk
/-- The cells of the table with its classes merged. -/
def mcX (A : Tb) (mg : Nat → Nat) (l : Nat) : List Nat := (List.range l).map (fun b => mg (A.cl b))
def mcY (A : Tb) (G : Nat → Nat) (m l : Nat) : List Nat := (List.range l).map (fun t => A.nx (t / m) (G (t % m)))
theorem mcX_next (A : Tb) (mg : Nat → Nat) (l : Nat) : mcX A mg (l + 1) = mcX A mg l ++ [mg (A.cl l)] := by simp [mcX, List.range_succ]
theorem mcY_next (A : Tb) (G : Nat → Nat) {m q e : Nat} (he : e < m) : mcY A G m (q * m + (e + 1)) = mcY A G m (q * m + e) ++ [A.nx q (G e)] := by
  unfold mcY
  rw [← Nat.add_assoc, List.range_succ, List.map_append, List.map_singleton, (row_at he).1, (row_at he).2]
theorem mcX_len (A : Tb) (mg : Nat → Nat) (l : Nat) : (mcX A mg l).length = l := by simp [mcX]
theorem mcY_len (A : Tb) (G : Nat → Nat) (m l : Nat) : (mcY A G m l).length = l := by simp [mcY]

end Go.Proofs.Ytjmajdfcfcgegaa
