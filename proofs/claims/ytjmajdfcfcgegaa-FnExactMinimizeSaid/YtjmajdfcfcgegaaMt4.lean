import Derived.Test.YtjmajdfcfcgegaaMt3
import Derived.Test.YtjmajdfcfcgegaaPk6
import Derived.Test.YtjmajdfcfcgegaaMt4a
import Derived.Test.YtjmajdfcfcgegaaPk7
namespace Go.Proofs.Ytjmajdfcfcgegaa
open Go.RowKit

/-- The numbers' loop: what the keys are numbered by, and where the rows lie. -/
structure NbAt (w4 w : World) (mp nb n : Nat) (key : Nat → Nat) (ds ns fs : List Nat) (fv : Value) : Prop where
  num : NumAt 3 w mp (ds.map mN)
  nr : RowN w nb n (fun s => ns[s]?.getD 0)
  fo : w.ownsRow w4.heap.size 3 1 fv fs.length (fs.map mN)
  nl : NumL key ds ns fs
  fr : FrO (fun k => k = mp ∨ k = nb ∨ w4.heap.size ≤ k) w4 w
  lt : mp < w4.heap.size ∧ nb < w4.heap.size ∧ mp ≠ nb
theorem NbAt.fl {w4 w : World} {mp nb n : Nat} {key : Nat → Nat} {ds ns fs : List Nat} {fv : Value} (h : NbAt w4 w mp nb n key ds ns fs fv) : ds.length ≤ ns.length := by
  have := h.nl.num1
  refine Nat.le_of_not_lt fun hlt => ?_
  have h1 : ((List.range ds.length).map (fun j => fs[j]?.getD 0)).Nodup := by
    rw [List.nodup_iff_pairwise_ne, List.pairwise_map]
    refine (List.nodup_range (n := ds.length)).imp_of_mem (fun {a b} ha hb hne he => hne ?_)
    have ha := List.mem_range.1 ha
    have hb := List.mem_range.1 hb
    rw [← (h.nl.fr a ha).2, ← (h.nl.fr b hb).2, he]
  have h2 := nodup_le ns.length _ h1 (fun x hx => by
    obtain ⟨a, ha, rfl⟩ := List.mem_map.1 hx
    exact (h.nl.fr a (List.mem_range.1 ha)).1)
  simp at h2
  omega
/-- The table in the making: its box, its two rows. -/
structure OtAt (w5 w : World) (c : Nat) (cl kv nv av : Value) (ys : List Nat) (zs : List Bool) : Prop where
  out : Row4 w c 27 cl kv nv av
  on : w.ownsRow w5.heap.size 3 1 nv ys.length (ys.map mN)
  oa : w.ownsRow w5.heap.size 4 1 av zs.length (zs.map mT)
  na : ∀ r, nv.ownBlock = some r → av.ownBlock ≠ some r
  fr : FrO (OneB w5 c) w5 w
  lt : c < w5.heap.size
theorem OtAt.keep {w5 w w' : World} {c : Nat} {cl kv nv av : Value} {ys : List Nat} {zs : List Bool} (h : OtAt w5 w c cl kv nv av ys zs) (hb : Below w.heap.size w w') : OtAt w5 w' c cl kv nv av ys zs :=
  have hz := h.fr.size
  ⟨h.out.below hb (by have := h.lt; omega), own_blk h.on (fun r hr => hb.block r (own_lt h.on r hr)), own_blk h.oa (fun r hr => hb.block r (own_lt h.oa r hr)), h.na, h.fr.trans (fro_of hb (fun k hk => .inr (by omega))), h.lt⟩
theorem OtAt.pushN {w5 w W w2 : World} {c : Nat} {cl kv nv av v' : Value} {ys : List Nat} {zs : List Bool} {x : Nat} (h : OtAt w5 w c cl kv nv av ys zs) (hW : Below w.heap.size w W) (r1 : w2.ownsRow w5.heap.size 3 1 v' (ys ++ [x]).length ((ys ++ [x]).map mN)) (r2 : W.grownBy w2 nv.ownBlock) (r3 : ∀ q, v'.ownBlock = some q → nv.ownBlock = some q ∨ w.heap.size ≤ q) :
    w2.cell? ⟨c, 2, none⟩ = some nv ∧ w2.frozen? ⟨c, 2, none⟩ = false ∧ OtAt w5 (w2.setCell ⟨c, 2, none⟩ v') c cl kv v' av (ys ++ [x]) zs := by
  have hz := h.fr.size
  have hlt := h.lt
  have k2 := grown_old hW r2
  have hzW := hW.size
  have hz2 := r2.size
  have nq : ∀ k, k < w5.heap.size → nv.ownBlock ≠ some k := fun k hk e => by have := (h.on.lt k e).1; omega
  have ho2 : Row4 w2 c 27 cl kv nv av := World.rowIs.of_block h.out (k2 _ (by omega) (nq _ (by omega)))
  have ks : ∀ k, k ≠ c → (w2.setCell ⟨c, 2, none⟩ v').heap[k]? = w2.heap[k]? := fun k hk => Below.heap_setCell _ _ _ _ (by show k ≠ c; exact hk)
  refine ⟨ho2.facts.2.2.1, World.rowIs.frozen ho2 2, ho2.put2, own_blk r1 (fun r hr => ks r (by have := (r1.lt r hr).1; omega)), own_blk h.oa (fun r hr => ?_), fun r hr => ?_, ⟨r2.os.trans (hW.os.trans h.fr.os), r2.tape.trans (hW.tape.trans h.fr.tape), r2.output.trans (hW.output.trans h.fr.output), by rw [sz_put]; omega, fun k hk => ?_⟩, hlt⟩
  · have := h.oa.lt r hr
    rw [ks r (by omega)]
    exact k2 r this.2 (fun e => h.na r e hr)
  · rcases r3 r hr with e | e
    · exact h.na r e
    · exact fun e2 => by have := own_lt h.oa r e2; omega
  · have k1 : k ≠ c := fun e => hk (.inl e)
    have k3 : k < w5.heap.size := Nat.lt_of_not_le fun e => hk (.inr e)
    rw [ks k k1, k2 k (by omega) (nq k k3)]
    exact h.fr.block k hk
theorem OtAt.pushA {w5 w W w2 : World} {c : Nat} {cl kv nv av v' : Value} {ys : List Nat} {zs : List Bool} {x : Bool} (h : OtAt w5 w c cl kv nv av ys zs) (hW : Below w.heap.size w W) (r1 : w2.ownsRow w5.heap.size 4 1 v' (zs ++ [x]).length ((zs ++ [x]).map mT)) (r2 : W.grownBy w2 av.ownBlock) (r3 : ∀ q, v'.ownBlock = some q → av.ownBlock = some q ∨ w.heap.size ≤ q) :
    w2.cell? ⟨c, 3, none⟩ = some av ∧ w2.frozen? ⟨c, 3, none⟩ = false ∧ OtAt w5 (w2.setCell ⟨c, 3, none⟩ v') c cl kv nv v' ys (zs ++ [x]) := by
  have hz := h.fr.size
  have hlt := h.lt
  have k2 := grown_old hW r2
  have hzW := hW.size
  have hz2 := r2.size
  have nq : ∀ k, k < w5.heap.size → av.ownBlock ≠ some k := fun k hk e => by have := (h.oa.lt k e).1; omega
  have ho2 : Row4 w2 c 27 cl kv nv av := World.rowIs.of_block h.out (k2 _ (by omega) (nq _ (by omega)))
  have ks : ∀ k, k ≠ c → (w2.setCell ⟨c, 3, none⟩ v').heap[k]? = w2.heap[k]? := fun k hk => Below.heap_setCell _ _ _ _ (by show k ≠ c; exact hk)
  refine ⟨ho2.facts.2.2.2.1, World.rowIs.frozen ho2 3, ho2.put3', own_blk h.on (fun r hr => ?_), own_blk r1 (fun r hr => ks r (by have := (r1.lt r hr).1; omega)), fun r hr e2 => ?_, ⟨r2.os.trans (hW.os.trans h.fr.os), r2.tape.trans (hW.tape.trans h.fr.tape), r2.output.trans (hW.output.trans h.fr.output), by rw [sz_put]; omega, fun k hk => ?_⟩, hlt⟩
  · have := h.on.lt r hr
    rw [ks r (by omega)]
    exact k2 r this.2 (fun e => h.na r hr e)
  · rcases r3 r e2 with e | e
    · exact h.na r hr e
    · have := own_lt h.on r hr; omega
  · have k1 : k ≠ c := fun e => hk (.inl e)
    have k3 : k < w5.heap.size := Nat.lt_of_not_le fun e => hk (.inr e)
    rw [ks k k1, k2 k (by omega) (nq k k3)]
    exact h.fr.block k hk

end Go.Proofs.Ytjmajdfcfcgegaa
