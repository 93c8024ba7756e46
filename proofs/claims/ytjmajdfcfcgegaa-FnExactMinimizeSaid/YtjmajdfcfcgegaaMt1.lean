import Derived.Test.YtjmajdfcfcgegaaMs3
import Derived.Test.YtjmajdfcfcgegaaPk4
namespace Go.Proofs.Ytjmajdfcfcgegaa
open Go.RowKit

/-- The search for the states that are reached: b0 the first of its boxes. -/
structure RcAt (w0 w : World) (b0 : Nat) (cl nx ac : Value) (k : Nat) (ks o : List Nat) (tk : Nat) (ys : List Nat) (zs : List Bool) (qv nv av : Value) : Prop where
  eb : b0 = w0.heap.size
  d : Row4 w b0 27 cl (.int .i64 (k : Nat)) nx ac
  res : ∃ F, w.rowIs (b0 + 1) 27 4 F
  out : Row4 w (b0 + 2) 27 cl (.int .i64 (k : Nat)) nv av
  num : NumAt 3 w (b0 + 4) (ks.map mN)
  kb : w.rowIs (b0 + 5) 54 1 (fun _ => .map (some (b0 + 4)))
  q : w.rowIs (b0 + 6) 58 2 (fun j => [qv, .int .i64 (tk : Nat)].getD j undef)
  oq : w.ownsRow (b0 + 7) 3 1 qv o.length (o.map mN)
  on : w.ownsRow (b0 + 7) 3 1 nv ys.length (ys.map mN)
  oa : w.ownsRow (b0 + 7) 4 1 av zs.length (zs.map mT)
  qn : ∀ r, qv.ownBlock = some r → nv.ownBlock ≠ some r ∧ av.ownBlock ≠ some r
  na : ∀ r, nv.ownBlock = some r → av.ownBlock ≠ some r
  bl : Below b0 w0 w
  sz : b0 + 7 ≤ w.heap.size
section
variable {w0 w w' : World} {b0 : Nat} {cl nx ac : Value} {k : Nat} {ks o : List Nat} {tk : Nat} {ys : List Nat} {zs : List Bool} {qv nv av : Value}
theorem Row4.put3' {w : World} {b : Nat} {t : TypeId} {c0 c1 c2 c3 u : Value} (h : Row4 w b t c0 c1 c2 c3) : Row4 (w.setCell ⟨b, 3, none⟩ u) b t c0 c1 c2 u := (World.rowIs.set h 3 u).congr (fun j hj => by
  match j, hj with
  | 0, _ => rfl
  | 1, _ => rfl
  | 2, _ => rfl
  | 3, _ => rfl)
theorem row2_put1 {W : World} {b : Nat} {t : TypeId} {x y u : Value} (h : W.rowIs b t 2 (fun j => [x, y].getD j undef)) : (W.setCell ⟨b, 1, none⟩ u).rowIs b t 2 (fun j => [x, u].getD j undef) := (h.set 1 u).congr (fun j hj => by
  match j, hj with
  | 0, _ => rfl
  | 1, _ => rfl)
theorem row2_put0 {W : World} {b : Nat} {t : TypeId} {x y u : Value} (h : W.rowIs b t 2 (fun j => [x, y].getD j undef)) : (W.setCell ⟨b, 0, none⟩ u).rowIs b t 2 (fun j => [u, y].getD j undef) := (h.set 0 u).congr (fun j hj => by
  match j, hj with
  | 0, _ => rfl
  | 1, _ => rfl)
theorem RcAt.keep (h : RcAt w0 w b0 cl nx ac k ks o tk ys zs qv nv av) (hb : Below w.heap.size w w') : RcAt w0 w' b0 cl nx ac k ks o tk ys zs qv nv av := by
  have hz := h.sz
  have e : ∀ k, k < w.heap.size → w'.heap[k]? = w.heap[k]? := fun k hk => hb.block k hk
  obtain ⟨F, hF⟩ := h.res
  exact ⟨h.eb, World.rowIs.of_block h.d (e _ (by omega)), ⟨F, hF.of_block (e _ (by omega))⟩, World.rowIs.of_block h.out (e _ (by omega)), h.num.keep (e _ (by omega)), h.kb.of_block (e _ (by omega)), h.q.of_block (e _ (by omega)), own_blk h.oq (fun r hr => e r (own_lt h.oq r hr)), own_blk h.on (fun r hr => e r (own_lt h.on r hr)), own_blk h.oa (fun r hr => e r (own_lt h.oa r hr)), h.qn, h.na, h.bl.trans (hb.mono (by omega)), by have := hb.size; omega⟩
/-- A key was looked up. -/
theorem RcAt.looked {ks' : List Nat} (h : RcAt w0 w b0 cl nx ac k ks o tk ys zs qv nv av) (hf : FrO (OneB w (b0 + 4)) w w') (hn : NumAt 3 w' (b0 + 4) (ks'.map mN)) : RcAt w0 w' b0 cl nx ac k ks' o tk ys zs qv nv av := by
  have hz := h.sz
  have e : ∀ k, k < w.heap.size → k ≠ b0 + 4 → w'.heap[k]? = w.heap[k]? := fun k hk hne => hf.block k (by rintro (h1 | h1) <;> omega)
  obtain ⟨F, hF⟩ := h.res
  exact ⟨h.eb, World.rowIs.of_block h.d (e _ (by omega) (by omega)), ⟨F, hF.of_block (e _ (by omega) (by omega))⟩, World.rowIs.of_block h.out (e _ (by omega) (by omega)), hn, h.kb.of_block (e _ (by omega) (by omega)), h.q.of_block (e _ (by omega) (by omega)), own_blk h.oq (fun r hr => e r (own_lt h.oq r hr) (by have := (h.oq.lt r hr).1; omega)), own_blk h.on (fun r hr => e r (own_lt h.on r hr) (by have := (h.on.lt r hr).1; omega)), own_blk h.oa (fun r hr => e r (own_lt h.oa r hr) (by have := (h.oa.lt r hr).1; omega)), h.qn, h.na, ⟨hf.os.trans h.bl.os, hf.tape.trans h.bl.tape, hf.output.trans h.bl.output, Nat.le_trans h.bl.size hf.size, fun k hk => (e k (by have := h.bl.size; have := h.eb; omega) (by omega)).trans (h.bl.block k hk)⟩, by have := hf.size; omega⟩
/-- One cell of one box. -/
theorem RcAt.popd (h : RcAt w0 w b0 cl nx ac k ks o tk ys zs qv nv av) (q : Nat) : RcAt w0 ((w.drewN q).setCell ⟨b0 + 6, 1, none⟩ (.int .i64 ((tk : Int) + 1))) b0 cl nx ac k ks o (tk + 1) ys zs qv nv av := by
  have hz := h.sz
  have e : ∀ k, k ≠ b0 + 6 → ((w.drewN q).setCell ⟨b0 + 6, 1, none⟩ (.int .i64 ((tk : Int) + 1))).heap[k]? = w.heap[k]? := fun k hk => Below.heap_setCell _ _ _ _ (by show k ≠ b0 + 6; exact hk)
  obtain ⟨F, hF⟩ := h.res
  refine ⟨h.eb, World.rowIs.of_block h.d (e _ (by omega)), ⟨F, hF.of_block (e _ (by omega))⟩, World.rowIs.of_block h.out (e _ (by omega)), h.num.keep (e _ (by omega)), h.kb.of_block (e _ (by omega)), ?_, own_blk h.oq (fun r hr => e r (by have := (h.oq.lt r hr).1; omega)), own_blk h.on (fun r hr => e r (by have := (h.on.lt r hr).1; omega)), own_blk h.oa (fun r hr => e r (by have := (h.oa.lt r hr).1; omega)), h.qn, h.na, ⟨h.bl.os, h.bl.tape, h.bl.output, by rw [sz_put]; exact h.bl.size, fun k hk => (e k (by omega)).trans (h.bl.block k hk)⟩, by rw [sz_put]; exact hz⟩
  exact row2_put1 (W := w.drewN q) (h.q.of_block rfl)
theorem grown_old {W w2 : World} {v : Value} (hW : Below w.heap.size w W) (r2 : W.grownBy w2 v.ownBlock) : ∀ k, k < w.heap.size → v.ownBlock ≠ some k → w2.heap[k]? = w.heap[k]? := fun k hk hne => (r2.block k (by have := hW.size; omega) (fun e => hne e.symm)).trans (hW.block k hk)
/-- One more in the queue. -/
theorem RcAt.pushQ {W w2 : World} {v' : Value} {x : Nat} (h : RcAt w0 w b0 cl nx ac k ks o tk ys zs qv nv av) (hW : Below w.heap.size w W) (r1 : w2.ownsRow (b0 + 7) 3 1 v' (o ++ [x]).length ((o ++ [x]).map mN)) (r2 : W.grownBy w2 qv.ownBlock) (r3 : ∀ q, v'.ownBlock = some q → qv.ownBlock = some q ∨ w.heap.size ≤ q) :
    RcAt w0 (w2.setCell ⟨b0 + 6, 0, none⟩ v') b0 cl nx ac k ks (o ++ [x]) tk ys zs v' nv av := by
  have hz := h.sz
  have hz2 := r2.size
  have hzW := hW.size
  have k2 := grown_old hW r2
  have nq : ∀ k, k < b0 + 7 → qv.ownBlock ≠ some k := fun k hk e => by have := (h.oq.lt k e).1; omega
  have e : ∀ k, k < w.heap.size → k ≠ b0 + 6 → qv.ownBlock ≠ some k → (w2.setCell ⟨b0 + 6, 0, none⟩ v').heap[k]? = w.heap[k]? := fun k hk hne hq => (Below.heap_setCell _ _ _ _ (by show k ≠ b0 + 6; exact hne)).trans (k2 k hk hq)
  have lo : ∀ k, k < b0 + 7 → k ≠ b0 + 6 → (w2.setCell ⟨b0 + 6, 0, none⟩ v').heap[k]? = w.heap[k]? := fun k hk hne => e k (by omega) hne (nq k hk)
  obtain ⟨F, hF⟩ := h.res
  refine ⟨h.eb, World.rowIs.of_block h.d (lo _ (by omega) (by omega)), ⟨F, hF.of_block (lo _ (by omega) (by omega))⟩, World.rowIs.of_block h.out (lo _ (by omega) (by omega)), h.num.keep (lo _ (by omega) (by omega)), h.kb.of_block (lo _ (by omega) (by omega)), row2_put0 (h.q.of_block (k2 _ (by omega) (nq _ (by omega)))), own_blk r1 (fun r hr => Below.heap_setCell _ _ _ _ (by show r ≠ b0 + 6; have := (r1.lt r hr).1; omega)), own_blk h.on (fun r hr => e r (own_lt h.on r hr) (by have := (h.on.lt r hr).1; omega) (fun e2 => (h.qn r e2).1 hr)), own_blk h.oa (fun r hr => e r (own_lt h.oa r hr) (by have := (h.oa.lt r hr).1; omega) (fun e2 => (h.qn r e2).2 hr)), fun r hr => ?_, h.na, ⟨r2.os.trans (hW.os.trans h.bl.os), r2.tape.trans (hW.tape.trans h.bl.tape), r2.output.trans (hW.output.trans h.bl.output), by rw [sz_put]; have := h.bl.size; omega, fun k hk => (lo k (by omega) (by omega)).trans (h.bl.block k hk)⟩, by rw [sz_put]; omega⟩
  rcases r3 r hr with e2 | e2
  · exact h.qn r e2
  · exact ⟨fun e3 => by have := own_lt h.on r e3; omega, fun e3 => by have := own_lt h.oa r e3; omega⟩
/-- One more way. -/
theorem RcAt.pushN {W w2 : World} {v' : Value} {x : Nat} (h : RcAt w0 w b0 cl nx ac k ks o tk ys zs qv nv av) (hW : Below w.heap.size w W) (r1 : w2.ownsRow (b0 + 7) 3 1 v' (ys ++ [x]).length ((ys ++ [x]).map mN)) (r2 : W.grownBy w2 nv.ownBlock) (r3 : ∀ q, v'.ownBlock = some q → nv.ownBlock = some q ∨ w.heap.size ≤ q) :
    w2.cell? ⟨b0 + 2, 2, none⟩ = some nv ∧ w2.frozen? ⟨b0 + 2, 2, none⟩ = false ∧ RcAt w0 (w2.setCell ⟨b0 + 2, 2, none⟩ v') b0 cl nx ac k ks o tk (ys ++ [x]) zs qv v' av := by
  have hz := h.sz
  have hz2 := r2.size
  have hzW := hW.size
  have k2 := grown_old hW r2
  have nq : ∀ k, k < b0 + 7 → nv.ownBlock ≠ some k := fun k hk e => by have := (h.on.lt k e).1; omega
  have e : ∀ k, k < w.heap.size → k ≠ b0 + 2 → nv.ownBlock ≠ some k → (w2.setCell ⟨b0 + 2, 2, none⟩ v').heap[k]? = w.heap[k]? := fun k hk hne hq => (Below.heap_setCell _ _ _ _ (by show k ≠ b0 + 2; exact hne)).trans (k2 k hk hq)
  have lo : ∀ k, k < b0 + 7 → k ≠ b0 + 2 → (w2.setCell ⟨b0 + 2, 2, none⟩ v').heap[k]? = w.heap[k]? := fun k hk hne => e k (by omega) hne (nq k hk)
  obtain ⟨F, hF⟩ := h.res
  have ho2 : Row4 w2 (b0 + 2) 27 cl (.int .i64 (k : Nat)) nv av := World.rowIs.of_block h.out (k2 _ (by omega) (nq _ (by omega)))
  refine ⟨ho2.facts.2.2.1, World.rowIs.frozen ho2 2, h.eb, World.rowIs.of_block h.d (lo _ (by omega) (by omega)), ⟨F, hF.of_block (lo _ (by omega) (by omega))⟩, ho2.put2, h.num.keep (lo _ (by omega) (by omega)), h.kb.of_block (lo _ (by omega) (by omega)), h.q.of_block (lo _ (by omega) (by omega)), own_blk h.oq (fun r hr => e r (own_lt h.oq r hr) (by have := (h.oq.lt r hr).1; omega) (fun e2 => (h.qn r hr).1 e2)), own_blk r1 (fun r hr => Below.heap_setCell _ _ _ _ (by show r ≠ b0 + 2; have := (r1.lt r hr).1; omega)), own_blk h.oa (fun r hr => e r (own_lt h.oa r hr) (by have := (h.oa.lt r hr).1; omega) (fun e2 => h.na r e2 hr)), fun r hr => ⟨fun e3 => ?_, (h.qn r hr).2⟩, fun r hr => ?_, ⟨r2.os.trans (hW.os.trans h.bl.os), r2.tape.trans (hW.tape.trans h.bl.tape), r2.output.trans (hW.output.trans h.bl.output), by rw [sz_put]; have := h.bl.size; omega, fun k hk => (lo k (by omega) (by omega)).trans (h.bl.block k hk)⟩, by rw [sz_put]; omega⟩
  · rcases r3 r e3 with e2 | e2
    · exact (h.qn r hr).1 e2
    · have := own_lt h.oq r hr; omega
  · rcases r3 r hr with e2 | e2
    · exact h.na r e2
    · exact fun e3 => by have := own_lt h.oa r e3; omega
/-- One more mark of acceptance. -/
theorem RcAt.pushA {W w2 : World} {v' : Value} {x : Bool} (h : RcAt w0 w b0 cl nx ac k ks o tk ys zs qv nv av) (hW : Below w.heap.size w W) (r1 : w2.ownsRow (b0 + 7) 4 1 v' (zs ++ [x]).length ((zs ++ [x]).map mT)) (r2 : W.grownBy w2 av.ownBlock) (r3 : ∀ q, v'.ownBlock = some q → av.ownBlock = some q ∨ w.heap.size ≤ q) :
    w2.cell? ⟨b0 + 2, 3, none⟩ = some av ∧ w2.frozen? ⟨b0 + 2, 3, none⟩ = false ∧ RcAt w0 (w2.setCell ⟨b0 + 2, 3, none⟩ v') b0 cl nx ac k ks o tk ys (zs ++ [x]) qv nv v' := by
  have hz := h.sz
  have hz2 := r2.size
  have hzW := hW.size
  have k2 := grown_old hW r2
  have nq : ∀ k, k < b0 + 7 → av.ownBlock ≠ some k := fun k hk e => by have := (h.oa.lt k e).1; omega
  have e : ∀ k, k < w.heap.size → k ≠ b0 + 2 → av.ownBlock ≠ some k → (w2.setCell ⟨b0 + 2, 3, none⟩ v').heap[k]? = w.heap[k]? := fun k hk hne hq => (Below.heap_setCell _ _ _ _ (by show k ≠ b0 + 2; exact hne)).trans (k2 k hk hq)
  have lo : ∀ k, k < b0 + 7 → k ≠ b0 + 2 → (w2.setCell ⟨b0 + 2, 3, none⟩ v').heap[k]? = w.heap[k]? := fun k hk hne => e k (by omega) hne (nq k hk)
  obtain ⟨F, hF⟩ := h.res
  have ho2 : Row4 w2 (b0 + 2) 27 cl (.int .i64 (k : Nat)) nv av := World.rowIs.of_block h.out (k2 _ (by omega) (nq _ (by omega)))
  refine ⟨ho2.facts.2.2.2.1, World.rowIs.frozen ho2 3, h.eb, World.rowIs.of_block h.d (lo _ (by omega) (by omega)), ⟨F, hF.of_block (lo _ (by omega) (by omega))⟩, ho2.put3', h.num.keep (lo _ (by omega) (by omega)), h.kb.of_block (lo _ (by omega) (by omega)), h.q.of_block (lo _ (by omega) (by omega)), own_blk h.oq (fun r hr => e r (own_lt h.oq r hr) (by have := (h.oq.lt r hr).1; omega) (fun e2 => (h.qn r hr).2 e2)), own_blk h.on (fun r hr => e r (own_lt h.on r hr) (by have := (h.on.lt r hr).1; omega) (fun e2 => h.na r hr e2)), own_blk r1 (fun r hr => Below.heap_setCell _ _ _ _ (by show r ≠ b0 + 2; have := (r1.lt r hr).1; omega)), fun r hr => ⟨(h.qn r hr).1, fun e3 => ?_⟩, fun r hr e3 => ?_, ⟨r2.os.trans (hW.os.trans h.bl.os), r2.tape.trans (hW.tape.trans h.bl.tape), r2.output.trans (hW.output.trans h.bl.output), by rw [sz_put]; have := h.bl.size; omega, fun k hk => (lo k (by omega) (by omega)).trans (h.bl.block k hk)⟩, by rw [sz_put]; omega⟩
  · rcases r3 r e3 with e2 | e2
    · exact (h.qn r hr).2 e2
    · have := own_lt h.oq r hr; omega
  · rcases r3 r e3 with e2 | e2
    · exact h.na r hr e2
    · have := own_lt h.on r hr; omega
end

end Go.Proofs.Ytjmajdfcfcgegaa
