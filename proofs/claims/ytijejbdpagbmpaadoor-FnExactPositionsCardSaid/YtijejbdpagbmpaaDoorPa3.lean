import Derived.Test.YtijejbdpagbmpaaDoorPa2
import Derived.Test.YtijejbdpagbmpaaDoorPo8
import Derived.Test.YtijejbdpagbmpaaDoorP7
namespace Go.Proofs.YtijejbdpagbmpaaDoor
open Go.RowKit

/-- The words of n sets, sz words each. -/
def flatF (sz n : Nat) (f : Nat → Nat → Nat) : List Value := (List.range (n * sz)).map (fun k => wd (f (k / sz)) (k % sz))
theorem flatF_len (sz n : Nat) (f : Nat → Nat → Nat) : (flatF sz n f).length = n * sz := by simp [flatF]
theorem flatF_next (sz n : Nat) (hs : 0 < sz) (f : Nat → Nat → Nat) : flatF sz (n + 1) f = flatF sz n f ++ (List.range sz).map (wd (f n)) := by
  unfold flatF
  rw [Nat.succ_mul, List.range_add, List.map_append, List.map_map]
  congr 1
  refine List.map_congr_left (fun j hj => ?_)
  have := List.mem_range.1 hj
  simp only [Function.comp]
  rw [Nat.add_comm, Nat.add_mul_div_right _ _ hs, Nat.add_mul_mod_self_right, Nat.div_eq_of_lt this, Nat.mod_eq_of_lt this, Nat.zero_add]
theorem flatF_congr {sz n : Nat} {f h : Nat → Nat → Nat} (hs : 0 < sz) (e : ∀ i, i < n → f i = h i) : flatF sz n f = flatF sz n h := by
  unfold flatF
  refine List.map_congr_left (fun k hk => ?_)
  have := List.mem_range.1 hk
  rw [e _ ((Nat.div_lt_iff_lt_mul hs).2 this)]
theorem flatF_at (sz n : Nat) (f : Nat → Nat → Nat) {k : Nat} (hk : k < n * sz) : (flatF sz n f)[k]? = some (wd (f (k / sz)) (k % sz)) := by simp [flatF, hk]

/-- A row that is owned, as a row of cells, and back. -/
theorem own_row {base e sz n : Nat} {w : World} {v : Value} {xs : List Value} (h : w.ownsRow base e sz v n xs) (hp : 0 < n) : ∃ g cap m F, v = .slice (some ⟨g, 0, none⟩) n cap ∧ g < w.heap.size ∧ w.rowIs g e m F ∧ n * sz ≤ m ∧ (∀ k, k < n * sz → xs[k]? = some (F k)) ∧
    ∀ (w' : World) (F' : Nat → Value) (ys : List Value), w'.rowIs g e m F' → ys.length = n * sz → (∀ k, k < n * sz → ys[k]? = some (F' k)) → w'.ownsRow base e sz v n ys := by
  obtain ⟨hl, h⟩ := h
  rcases h with ⟨-, h⟩ | ⟨g, cap, cur, rfl, hb, hg, hnc, hcm, hcs, ht⟩
  · omega
  · have hm : n * sz ≤ cap * sz := Nat.mul_le_mul_right _ hnc
    refine ⟨g, cap, cur.size, fun k => cur[k]?.getD undef, rfl, ?_, ⟨cur, hg, rfl, fun i hi => by simp [Array.getElem?_eq_getElem hi]⟩, by omega, fun k hk => ?_, fun w' F' ys hr hy hF => ?_⟩
    · rcases Nat.lt_or_ge g w.heap.size with h | h
      · exact h
      · rw [Array.getElem?_eq_none h] at hg; cases hg
    · rw [← ht, List.getElem?_take_of_lt hk, Array.getElem?_toList, Array.getElem?_eq_getElem (show k < cur.size by omega)]; simp [Array.getElem?_eq_getElem (show k < cur.size by omega)]
    · obtain ⟨c, h1, h2, h3⟩ := hr
      refine ⟨hy, Or.inr ⟨g, cap, c, rfl, hb, h1, hnc, hcm, by omega, ?_⟩⟩
      refine List.ext_getElem? (fun k => ?_)
      by_cases hk : k < n * sz
      · rw [List.getElem?_take_of_lt hk, Array.getElem?_toList, h3 k (by omega), hF k hk]
      · rw [List.getElem?_eq_none (by rw [List.length_take]; omega), List.getElem?_eq_none (by omega)]

/-- Outside the blocks of O nothing has changed. -/
structure FrO (O : Nat → Prop) (w w' : World) : Prop where
  os : w'.os = w.os
  tape : w'.tape = w.tape
  output : w'.output = w.output
  size : w.heap.size ≤ w'.heap.size
  block : ∀ k, ¬ O k → w'.heap[k]? = w.heap[k]?
theorem FrO.refl (O : Nat → Prop) (w : World) : FrO O w w := ⟨rfl, rfl, rfl, Nat.le_refl _, fun _ _ => rfl⟩
theorem FrO.trans {O : Nat → Prop} {a b c : World} (h : FrO O a b) (k : FrO O b c) : FrO O a c := ⟨k.os.trans h.os, k.tape.trans h.tape, k.output.trans h.output, Nat.le_trans h.size k.size, fun i hi => (k.block i hi).trans (h.block i hi)⟩
theorem FrO.mono {O O' : Nat → Prop} {a b : World} (h : FrO O a b) (hO : ∀ k, O k → O' k) : FrO O' a b := ⟨h.os, h.tape, h.output, h.size, fun k hk => h.block k (fun e => hk (hO k e))⟩
theorem FrO.drew {O : Nat → Prop} {a b : World} (h : FrO O a b) : FrO O a b.drew := ⟨h.os, h.tape, h.output, h.size, h.block⟩
theorem fro_of {O : Nat → Prop} {a b : World} (h : Below a.heap.size a b) (hO : ∀ k, a.heap.size ≤ k → O k) : FrO O a b := ⟨h.os, h.tape, h.output, h.size, fun k hk => h.block k (by apply Nat.lt_of_not_le; intro e; exact hk (hO k e))⟩
theorem Obk.fro {O : Nat → Prop} {g : Nat} {a b : World} (h : Obk g a b) (hO : O g) : FrO O a b := ⟨h.os, h.tape, h.output, by rw [h.size]; exact Nat.le_refl _, fun k hk => h.block k (fun e => hk (e ▸ hO))⟩
theorem FrO.below {O : Nat → Prop} {a b : World} {m : Nat} (h : FrO O a b) (hO : ∀ k, k < m → ¬ O k) : Below m a b := ⟨h.os, h.tape, h.output, h.size, fun k hk => h.block k (hO k hk)⟩

/-- The blocks of O but those from a on and below b. -/
def Sk (O : Nat → Prop) (a b : Nat) : Nat → Prop := fun k => O k ∧ (k < a ∨ b ≤ k)

/-- The automaton in the making: its box, its sets, its follow sets. -/
structure AuM (O : Nat → Prop) (A : Nat) (w : World) (sv fv : Value) (n m : Nat) (gs hs : Nat → Nat → Nat) : Prop where
  box : ∃ F, w.rowIs A 65 19 F ∧ F 0 = sv ∧ F 1 = fv
  oA : O A
  so : w.ownsRow 0 68 4 sv n (flatF 4 n gs)
  fo : w.ownsRow 0 59 8 fv m (flatF 8 m hs)
  sb : ∀ q, sv.ownBlock = some q → O q ∧ q ≠ A
  fb : ∀ q, fv.ownBlock = some q → O q ∧ q ≠ A
  sf : ∀ q, sv.ownBlock = some q → fv.ownBlock ≠ some q
theorem own_blk {base e sz n : Nat} {w w' : World} {v : Value} {xs : List Value} (h : w.ownsRow base e sz v n xs) (hs : ∀ q, v.ownBlock = some q → w'.heap[q]? = w.heap[q]?) : w'.ownsRow base e sz v n xs := by
  refine ⟨h.1, ?_⟩
  rcases h.2 with hn | ⟨g, cap, cur, rfl, hb, hg, rest⟩
  · exact .inl hn
  · exact .inr ⟨g, cap, cur, rfl, hb, (hs g rfl).trans hg, rest⟩
theorem own_lt {base e sz n : Nat} {w : World} {v : Value} {xs : List Value} (h : w.ownsRow base e sz v n xs) : ∀ q, v.ownBlock = some q → q < w.heap.size := fun q hq => (h.lt q hq).2
section
variable {O : Nat → Prop} {A : Nat} {w w' : World} {sv fv : Value} {n m : Nat} {gs hs : Nat → Nat → Nat}
theorem AuM.lt (h : AuM O A w sv fv n m gs hs) : A < w.heap.size := by obtain ⟨F, hF, -⟩ := h.box; exact hF.lt
theorem AuM.keep (h : AuM O A w sv fv n m gs hs) (e : ∀ k, O k → k < w.heap.size → w'.heap[k]? = w.heap[k]?) : AuM O A w' sv fv n m gs hs := by
  have hA := h.lt
  obtain ⟨F, hF, h0, h1⟩ := h.box
  exact ⟨⟨F, hF.of_block (e A h.oA hA), h0, h1⟩, h.oA, own_blk h.so (fun q hq => e q (h.sb q hq).1 (own_lt h.so q hq)), own_blk h.fo (fun q hq => e q (h.fb q hq).1 (own_lt h.fo q hq)), h.sb, h.fb, h.sf⟩
theorem AuM.mono (h : AuM O A w sv fv n m gs hs) {O' : Nat → Prop} (e : ∀ k, O k → O' k) : AuM O' A w sv fv n m gs hs :=
  ⟨h.box, e _ h.oA, h.so, h.fo, fun q hq => ⟨e _ (h.sb q hq).1, (h.sb q hq).2⟩, fun q hq => ⟨e _ (h.fb q hq).1, (h.fb q hq).2⟩, h.sf⟩
/-- Behind new boxes, which it does not hold. -/
theorem AuM.skip (h : AuM O A w sv fv n m gs hs) (hb : Below w.heap.size w w') : AuM (Sk O w.heap.size w'.heap.size) A w' sv fv n m gs hs := by
  have h2 := h.keep (fun k _ hk => hb.block k hk)
  exact ⟨h2.box, ⟨h.oA, Or.inl h.lt⟩, h2.so, h2.fo, fun q hq => ⟨⟨(h.sb q hq).1, Or.inl (own_lt h.so q hq)⟩, (h.sb q hq).2⟩, fun q hq => ⟨⟨(h.fb q hq).1, Or.inl (own_lt h.fo q hq)⟩, (h.fb q hq).2⟩, h.sf⟩
theorem AuM.facts (h : AuM O A w sv fv n m gs hs) : w.cell? ⟨A, 0, none⟩ = some sv ∧ w.cell? ⟨A, 1, none⟩ = some fv ∧ w.frozen? ⟨A, 0, none⟩ = false ∧ w.frozen? ⟨A, 1, none⟩ = false := by
  obtain ⟨F, hF, h0, h1⟩ := h.box
  exact ⟨by rw [hF.cell (by omega), h0], by rw [hF.cell (by omega), h1], hF.frozen 0, hF.frozen 1⟩
/-- One set more. -/
theorem AuM.pushS {W w7 : World} {g cap H : Nat} {x : Nat → Nat} (h : AuM O A w sv fv n m gs hs) (hW : Below w.heap.size w W) (hH : W.heap.size = H) (hO : ∀ k, w.heap.size ≤ k → O k)
    (r1 : w7.ownsRow 0 68 4 (.slice (some ⟨g, 0, none⟩) (n + 1) cap) (n + 1) (flatF 4 n gs ++ [wd x 0, wd x 1, wd x 2, wd x 3])) (r2 : W.grownBy w7 sv.ownBlock) (r3 : sv.ownBlock = some g ∨ g = H) :
    AuM O A (w7.setCell ⟨A, 0, none⟩ (.slice (some ⟨g, 0, none⟩) (n + 1) cap)) (.slice (some ⟨g, 0, none⟩) (n + 1) cap) fv (n + 1) m (fun i => if i = n then x else gs i) hs ∧ FrO O w (w7.setCell ⟨A, 0, none⟩ (.slice (some ⟨g, 0, none⟩) (n + 1) cap)) ∧ FrO O w w7 ∧ w7.frozen? ⟨A, 0, none⟩ = false ∧ w7.cell? ⟨A, 0, none⟩ = some sv := by
  have hz := hW.size
  have hgA : g ≠ A := by
    rcases r3 with r3 | r3
    · exact (h.sb g r3).2
    · have := h.lt; omega
  have hOg : O g := by
    rcases r3 with r3 | r3
    · exact (h.sb g r3).1
    · exact hO g (by omega)
  have k7 : ∀ k, k < w.heap.size → sv.ownBlock ≠ some k → w7.heap[k]? = w.heap[k]? := fun k hk hne => (r2.block k (by omega) (fun e => hne e.symm)).trans (hW.block k hk)
  have kA : w7.heap[A]? = w.heap[A]? := k7 A h.lt (fun e => (h.sb A e).2 rfl)
  have hsz7 := r2.size
  obtain ⟨F, hF, h0, h1⟩ := h.box
  have hF7 := hF.of_block kA
  have fr7 : FrO O w w7 := ⟨r2.os.trans hW.os, r2.tape.trans hW.tape, r2.output.trans hW.output, by omega, fun k hk => by
    have hk2 : k < w.heap.size := by apply Nat.lt_of_not_le; intro e; exact hk (hO k e)
    exact k7 k hk2 (fun e => hk (h.sb k e).1)⟩
  refine ⟨⟨⟨_, hF7.set 0 _, by simp, by simp [h1]⟩, h.oA, ?_, ?_, fun q hq => ?_, h.fb, fun q hq hf => ?_⟩, ?_, fr7, hF7.frozen 0, by rw [hF7.cell (by omega), h0]⟩
  · have e : flatF 4 (n + 1) (fun i => if i = n then x else gs i) = flatF 4 n gs ++ [wd x 0, wd x 1, wd x 2, wd x 3] := by
      rw [flatF_next _ _ (by omega), flatF_congr (h := gs) (by omega) (fun i hi => by rw [if_neg (by omega)])]
      simp [List.range_succ]
    rw [e]
    exact own_blk r1 (fun q hq => by cases hq; exact Below.heap_setCell _ _ _ _ (by show g ≠ A; exact hgA))
  · exact own_blk h.fo (fun q hq => (Below.heap_setCell _ _ _ _ (by show q ≠ A; exact (h.fb q hq).2)).trans (k7 q (own_lt h.fo q hq) (fun e => h.sf q e hq)))
  · cases hq; exact ⟨hOg, hgA⟩
  · cases hq
    rcases r3 with r3 | r3
    · exact h.sf g r3 hf
    · have := own_lt h.fo g hf; omega
  · exact ⟨fr7.os, fr7.tape, fr7.output, by rw [sz_put]; exact fr7.size, fun k hk => (Below.heap_setCell _ _ _ _ (by show k ≠ A; exact fun e => hk (e ▸ h.oA))).trans (fr7.block k hk)⟩
/-- One follow set more, empty. -/
theorem AuM.pushF {W w7 : World} {g cap H : Nat} {x : Nat → Nat} (h : AuM O A w sv fv n m gs hs) (hW : Below w.heap.size w W) (hH : W.heap.size = H) (hO : ∀ k, w.heap.size ≤ k → O k) (hx : hs m = x)
    (r1 : w7.ownsRow 0 59 8 (.slice (some ⟨g, 0, none⟩) (m + 1) cap) (m + 1) (flatF 8 m hs ++ [wd x 0, wd x 1, wd x 2, wd x 3, wd x 4, wd x 5, wd x 6, wd x 7])) (r2 : W.grownBy w7 fv.ownBlock) (r3 : fv.ownBlock = some g ∨ g = H) :
    AuM O A (w7.setCell ⟨A, 1, none⟩ (.slice (some ⟨g, 0, none⟩) (m + 1) cap)) sv (.slice (some ⟨g, 0, none⟩) (m + 1) cap) n (m + 1) gs hs ∧ FrO O w (w7.setCell ⟨A, 1, none⟩ (.slice (some ⟨g, 0, none⟩) (m + 1) cap)) ∧ FrO O w w7 ∧ w7.frozen? ⟨A, 1, none⟩ = false ∧ w7.cell? ⟨A, 1, none⟩ = some fv := by
  have hz := hW.size
  have hgA : g ≠ A := by
    rcases r3 with r3 | r3
    · exact (h.fb g r3).2
    · have := h.lt; omega
  have hOg : O g := by
    rcases r3 with r3 | r3
    · exact (h.fb g r3).1
    · exact hO g (by omega)
  have k7 : ∀ k, k < w.heap.size → fv.ownBlock ≠ some k → w7.heap[k]? = w.heap[k]? := fun k hk hne => (r2.block k (by omega) (fun e => hne e.symm)).trans (hW.block k hk)
  have kA : w7.heap[A]? = w.heap[A]? := k7 A h.lt (fun e => (h.fb A e).2 rfl)
  have hsz7 := r2.size
  obtain ⟨F, hF, h0, h1⟩ := h.box
  have hF7 := hF.of_block kA
  have fr7 : FrO O w w7 := ⟨r2.os.trans hW.os, r2.tape.trans hW.tape, r2.output.trans hW.output, by omega, fun k hk => by
    have hk2 : k < w.heap.size := by apply Nat.lt_of_not_le; intro e; exact hk (hO k e)
    exact k7 k hk2 (fun e => hk (h.fb k e).1)⟩
  refine ⟨⟨⟨_, hF7.set 1 _, by simp [h0], by simp⟩, h.oA, ?_, ?_, h.sb, fun q hq => ?_, fun q hq hf => ?_⟩, ?_, fr7, hF7.frozen 1, by rw [hF7.cell (by omega), h1]⟩
  · exact own_blk h.so (fun q hq => (Below.heap_setCell _ _ _ _ (by show q ≠ A; exact (h.sb q hq).2)).trans (k7 q (own_lt h.so q hq) (fun e => h.sf q hq e)))
  · have e : flatF 8 (m + 1) hs = flatF 8 m hs ++ [wd x 0, wd x 1, wd x 2, wd x 3, wd x 4, wd x 5, wd x 6, wd x 7] := by
      rw [flatF_next _ _ (by omega), hx]
      simp [List.range_succ]
    rw [e]
    exact own_blk r1 (fun q hq => by cases hq; exact Below.heap_setCell _ _ _ _ (by show g ≠ A; exact hgA))
  · cases hq; exact ⟨hOg, hgA⟩
  · cases hf
    rcases r3 with r3 | r3
    · exact h.sf g hq r3
    · have := own_lt h.so g hq; omega
  · exact ⟨fr7.os, fr7.tape, fr7.output, by rw [sz_put]; exact fr7.size, fun k hk => (Below.heap_setCell _ _ _ _ (by show k ≠ A; exact fun e => hk (e ▸ h.oA))).trans (fr7.block k hk)⟩
/-- The i-th follow set, as a row of cells, and back. -/
theorem AuM.folRow (h : AuM O A w sv fv n m gs hs) {i : Nat} (hi : i < m) : ∃ g cap M F, fv = .slice (some ⟨g, 0, none⟩) m cap ∧ O g ∧ g < w.heap.size ∧ w.rowIs g 59 M F ∧ i * 8 + 8 ≤ M ∧ (∀ j, j < 8 → F (i * 8 + j) = wd (hs i) j) ∧
    ∀ (w' : World) (x : Nat → Nat), w'.rowIs g 59 M (fun k => if i * 8 ≤ k ∧ k < i * 8 + 8 then wd x (k - i * 8) else F k) → Obk g w w' → AuM O A w' sv fv n m gs (fun j => if j = i then x else hs j) := by
  obtain ⟨g, cap, M, F, rfl, hlt, hr, hM, hF, hback⟩ := own_row h.fo (by omega)
  refine ⟨g, cap, M, F, rfl, (h.fb g rfl).1, hlt, hr, by omega, fun j hj => ?_, fun w' x hr' hob => ?_⟩
  · have h1 := hF (i * 8 + j) (by omega)
    rw [flatF_at _ _ _ (by omega), show (i * 8 + j) / 8 = i by omega, show (i * 8 + j) % 8 = j by omega] at h1
    exact (Option.some.inj h1).symm
  · obtain ⟨F0, hF0, h0, h1⟩ := h.box
    refine ⟨⟨F0, hF0.of_block (hob.block A (fun e => (h.fb g rfl).2 e.symm)), h0, h1⟩, h.oA, own_blk h.so (fun q hq => hob.block q (fun e => h.sf q hq (by rw [e]; rfl))), ?_, h.sb, h.fb, h.sf⟩
    refine hback w' _ _ hr' (flatF_len _ _ _) (fun k hk => ?_)
    rw [flatF_at _ _ _ hk]
    by_cases e : i * 8 ≤ k ∧ k < i * 8 + 8
    · rw [if_pos e, if_pos (by omega), show k % 8 = k - i * 8 by omega]
    · rw [if_neg e, if_neg (by omega)]
      have h2 := hF k hk
      rw [flatF_at _ _ _ hk] at h2
      exact h2
end

end Go.Proofs.YtijejbdpagbmpaaDoor
