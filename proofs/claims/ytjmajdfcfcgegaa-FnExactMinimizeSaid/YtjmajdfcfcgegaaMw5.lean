import Derived.Test.YtjmajdfcfcgegaaPk8
import Derived.Test.YtjmajdfcfcgegaaMu4
namespace Go.Proofs.Ytjmajdfcfcgegaa
open Go.RowKit

/-- What an append to v may change. -/
def Gro (v : Value) (z : Nat) : Nat → Prop := fun q => v.ownBlock = some q ∨ z ≤ q
theorem gro_of {w w' : World} {v : Value} {o : Obj} (r2 : (w.alloc o).grownBy w' v.ownBlock) : FrO (Gro v w.heap.size) w w' := by
  have hz : w.heap.size ≤ (w.alloc o).heap.size := by rw [sz_alloc]; omega
  refine ⟨r2.os, r2.tape, r2.output, Nat.le_trans hz r2.size, fun k hk => ?_⟩
  have h1 : v.ownBlock ≠ some k := fun e => hk (.inl e)
  have h2 : k < w.heap.size := by apply Nat.lt_of_not_le; intro e; exact hk (.inr e)
  have h3 := r2.block k (by rw [sz_alloc]; omega) (Ne.symm h1)
  rw [h3]
  exact (below1 w o).block k h2
/-- A number is put behind a row that is owned. -/
theorem app_n1 {w : World} {ops : Array Oper} {rest : List Oper} {o : Oper} {a : Act} {Q : Exit → Act → World → Prop} (hgd : o.guard = none) (s x : Operand)
    (ho : o.op = .call { callee := .builtin .append, args := #[s, x], argTypes := #[22, 22] }) (base : Nat) (v : Value) (hs : a.eval s = v) (y : Nat) (hx : a.eval x = .slice (some ⟨w.heap.size, 0, none⟩) 1 1) (xs : List Nat)
    (h1 : w.ownsRow base 3 1 v xs.length (xs.map mN)) (hb : base ≤ w.heap.size) (hl : xs.length ≤ 1000000)
    (h : ∀ v' w', w'.ownsRow base 3 1 v' (xs ++ [y]).length ((xs ++ [y]).map mN) → FrO (Gro v w.heap.size) w w' → (∀ q, v'.ownBlock = some q → v.ownBlock = some q ∨ w.heap.size ≤ q) → wpList Try.prog ops Q rest (a.put o.dst v') w') : wpList Try.prog ops Q (o :: rest) a (w.alloc (.cells #[.int .i64 (y : Nat)] 3)) := by
  obtain ⟨i0, hi, hz0, hz1, hz2⟩ := info_parts Try.zinInt
  refine wpList_append_own_at _ hgd s x 22 ho base 3 i0 (.int .i64 0) 1 8 Try.underlying22 hi hz0 hz1 hz2 rfl (by decide) v xs.length (xs.map mN) hs (h1.alloc _) ⟨w.heap.size, 0, none⟩ 1 1 [.int .i64 (y : Nat)] hx rfl (cell_one_new _ _ _) (fun u hu => by rw [List.mem_singleton] at hu; subst hu; rfl) (by unfold maxLen; omega) (by omega) (by rw [sz_alloc]; omega) ?_
  intro v' w' r1 r2 _ r3
  refine h v' w' (by rw [List.map_append, List.length_append]; exact r1) (gro_of r2) (fun q hq => ?_)
  rcases r3 with e | e
  · rw [e] at hq; exact .inl hq
  · rw [e] at hq
    cases hq
    rw [sz_alloc]
    exact .inr (by omega)
/-- A truth is put behind a row that is owned. -/
theorem app_t1 {w : World} {ops : Array Oper} {rest : List Oper} {o : Oper} {a : Act} {Q : Exit → Act → World → Prop} (hgd : o.guard = none) (s x : Operand)
    (ho : o.op = .call { callee := .builtin .append, args := #[s, x], argTypes := #[23, 23] }) (base : Nat) (v : Value) (hs : a.eval s = v) (y : Bool) (hx : a.eval x = .slice (some ⟨w.heap.size, 0, none⟩) 1 1) (xs : List Bool)
    (h1 : w.ownsRow base 4 1 v xs.length (xs.map mT)) (hb : base ≤ w.heap.size) (hl : xs.length ≤ 1000000)
    (h : ∀ v' w', w'.ownsRow base 4 1 v' (xs ++ [y]).length ((xs ++ [y]).map mT) → FrO (Gro v w.heap.size) w w' → (∀ q, v'.ownBlock = some q → v.ownBlock = some q ∨ w.heap.size ≤ q) → wpList Try.prog ops Q rest (a.put o.dst v') w') : wpList Try.prog ops Q (o :: rest) a (w.alloc (.cells #[.bool y] 4)) := by
  obtain ⟨i0, hi, hz0, hz1, hz2⟩ := info_parts Try.zinBoR
  refine wpList_append_own_at _ hgd s x 23 ho base 4 i0 (.bool false) 1 1 Try.underlying23 hi hz0 hz1 hz2 rfl (by decide) v xs.length (xs.map mT) hs (h1.alloc _) ⟨w.heap.size, 0, none⟩ 1 1 [.bool y] hx rfl (cell_one_new _ _ _) (fun u hu => by rw [List.mem_singleton] at hu; subst hu; rfl) (by unfold maxLen; omega) (by omega) (by rw [sz_alloc]; omega) ?_
  intro v' w' r1 r2 _ r3
  refine h v' w' (by rw [List.map_append, List.length_append]; exact r1) (gro_of r2) (fun q hq => ?_)
  rcases r3 with e | e
  · rw [e] at hq; exact .inl hq
  · rw [e] at hq
    cases hq
    rw [sz_alloc]
    exact .inr (by omega)
/-- Two rows that share no block. -/
def Ap (v u : Value) : Prop := ∀ q, v.ownBlock = some q → u.ownBlock ≠ some q
theorem Ap.symm {v u : Value} (h : Ap v u) : Ap u v := fun q hq e => h q e hq
theorem FrO.own {base e sz n : Nat} {w w' : World} {v u : Value} {xs : List Value} (h : FrO (Gro v w.heap.size) w w') (ho : w.ownsRow base e sz u n xs) (ha : Ap u v) : w'.ownsRow base e sz u n xs :=
  own_blk ho fun q hq => h.block q (fun hg => by
    rcases hg with k | k
    · exact ha q hq k
    · have := (ho.lt q hq).2; omega)
theorem Ap.grow {base e sz n : Nat} {w : World} {v v' u : Value} {xs : List Value} (ha : Ap u v) (ho : w.ownsRow base e sz u n xs) (hv : ∀ q, v'.ownBlock = some q → v.ownBlock = some q ∨ w.heap.size ≤ q) : Ap u v' := fun q hq e9 => by
  rcases hv q e9 with k | k
  · exact ha q hq k
  · have := (ho.lt q hq).2; omega
theorem FrO.belowG {base e sz n m : Nat} {w w' : World} {v : Value} {xs : List Value} (h : FrO (Gro v w.heap.size) w w') (ho : w.ownsRow base e sz v n xs) (hm : m ≤ base) (hb : base ≤ w.heap.size) : Below m w w' :=
  h.below fun k hk hg => by
    rcases hg with e | e
    · have := (ho.lt k e).1; omega
    · omega
/-- What the model's search for the smallest table reads. -/
structure RdS (A : Tb) (n k : Nat) (xb xo xc b off L cN ab ao ca D pb : Nat) (pv : Nat → Int) (w : World) : Prop where
  d : Row4 w D 27 (.slice (some ⟨xb, xo, none⟩) 256 xc) (.int .i64 (k : Nat)) (.slice (some ⟨b, off, none⟩) L cN) (.slice (some ⟨ab, ao, none⟩) n ca)
  p : w.rowIs pb 3 n (fun q => .int .i64 (pv q))
  x : NxAt w b off n k A.nx
  c : ∀ q, q < 256 → w.cell? ⟨xb, xo + q, none⟩ = some (.int .i64 (A.cl q : Nat))
  a : ∀ q, q < n → w.cell? ⟨ab, ao + q, none⟩ = some (.bool (A.ac q))
theorem RdS.keep {A : Tb} {n k : Nat} {xb xo xc b off L cN ab ao ca D pb g : Nat} {pv : Nat → Int} {w w' : World} (h : RdS A n k xb xo xc b off L cN ab ao ca D pb pv w) (hB : Below g w w') (h1 : D < g) (h2 : pb < g) (h3 : b < g) (h4 : ab < g) (h5 : xb < g) : RdS A n k xb xo xc b off L cN ab ao ca D pb pv w' where
  d := h.d.below hB h1
  p := h.p.of_block (hB.block pb h2)
  x := fun q c hq hc => ⟨(h.x q c hq hc).1, by rw [hB.cell (p := ⟨b, off + (q * k + c), none⟩) h3]; exact (h.x q c hq hc).2⟩
  c := fun q hq => by rw [hB.cell (p := ⟨xb, xo + q, none⟩) h5]; exact h.c q hq
  a := fun q hq => by rw [hB.cell (p := ⟨ab, ao + q, none⟩) h4]; exact h.a q hq

end Go.Proofs.Ytjmajdfcfcgegaa
