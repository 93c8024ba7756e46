import Derived.Test.YtjjmgegbeccjoaaPk2
import Derived.OwnWalk
import Derived.Maps.AppendAt
import Derived.Laws.AppendOwnNone
import Derived.Deep.AppendLies
import Derived.Deep.RegionLaw
import Derived.BigRegion
import Derived.Test.YtjjmgegbeccjoaaC3
import Derived.Test.YtjjmgegbeccjoaaPk8
namespace Go.Proofs.Ytjjmgegbeccjoaa
open Go.RowKit

theorem own_slw {base lo n : Nat} {w : World} {v : Value} {xs : List Int} (h : w.ownsRow base 3 1 v n (xs.map mI)) (hlo : lo ≤ base) (hn : n ≤ maxLen) : SlW mI 0 lo w.heap.size w v xs := by
  have hlen := h.1
  rw [List.length_map, Nat.mul_one] at hlen
  rcases h.2 with ⟨rfl, hz⟩ | ⟨g, cap, cur, rfl, hbg, hg, hnc, hcm, hcs, htake⟩
  · exact ⟨none, 0, by rw [hlen, hz], by omega, fun hp => by omega⟩
  · refine ⟨_, cap, by rw [hlen], by omega, fun hp => ⟨g, 0, rfl, by omega, (h.lt g rfl).2, ⟨cur, _, hg⟩, fun i hi => ?_⟩⟩
    rw [Nat.zero_add, h.cellAt i (by omega), List.getElem?_map, List.getElem?_eq_getElem hi]
    rfl

theorem cell_1 {W : World} {N : Nat} {u : Value} (h : W.cell? ⟨N, 0, none⟩ = some u) : ∀ (j : Nat) (y : Value), [u][j]? = some y → W.cell? ((⟨N, 0, none⟩ : Addr).add j) = some y := by
  intro j y hj
  match j, hj with
  | 0, hj => simp at hj; subst hj; exact h

theorem own_at {base n : Nat} {w : World} {v : Value} {xs : List Value} (h : w.ownsRow base 3 1 v n xs) (hp : 0 < n) : ∃ g cap, v = .slice (some ⟨g, 0, none⟩) n cap ∧ ∀ j : Nat, j < n → w.cell? ⟨g, j, none⟩ = xs[j]? := by
  rcases h.2 with ⟨rfl, hz⟩ | ⟨g, cap, cur, rfl, hbg, hg, hnc, hcm, hcs, htake⟩
  · omega
  · exact ⟨g, cap, rfl, fun j hj => h.cellAt j (by omega)⟩

theorem getD_of_lt {xs : List Int} {i : Nat} (h : i < xs.length) : xs[i]? = some (xs[i]?.getD 0) := by rw [List.getElem?_eq_getElem h]; rfl

theorem own_keep {base n m e size : Nat} {w w' : World} {v : Value} {xs : List Value} (h : w.ownsRow base e size v n xs) (hb : Below m w w') (hm : w.heap.size ≤ m) : w'.ownsRow base e size v n xs :=
  h.kept (show w.grownBy w' none from ⟨hb.os, hb.tape, hb.output, hb.size, fun k hk _ => hb.block k (by omega)⟩) (by cases v.ownBlock <;> simp)

theorem own_is {base n e size : Nat} {w : World} {v : Value} {xs : List Value} (h : w.ownsRow base e size v n xs) : ∃ oa oc, v = .slice oa n oc := by
  rcases h.2 with ⟨rfl, hz⟩ | ⟨q, cap, cur, rfl, -⟩
  · exact ⟨none, 0, by rw [hz]⟩
  · exact ⟨_, _, rfl⟩

theorem run_append_none_c {P : Program} {w : World} (base : Nat) (t ty e : TypeId) (i : TypeInfo) (size : Nat) (ht : P.underlying t = some (.slice e)) (hi : P.info? e = some i)
    (v : Value) (n : Nat) (xs : List Value) (hown : w.ownsRow base e size v n xs) (c : Nat) : (Builtin.append_ #[t, t] ty #[v, .slice none 0 c]).run P w = .ok v w := by
  rcases hown.2 with ⟨rfl, rfl⟩ | ⟨g, cap, cur, rfl, _, _, hnc, _⟩
  · simp [Builtin.append_, run_underlying ht, sizeOf, typeInfo, hi, Builtin.lenOf, Builtin.firstCells]
  · simp [Builtin.append_, run_underlying ht, sizeOf, typeInfo, hi, Builtin.lenOf, Builtin.firstCells, hnc, storeCells]

theorem wpList_append_none_c {P : Program} {w : World} {ops : Array Oper} {rest : List Oper} {o : Oper} {a : Act} {Q : Exit → Act → World → Prop} (hgd : o.guard = none) (s x : Operand) (t : TypeId)
    (ho : o.op = .call { callee := .builtin .append, args := #[s, x], argTypes := #[t, t] })
    (base : Nat) (e : TypeId) (i : TypeInfo) (size : Nat) (ht : P.underlying t = some (.slice e)) (hi : P.info? e = some i)
    (v : Value) (n : Nat) (xs : List Value) (hs : a.eval s = v) (hown : w.ownsRow base e size v n xs) (c : Nat) (hx : a.eval x = .slice none 0 c)
    (h : wpList P ops Q rest (a.put o.dst v) w) : wpList P ops Q (o :: rest) a w := by
  refine wpList_plain hgd fun K hK => ?_
  have hrun := run_append_none_c (P := P) (w := w) base t o.type e i size ht hi v n xs hown c
  unfold Oper.wp
  simp [execOp, ho, resolve, invoke, builtin, hs, hx, hrun, Result.andThen]
  exact hK _ _ h

/-- A copy of a slice of ints, by an append to nil. -/
theorem app_ints {w : World} {ops : Array Oper} {rest : List Oper} {o : Oper} {a : Act} {Q : Exit → Act → World → Prop} (hgd : o.guard = none) (s x : Operand)
    (ho : o.op = .call { callee := .builtin .append, args := #[s, x], argTypes := #[40, 40] }) (hs : a.eval s = .slice none 0 0) (sv : Value) (hx : a.eval x = sv) (xs : List Int) (hv : SlAt mI 0 0 w.heap.size w sv xs) (hlen : xs.length ≤ 1048576)
    (h : ∀ v' w', Below w.heap.size w w' → SlW mI 0 w.heap.size w'.heap.size w' v' xs → v'.oneCell' = true → wpList Try.prog ops Q rest (a.put o.dst v') w') : wpList Try.prog ops Q (o :: rest) a w := by
  obtain ⟨i0, hi, hz0, hz1, hz2⟩ := info_parts Try.zinInt
  obtain ⟨sa, sc, rfl, hl, hc⟩ := hv
  cases sa with
  | none =>
    have h0 : xs.length = 0 := by
      by_cases q : 0 < xs.length
      · obtain ⟨b, off, e, -⟩ := hc q; simp at e
      · omega
    rw [h0] at hx
    exact wpList_append_none_c hgd s x 40 ho w.heap.size 3 i0 1 Try.underlying40 hi _ 0 [] hs (World.ownsRow_nil _ _ _ _) sc hx (h _ w (Below.refl _ _) ⟨none, 0, by rw [h0], hl, fun q => absurd q (by omega)⟩ rfl)
  | some ad =>
    refine wpList_append_own_at w hgd s x 40 ho w.heap.size 3 i0 (.int .i64 0) 1 8 Try.underlying40 hi hz0 hz1 hz2 rfl (by decide) _ 0 [] hs (World.ownsRow_nil _ _ _ _) ad xs.length sc (xs.map mI) hx (by simp) ?_ ?_ (by rw [Nat.zero_add]; exact hl) (by omega) (Nat.le_refl _) ?_
    · intro j u hu
      have hj : j < xs.length := by
        have := (List.getElem?_eq_some_iff.1 hu).1
        simpa using this
      obtain ⟨b, off, e, -, -, hcell⟩ := hc (by omega)
      simp only [Option.some.injEq] at e
      subst e
      rw [List.getElem?_map, getD_of_lt hj] at hu
      simp only [Option.map_some, Option.some.injEq] at hu
      subst hu
      have e3 : (⟨b, off, none⟩ : Addr).add j = ⟨b, off + j, none⟩ := by cases j <;> rfl
      rw [e3]
      exact hcell j hj
    · intro u hu
      obtain ⟨y, -, rfl⟩ := List.mem_map.1 hu
      rfl
    · intro v' w' h1 hg _ _
      rw [Nat.zero_add, List.nil_append] at h1
      obtain ⟨oa, oc, rfl⟩ := own_is h1
      exact h _ w' ((Below.refl _ _).grown hg (Nat.le_refl _) (fun k hk => by cases hk)) (own_slw h1 (Nat.le_refl _) hl) rfl

/-- A copy of a slice of ints, by an append to nil. -/
theorem app_ints_own {w : World} {ops : Array Oper} {rest : List Oper} {o : Oper} {a : Act} {Q : Exit → Act → World → Prop} (hgd : o.guard = none) (s x : Operand)
    (ho : o.op = .call { callee := .builtin .append, args := #[s, x], argTypes := #[40, 40] }) (hs : a.eval s = .slice none 0 0) (sv : Value) (hx : a.eval x = sv) (xs : List Int) (hv : SlAt mI 0 0 w.heap.size w sv xs) (hlen : xs.length ≤ 1048576)
    (h : ∀ v' w', Below w.heap.size w w' → w'.ownsRow w.heap.size 3 1 v' xs.length (xs.map mI) → v'.oneCell' = true → wpList Try.prog ops Q rest (a.put o.dst v') w') : wpList Try.prog ops Q (o :: rest) a w := by
  obtain ⟨i0, hi, hz0, hz1, hz2⟩ := info_parts Try.zinInt
  obtain ⟨sa, sc, rfl, hl, hc⟩ := hv
  cases sa with
  | none =>
    have h0 : xs.length = 0 := by
      by_cases q : 0 < xs.length
      · obtain ⟨b, off, e, -⟩ := hc q; simp at e
      · omega
    rw [h0] at hx
    exact wpList_append_none_c hgd s x 40 ho w.heap.size 3 i0 1 Try.underlying40 hi _ 0 [] hs (World.ownsRow_nil _ _ _ _) sc hx (h _ w (Below.refl _ _) (by rw [List.eq_nil_of_length_eq_zero h0]; exact World.ownsRow_nil _ _ _ _) rfl)
  | some ad =>
    refine wpList_append_own_at w hgd s x 40 ho w.heap.size 3 i0 (.int .i64 0) 1 8 Try.underlying40 hi hz0 hz1 hz2 rfl (by decide) _ 0 [] hs (World.ownsRow_nil _ _ _ _) ad xs.length sc (xs.map mI) hx (by simp) ?_ ?_ (by rw [Nat.zero_add]; exact hl) (by omega) (Nat.le_refl _) ?_
    · intro j u hu
      have hj : j < xs.length := by
        have := (List.getElem?_eq_some_iff.1 hu).1
        simpa using this
      obtain ⟨b, off, e, -, -, hcell⟩ := hc (by omega)
      simp only [Option.some.injEq] at e
      subst e
      rw [List.getElem?_map, getD_of_lt hj] at hu
      simp only [Option.map_some, Option.some.injEq] at hu
      subst hu
      have e3 : (⟨b, off, none⟩ : Addr).add j = ⟨b, off + j, none⟩ := by cases j <;> rfl
      rw [e3]
      exact hcell j hj
    · intro u hu
      obtain ⟨y, -, rfl⟩ := List.mem_map.1 hu
      rfl
    · intro v' w' h1 hg _ _
      rw [Nat.zero_add, List.nil_append] at h1
      obtain ⟨oa, oc, rfl⟩ := own_is h1
      exact h _ w' ((Below.refl _ _).grown hg (Nat.le_refl _) (fun k hk => by cases hk)) h1 rfl

/-- W is w with one block more (and draws). -/
structure Pushd (w W : World) (o : Obj) : Prop where
  os : W.os = w.os
  tape : W.tape = w.tape
  output : W.output = w.output
  heap : W.heap = w.heap.push o
theorem Pushd.size {w W : World} {o : Obj} (h : Pushd w W o) : W.heap.size = w.heap.size + 1 := by rw [h.heap, Array.size_push]
theorem Pushd.old {w W : World} {o : Obj} (h : Pushd w W o) {k : Nat} (hk : k < w.heap.size) : W.heap[k]? = w.heap[k]? := by rw [h.heap, Array.getElem?_push_lt hk, Array.getElem?_eq_getElem hk]
theorem Pushd.new {w W : World} {o : Obj} (h : Pushd w W o) : W.heap[w.heap.size]? = some o := by rw [h.heap]; simp
theorem Pushd.below {w W : World} {o : Obj} (h : Pushd w W o) : Below w.heap.size w W := ⟨h.os, h.tape, h.output, by rw [h.size]; omega, fun k hk => h.old hk⟩
theorem Pushd.own {w W : World} {o : Obj} (h : Pushd w W o) {base n e size : Nat} {v : Value} {xs : List Value} (k : w.ownsRow base e size v n xs) : W.ownsRow base e size v n xs := own_keep k h.below (Nat.le_refl _)
theorem Pushd.news {w W : World} {cs : Array Value} {t : TypeId} (h : Pushd w W (.cells cs t)) : ∀ (j : Nat) (u : Value), cs.toList[j]? = some u → W.cell? ((⟨w.heap.size, 0, none⟩ : Addr).add j) = some u := World.news_of_block h.new

/-- A call of a function as a step of a region that draws its order. -/
theorem step_call {w : World} {ops : Array Oper} {o : Oper} {a : Act} {K : Act → World → Prop} {Q : Exit → Act → World → Prop} {E : Prop} (F : FuncId) (vals : Array Value) (hgd : o.guard = none) (hex : (execOp a.eval o).run Try.prog w = .ok (.enter F vals) w)
    {Post : Ending → World → Prop} (h : Calls Try.prog F vals w Post) (hK : ∀ e w', Post e w' → ∃ v, e = .returned v ∧ K (a.put o.dst v) w') : if Region.wanted o (yielded ops a.tmps) = true then Oper.wp Try.prog o a w K Q else E := by
  have hw : Region.wanted o (yielded ops a.tmps) = true := by simp [Region.wanted, hgd]
  rw [if_pos hw]
  unfold Oper.wp
  rw [hex, Oper.upon_enter]
  refine h.mono ?_
  intro e w' hP
  obtain ⟨v, rfl, hk⟩ := hK e w' hP
  exact hk

/-- A call of a function, its operands told, as a step of a region that draws its order. -/
theorem step_call_o {w : World} {ops : Array Oper} {o : Oper} {a : Act} {K : Act → World → Prop} {Q : Exit → Act → World → Prop} {E : Prop} (F : FuncId) (cargs : Array Operand) (ts : Array TypeId) (ho : o.op = .call { callee := .value (.func F), args := cargs, argTypes := ts }) (vals : Array Value) (hgd : o.guard = none) (hev : cargs.map a.eval = vals)
    (hf : ∀ w, Sem.run Try.prog (callFunc F vals) w = .ok (.enter F vals) w)
    {Post : Ending → World → Prop} (h : Calls Try.prog F vals w Post) (hK : ∀ e w', Post e w' → ∃ v, e = .returned v ∧ K (a.put o.dst v) w') : if Region.wanted o (yielded ops a.tmps) = true then Oper.wp Try.prog o a w K Q else E := by
  refine step_call F vals hgd ?_ h hK
  have e1 : a.eval (.func F) = .func (.func F) #[] #[] := rfl
  simp [execOp, ho, resolve, hev, e1, Deferred.ofValue, invoke, hf]

theorem own_cap {base n e size : Nat} {w : World} {v : Value} {xs : List Value} (h : w.ownsRow base e size v n xs) : CapOk v := by
  rcases h.2 with ⟨rfl, _⟩ | ⟨g, cap, cur, rfl, _, _, hnc, hcm, _⟩
  · exact CapOk.mk (Nat.le_refl _) (Nat.zero_le _)
  · exact CapOk.mk hnc hcm

theorem w64i {n : Int} (h0 : -9223372036854775808 ≤ n) (h1 : n ≤ 9223372036854775807) : wrap64 n = n := by unfold wrap64; omega
theorem k64i {n : Int} (h0 : -9223372036854775808 ≤ n) (h1 : n ≤ 9223372036854775807) : IntKind.i64.wrap n = n := by rw [IntKind.wrap_i64]; omega

theorem drew2 (w : World) (a b : Nat) : (w.drewN a).drewN b = w.drewN (a + b) := by simp
theorem drew3 (w : World) (a b c : Nat) : ((w.drewN a).drewN b).drewN c = w.drewN (a + b + c) := by simp

theorem own_low {b b' e size n : Nat} {w : World} {v : Value} {xs : List Value} (h : w.ownsRow b e size v n xs) (hb : b' ≤ b) : w.ownsRow b' e size v n xs := ⟨h.1, h.2.imp id (fun ⟨g, cap, cur, q1, q2, q3⟩ => ⟨g, cap, cur, q1, Nat.le_trans hb q2, q3⟩)⟩

/-- One int more, in a region that draws its order. -/
theorem grow_int {base : Nat} {wr W w' : World} {v v' : Value} {os : List Int} {u : Int} {o : Obj} (hown : wr.ownsRow base 3 1 v os.length (os.map mI)) (hbase : base ≤ wr.heap.size) (hP : Pushd wr W o)
    (h1 : w'.ownsRow base 3 1 v' (os.length + 1) (os.map mI ++ [.int .i64 u])) (hg : W.grownBy w' v.ownBlock) :
    w'.ownsRow base 3 1 v' (os ++ [u]).length ((os ++ [u]).map mI) ∧ Below base wr w' := by
  refine ⟨by rw [List.length_append, List.map_append]; exact h1, (hP.below.mono hbase).grown hg (by rw [hP.size]; omega) (fun k hk => (hown.lt k hk).1)⟩


/-- Outside one block nothing has changed. -/
structure Obk (g : Nat) (w w' : World) : Prop where
  os : w'.os = w.os
  tape : w'.tape = w.tape
  output : w'.output = w.output
  size : w'.heap.size = w.heap.size
  block : ∀ k, k ≠ g → w'.heap[k]? = w.heap[k]?
theorem Obk.trans {g : Nat} {a b c : World} (h : Obk g a b) (k : Obk g b c) : Obk g a c := ⟨k.os.trans h.os, k.tape.trans h.tape, k.output.trans h.output, k.size.trans h.size, fun i hi => (k.block i hi).trans (h.block i hi)⟩
theorem Obk.refl (g : Nat) (w : World) : Obk g w w := ⟨rfl, rfl, rfl, rfl, fun _ _ => rfl⟩
theorem obk_put {w : World} {b : Nat} (o : Nat) (u : Value) : Obk b w (w.setCell ⟨b, o, none⟩ u) := ⟨rfl, rfl, rfl, by simp [World.setCell], fun k hk => Below.heap_setCell _ _ _ _ (by show k ≠ b; exact hk)⟩
theorem Obk.drew {g : Nat} {a b : World} (h : Obk g a b) : Obk g a b.drew := ⟨h.os, h.tape, h.output, h.size, h.block⟩

/-- Outside the blocks of O nothing has changed. -/
structure FrO (O : Nat → Prop) (w w' : World) : Prop where
  os : w'.os = w.os
  tape : w'.tape = w.tape
  output : w'.output = w.output
  size : w.heap.size ≤ w'.heap.size
  block : ∀ k, ¬ O k → w'.heap[k]? = w.heap[k]?
theorem FrO.refl (O : Nat → Prop) (w : World) : FrO O w w := ⟨rfl, rfl, rfl, Nat.le_refl _, fun _ _ => rfl⟩
theorem FrO.trans {O : Nat → Prop} {a b c : World} (h : FrO O a b) (k : FrO O b c) : FrO O a c := ⟨k.os.trans h.os, k.tape.trans h.tape, k.output.trans h.output, Nat.le_trans h.size k.size, fun i hi => (k.block i hi).trans (h.block i hi)⟩
theorem FrO.mono {O O' : Nat → Prop} {a b : World} (h : FrO O a b) (hO : ∀ k, O k → O' k) : FrO O' a b := ⟨h.os, h.tape, h.output, h.size, fun k hk => h.block k (fun e => hk (hO k e))⟩
theorem FrO.drew {O : Nat → Prop} {a b : World} (h : FrO O a b) : FrO O a b.drew := ⟨h.os, h.tape, h.output, h.size, h.block⟩
theorem fro_of {O : Nat → Prop} {a b : World} (h : Below a.heap.size a b) (hO : ∀ k, a.heap.size ≤ k → O k) : FrO O a b := ⟨h.os, h.tape, h.output, h.size, fun k hk => h.block k (by apply Nat.lt_of_not_le; intro e; exact hk (hO k e))⟩
theorem Obk.fro {O : Nat → Prop} {g : Nat} {a b : World} (h : Obk g a b) (hO : O g) : FrO O a b := ⟨h.os, h.tape, h.output, by rw [h.size]; exact Nat.le_refl _, fun k hk => h.block k (fun e => hk (e ▸ hO))⟩
theorem FrO.below {O : Nat → Prop} {a b : World} {m : Nat} (h : FrO O a b) (hO : ∀ k, k < m → ¬ O k) : Below m a b := ⟨h.os, h.tape, h.output, h.size, fun k hk => h.block k (hO k hk)⟩

/-- A row that is owned, as a row of cells, and back. -/
theorem own_row {base e sz n : Nat} {w : World} {v : Value} {xs : List Value} (h : w.ownsRow base e sz v n xs) (hp : 0 < n) : ∃ g cap m F, v = .slice (some ⟨g, 0, none⟩) n cap ∧ g < w.heap.size ∧ w.rowIs g e m F ∧ n * sz ≤ m ∧ (∀ k, k < n * sz → xs[k]? = some (F k)) ∧
    ∀ (w' : World) (F' : Nat → Value) (ys : List Value), w'.rowIs g e m F' → ys.length = n * sz → (∀ k, k < n * sz → ys[k]? = some (F' k)) → w'.ownsRow base e sz v n ys := by
  obtain ⟨hl, h⟩ := h
  rcases h with ⟨-, h⟩ | ⟨g, cap, cur, rfl, hb, hg, hnc, hcm, hcs, ht⟩
  · omega
  · have hm : n * sz ≤ cap * sz := Nat.mul_le_mul_right _ hnc
    refine ⟨g, cap, cur.size, fun k => cur[k]?.getD undef, rfl, ?_, ⟨cur, hg, rfl, fun i hi => by simp [Array.getElem?_eq_getElem hi]⟩, by omega, fun k hk => ?_, fun w' F' ys hr hy hF => ?_⟩
    · rcases Nat.lt_or_ge g w.heap.size with h | h
      · exact h
      · rw [Array.getElem?_eq_none h] at hg; cases hg
    · rw [← ht, List.getElem?_take_of_lt hk, Array.getElem?_toList, Array.getElem?_eq_getElem (show k < cur.size by omega)]; simp [Array.getElem?_eq_getElem (show k < cur.size by omega)]
    · obtain ⟨c, h1, h2, h3⟩ := hr
      refine ⟨hy, Or.inr ⟨g, cap, c, rfl, hb, h1, hnc, hcm, by omega, ?_⟩⟩
      refine List.ext_getElem? (fun k => ?_)
      by_cases hk : k < n * sz
      · rw [List.getElem?_take_of_lt hk, Array.getElem?_toList, h3 k (by omega), hF k hk]
      · rw [List.getElem?_eq_none (by rw [List.length_take]; omega), List.getElem?_eq_none (by omega)]
theorem own_blk {base e sz n : Nat} {w w' : World} {v : Value} {xs : List Value} (h : w.ownsRow base e sz v n xs) (hs : ∀ q, v.ownBlock = some q → w'.heap[q]? = w.heap[q]?) : w'.ownsRow base e sz v n xs := by
  refine ⟨h.1, ?_⟩
  rcases h.2 with hn | ⟨g, cap, cur, rfl, hb, hg, rest⟩
  · exact .inl hn
  · exact .inr ⟨g, cap, cur, rfl, hb, (hs g rfl).trans hg, rest⟩
theorem own_lt {base e sz n : Nat} {w : World} {v : Value} {xs : List Value} (h : w.ownsRow base e sz v n xs) : ∀ q, v.ownBlock = some q → q < w.heap.size := fun q hq => (h.lt q hq).2

/-- The blocks of O but those from a on and below b. -/
def Sk (O : Nat → Prop) (a b : Nat) : Nat → Prop := fun k => O k ∧ (k < a ∨ b ≤ k)
theorem Sk.sub {O : Nat → Prop} {a b : Nat} : ∀ k, Sk O a b k → O k := fun _ h => h.1
theorem Sk.top {O : Nat → Prop} {a b m : Nat} (hO : ∀ k, a ≤ k → O k) (h : a ≤ m) (h2 : b ≤ m) : ∀ k, m ≤ k → Sk O a b k := fun k hk => ⟨hO k (by omega), Or.inr (by omega)⟩


set_option maxHeartbeats 1000000 in
theorem l1start_any (v : Value) (xs : List El) (lo en : Nat) (w : World) (hv : ElsAt 0 w.heap.size w v xs) (hlen : xs.length ≤ 1048576) (hle : lo < en) (hen : en ≤ xs.length)
    (h1 : wsum ((xs.take en).drop lo) = 1) (h2 : ∀ k : Nat, lo < k → k ≤ en → wsum ((xs.take en).drop k) ≤ 0) :
    Calls Try.prog 34 #[v, .int .i64 (en : Int)] w fun e w' => e = .returned (.int .i64 (lo : Int)) ∧ w' = w := by
  obtain ⟨a, cap, rfl, hl, hc⟩ := hv
  have H2 := hide h2
  have H1 := hide h1
  clear h1 h2
  have hE : (xs.take en).length = en := by rw [List.length_take]; omega
  go_enter Try.func34, Try.ntmps34
  go_wp2
  go_loop [5, 6] (fun n i => ∃ k : Nat, lo ≤ k ∧ k ≤ en ∧ i = .int .i64 (k : Int) ∧ n = .int .i64 (1 - wsum ((xs.take en).drop k))) (fun _ i => (intOf i).toNat)
  case atStart => exact ⟨en, by omega, Nat.le_refl _, rfl, by rw [List.drop_eq_nil_of_le (by omega)]; rfl⟩
  case round =>
    obtain ⟨k, hk, hk2, rfl, rfl⟩ := hrel
    by_cases hgt : lo < k
    · cases k with
      | zero => omega
      | succ k =>
        obtain ⟨b, off, rfl, -, hbn, hel⟩ := hc (by omega)
        obtain ⟨i1, i2, i3, v, c0, c1, c2, c3, hints⟩ := hel k (by omega)
        have hws := wsum_drop (xs := xs.take en) (k := k) (by omega)
        have hbd := wsum_bd ((xs.take en).drop (k + 1))
        rw [List.length_drop, hE] at hbd
        rw [List.getElem?_take_of_lt (by omega)] at hws
        have hs0 := unhide H2 (k + 1) hgt hk2
        have hkk : (k : Int) < (xs.length : Int) := by omega
        clear hE
        generalize hS : wsum ((xs.take en).drop (k + 1)) = s at *
        generalize xs[k]?.getD dE = x at *
        have Hws := hide hws
        have HS := hide hS
        clear hws hS hints i2 i3 c1 c2 c3
        have hwt : wt x = if x.kind = 0 ∨ x.kind = 1 then 1 else if x.kind = 2 ∨ x.kind = 3 then -1 else 0 := rfl
        generalize wt x = t at *
        generalize x.kind = q at *
        have Hwt := hide hwt
        clear hwt
        by_cases q0 : q = 0
        · subst q0
          have ht : t = 1 := unhide Hwt
          go_wp2
          go_round
          case rel => exact ⟨k, by omega, by omega, by congr 1, by have := unhide Hws; congr 1; omega⟩
          case measure => simp [intOf]
        · by_cases q1 : q = 1
          · subst q1
            have ht : t = 1 := unhide Hwt
            go_wp2
            go_round
            case rel => exact ⟨k, by omega, by omega, by congr 1, by have := unhide Hws; congr 1; omega⟩
            case measure => simp [intOf]
          · by_cases q2 : q = 2
            · subst q2
              have ht : t = -1 := unhide Hwt
              go_wp2
              go_round
              case rel => exact ⟨k, by omega, by omega, by congr 1, by have := unhide Hws; congr 1; omega⟩
              case measure => simp [intOf]
            · by_cases q3 : q = 3
              · subst q3
                have ht : t = -1 := unhide Hwt
                go_wp2
                go_round
                case rel => exact ⟨k, by omega, by omega, by congr 1, by have := unhide Hws; congr 1; omega⟩
                case measure => simp [intOf]
              · have ht : t = 0 := by rw [unhide Hwt, if_neg (by omega), if_neg (by omega)]
                have b0 : (q == 0) = false := by simp [q0]
                have b1 : (q == 1) = false := by simp [q1]
                have b2 : (q == 2) = false := by simp [q2]
                have b3 : (q == 3) = false := by simp [q3]
                go_wp2
                go_round
                case rel => exact ⟨k, by omega, by omega, by congr 1, by have := unhide Hws; congr 1; omega⟩
                case measure => simp [intOf]
    · obtain rfl : k = lo := by omega
      rw [unhide H1]
      by_cases hk0 : 0 < k
      · have hk0' : 0 < (k : Int) := by omega
        go_wp2
        go_ret
        exact ⟨rfl, rfl⟩
      · have hk0' : ¬ 0 < (k : Int) := by omega
        go_wp2
        go_ret
        exact ⟨rfl, rfl⟩


theorem ElsAt.pre {lo n : Nat} {w : World} {a : Option Addr} {len cap : Nat} {p q : List El} (h : ElsAt lo n w (.slice a len cap) (p ++ q)) : ElsAt lo n w (.slice a p.length cap) p := by
  obtain ⟨a', cap', e, hl, hc⟩ := h
  simp only [Value.slice.injEq] at e
  obtain ⟨rfl, -, rfl⟩ := e
  rw [List.length_append] at hl hc
  refine ⟨a, cap, rfl, ⟨by omega, hl.2⟩, fun hp => ?_⟩
  obtain ⟨b, off, rfl, h1, h2, h3⟩ := hc (by omega)
  exact ⟨b, off, rfl, h1, h2, fun i hi => by have := h3 i (by omega); rwa [List.getElem?_append_left hi] at this⟩

theorem ElsAt.mid {lo n : Nat} {w : World} {b off len cap cap' : Nat} {p q r : List El} (h : ElsAt lo n w (.slice (some ⟨b, off, none⟩) len cap) (p ++ q ++ r)) (hcap : q.length ≤ cap' ∧ cap' ≤ maxLen) : ElsAt lo n w (.slice (some ⟨b, off + p.length * 4, none⟩) q.length cap') q := by
  obtain ⟨a', cap'', e, hl, hc⟩ := h
  simp only [Value.slice.injEq] at e
  obtain ⟨rfl, -, rfl⟩ := e
  rw [List.length_append, List.length_append] at hl hc
  refine ⟨_, cap', rfl, hcap, fun hp => ?_⟩
  obtain ⟨b', off', e2, h1, h2, h3⟩ := hc (by omega)
  simp only [Option.some.injEq, Addr.mk.injEq, and_true] at e2
  obtain ⟨rfl, rfl⟩ := e2
  refine ⟨b, _, rfl, h1, h2, fun i hi => ?_⟩
  have := h3 (p.length + i) (by omega)
  rw [List.append_assoc, List.getElem?_append_right (by omega), show p.length + i - p.length = i by omega, List.getElem?_append_left hi] at this
  rwa [show off + p.length * 4 + i * 4 = off + (p.length + i) * 4 by omega]

theorem ElsAt.last {lo n : Nat} {w : World} {a : Option Addr} {len cap : Nat} {p : List El} {x : El} (h : ElsAt lo n w (.slice a len cap) (p ++ [x])) :
    len = p.length + 1 ∧ (len ≤ cap ∧ cap ≤ maxLen) ∧ ∃ b off, a = some ⟨b, off, none⟩ ∧ b < n ∧ ElAt lo n w b (off + p.length * 4) x := by
  obtain ⟨a', cap', e, hl, hc⟩ := h
  simp only [Value.slice.injEq] at e
  obtain ⟨rfl, e1, rfl⟩ := e
  rw [List.length_append] at e1 hl hc
  simp only [List.length_singleton] at e1 hl hc
  obtain ⟨b, off, rfl, h1, h2, h3⟩ := hc (by omega)
  have := h3 p.length (by omega)
  exact ⟨e1, ⟨by omega, hl.2⟩, b, off, rfl, h2, by simpa using this⟩

theorem l1start_bin (v : Value) (l r : List El) (cr : Int) (x : El) (z : Int) (w : World) (sr : SegM r cr) (hv : ElsAt 0 w.heap.size w v (l ++ r ++ [x])) (hlen : l.length + r.length + 1 ≤ 1048576) (hz : z = l.length + r.length) :
    Calls Try.prog 34 #[v, .int .i64 z] w fun e w' => e = .returned (.int .i64 (l.length : Int)) ∧ w' = w := by
  subst hz
  have pr := sr.ne
  have h := l1start_any v (l ++ r ++ [x]) l.length (l.length + r.length) w hv (by simp; omega) (by omega) (by simp) ?_ ?_
  · rwa [Int.natCast_add] at h
  · rw [show l.length + r.length = (l ++ r).length by simp, List.take_left' rfl, List.drop_left' rfl]
    exact sr.ws
  · intro k h1 h2
    rw [show l.length + r.length = (l ++ r).length by simp, List.take_left' rfl, List.drop_append, List.drop_eq_nil_of_le (by omega), List.nil_append]
    exact sr.tl _ (by omega) (by omega)

/-- The model counts the size of this list as c. -/
def SzS (l : List El) (c : Int) : Prop := ∀ (v : Value) (w : World), ElsAt 0 w.heap.size w v l → l.length ≤ 1048576 → Calls Try.prog 15 #[v] w fun e w' => e = .returned (.int .i64 c) ∧ Below w.heap.size w w'

set_option maxHeartbeats 2000000 in
theorem l1size_bin (k : Int) (hk : k = 2 ∨ k = 3) (l r : List El) (cl cr : Int) (sl : SegM l cl) (sr : SegM r cr) (Hl : SzS l cl) (Hr : SzS r cr)
    (v : Value) (w : World) (hv : ElsAt 0 w.heap.size w v (l ++ r ++ [⟨k, [], 0, 0⟩])) (hlen : (l ++ r ++ [(⟨k, [], 0, 0⟩ : El)]).length ≤ 1048576) :
    Calls Try.prog 15 #[v] w fun e w' => e = .returned (.int .i64 (cap (cl + cr))) ∧ Below w.heap.size w w' := by
  have hv0 := hv
  obtain ⟨a, cp, rfl, -, -⟩ := id hv
  obtain ⟨hlen2, hcap, b, off, rfl, hbn, hel⟩ := hv.last
  rw [hlen2] at hv hv0 hcap ⊢
  simp only [List.length_append, List.length_singleton] at hv hv0 hlen hlen2 hel hcap ⊢
  unfold maxLen at hcap
  obtain ⟨i1, i2, i3, sv, c0, c1, c2, c3, hints⟩ := hel
  obtain ⟨sa, sc, rfl, -, -, -⟩ := id hints
  simp only at c0 c2 c3
  clear hlen2 i1 i2 i3 hints
  have e1 : (((l.length + r.length + 1 : Nat) : Int) - 1) = ((l.length + r.length : Nat) : Int) := by omega
  have bl := sl.bd
  have br := sr.bd
  have pl := sl.ne
  have pr := sr.ne
  have hvL : ElsAt 0 w.heap.size w (.slice (some ⟨b, off, none⟩) l.length cp) (l) := by rw [List.append_assoc] at hv0; exact hv0.pre
  have hvR := hv0.mid (cap' := cp - l.length) (by unfold maxLen; omega)
  have HvL := hide hvL
  have HvR := hide hvR
  have Hv0 := hide hv0
  clear hvL hvR hv hv0
  rcases hk with rfl | rfl
  all_goals
    go_enter Try.func15, Try.ntmps15
    go_wp2_with fail
    refine (l1start_bin _ l r cr _ _ _ sr (by exact (unhide Hv0).below (below1 w _) (Nat.le_refl _)) hlen rfl).mono ?_
    rintro e w1 ⟨rfl, rfl⟩
    go_wp2_with fail
    refine (Hl _ _ (by exact (unhide HvL).below (below1 w _) (Nat.le_refl _)) (by omega)).mono ?_
    rintro e w1 ⟨rfl, hb1⟩
    have hB1 : Below w.heap.size w w1 := (below1 w _).trans (hb1.mono (by rw [sz_alloc]; omega))
    clear hb1
    go_wp2_with fail
    refine (Hr _ _ (by exact (unhide HvR).below hB1 (Nat.le_refl _)) (by omega)).mono ?_
    rintro e w2 ⟨rfl, hb2⟩
    have hB2 : Below w.heap.size w w2 := hB1.trans (hb2.mono hB1.size)
    clear hb2
    by_cases hc5 : 500 < cl + cr
    · go_wp2
      go_ret
      exact ⟨ret_int (by unfold cap; rw [if_pos hc5]), hB2⟩
    · go_wp2
      go_ret
      exact ⟨ret_int (by unfold cap; rw [if_neg (by omega)]), hB2⟩

theorem cap_gt {n : Int} (h : 500 < n) : cap n = 501 := by unfold cap; rw [if_pos h]
theorem cap_le {n : Int} (h : ¬ 500 < n) : cap n = n := by unfold cap; rw [if_neg h]
theorem repSize_a {c mn : Int} (h : mn < 1) : repSize c mn (-1) = c + 1 := by unfold repSize; rw [if_pos rfl, if_pos h]; omega
theorem repSize_b {c mn : Int} (h : ¬ mn < 1) : repSize c mn (-1) = mn * c + 1 := by unfold repSize; rw [if_pos rfl, if_neg h]
theorem repSize_c {c mn : Int} : repSize c mn 0 = c := by unfold repSize; rw [if_neg (by omega), if_pos rfl]
theorem repSize_d {c mn mx : Int} (h1 : mx ≠ -1) (h2 : mx ≠ 0) : repSize c mn mx = mn * c + (mx - mn) * (c + 1) := by unfold repSize; rw [if_neg h1, if_neg h2]

set_option maxHeartbeats 2000000 in
theorem l1size_rep (mn mx : Int) (x : List El) (c : Int) (sx : SegM x c) (o2 : 0 ≤ mn) (o3 : mn ≤ 250) (o4 : mx = -1 ∨ (mn ≤ mx ∧ mx ≤ 250)) (Hx : SzS x c)
    (v : Value) (w : World) (hv : ElsAt 0 w.heap.size w v (x ++ [⟨4, [], mn, mx⟩])) (hlen : (x ++ [(⟨4, [], mn, mx⟩ : El)]).length ≤ 1048576) :
    Calls Try.prog 15 #[v] w fun e w' => e = .returned (.int .i64 (cap (repSize c mn mx))) ∧ Below w.heap.size w w' := by
  obtain ⟨a, cp, rfl, -, -⟩ := id hv
  obtain ⟨hlen2, hcap, b, off, rfl, hbn, hel⟩ := hv.last
  rw [hlen2] at hv hcap ⊢
  simp only [List.length_append, List.length_singleton] at hv hlen hlen2 hel hcap ⊢
  unfold maxLen at hcap
  obtain ⟨i1, i2, i3, sv, c0, c1, c2, c3, hints⟩ := hel
  obtain ⟨sa, sc, rfl, -, -, -⟩ := id hints
  simp only at c0 c2 c3
  clear hlen2 i1 i2 i3 hints
  have bx := sx.bd
  have px := sx.ne
  have HvX := hide hv.pre
  clear hv
  have m1 : mn * c ≤ 250 * 501 := Int.mul_le_mul o3 bx.2 bx.1 (by omega)
  have m0 : 0 ≤ mn * c := Int.mul_nonneg o2 bx.1
  rcases o4 with rfl | ⟨o4, o5⟩
  · by_cases hm1 : mn < 1
    · rw [repSize_a hm1]
      by_cases hc5 : 500 < c + 1
      · rw [cap_gt hc5]
        go_enter Try.func15, Try.ntmps15
        go_wp2_with fail
        refine (Hx _ _ (by exact (unhide HvX).below (below1 w _) (Nat.le_refl _)) (by omega)).mono ?_
        rintro e w1 ⟨rfl, hb1⟩
        obtain ⟨hc1, hf1⟩ := bcell hb1
        simp only [sz_alloc] at hc1 hf1
        have hB1 : Below w.heap.size w w1 := (below1 w _).trans (hb1.mono (by rw [sz_alloc]; omega))
        clear hb1
        go_wp2
        go_ret
        exact ⟨rfl, hB1⟩
      · rw [cap_le hc5]
        go_enter Try.func15, Try.ntmps15
        go_wp2_with fail
        refine (Hx _ _ (by exact (unhide HvX).below (below1 w _) (Nat.le_refl _)) (by omega)).mono ?_
        rintro e w1 ⟨rfl, hb1⟩
        obtain ⟨hc1, hf1⟩ := bcell hb1
        simp only [sz_alloc] at hc1 hf1
        have hB1 : Below w.heap.size w w1 := (below1 w _).trans (hb1.mono (by rw [sz_alloc]; omega))
        clear hb1
        go_wp2
        go_ret
        exact ⟨rfl, hB1⟩
    · rw [repSize_b hm1]
      by_cases hc5 : 500 < mn * c + 1
      · rw [cap_gt hc5]
        go_enter Try.func15, Try.ntmps15
        go_wp2_with fail
        refine (Hx _ _ (by exact (unhide HvX).below (below1 w _) (Nat.le_refl _)) (by omega)).mono ?_
        rintro e w1 ⟨rfl, hb1⟩
        obtain ⟨hc1, hf1⟩ := bcell hb1
        simp only [sz_alloc] at hc1 hf1
        have hB1 : Below w.heap.size w w1 := (below1 w _).trans (hb1.mono (by rw [sz_alloc]; omega))
        clear hb1
        go_wp2
        go_ret
        exact ⟨rfl, hB1⟩
      · rw [cap_le hc5]
        go_enter Try.func15, Try.ntmps15
        go_wp2_with fail
        refine (Hx _ _ (by exact (unhide HvX).below (below1 w _) (Nat.le_refl _)) (by omega)).mono ?_
        rintro e w1 ⟨rfl, hb1⟩
        obtain ⟨hc1, hf1⟩ := bcell hb1
        simp only [sz_alloc] at hc1 hf1
        have hB1 : Below w.heap.size w w1 := (below1 w _).trans (hb1.mono (by rw [sz_alloc]; omega))
        clear hb1
        go_wp2
        go_ret
        exact ⟨rfl, hB1⟩
  · by_cases hx0 : mx = 0
    · subst hx0
      rw [repSize_c]
      by_cases hc5 : 500 < c
      · rw [cap_gt hc5]
        go_enter Try.func15, Try.ntmps15
        go_wp2_with fail
        refine (Hx _ _ (by exact (unhide HvX).below (below1 w _) (Nat.le_refl _)) (by omega)).mono ?_
        rintro e w1 ⟨rfl, hb1⟩
        obtain ⟨hc1, hf1⟩ := bcell hb1
        simp only [sz_alloc] at hc1 hf1
        have hB1 : Below w.heap.size w w1 := (below1 w _).trans (hb1.mono (by rw [sz_alloc]; omega))
        clear hb1
        go_wp2
        go_ret
        exact ⟨rfl, hB1⟩
      · rw [cap_le hc5]
        go_enter Try.func15, Try.ntmps15
        go_wp2_with fail
        refine (Hx _ _ (by exact (unhide HvX).below (below1 w _) (Nat.le_refl _)) (by omega)).mono ?_
        rintro e w1 ⟨rfl, hb1⟩
        obtain ⟨hc1, hf1⟩ := bcell hb1
        simp only [sz_alloc] at hc1 hf1
        have hB1 : Below w.heap.size w w1 := (below1 w _).trans (hb1.mono (by rw [sz_alloc]; omega))
        clear hb1
        go_wp2
        go_ret
        exact ⟨rfl, hB1⟩
    · rw [repSize_d (by omega) hx0]
      have hx1 : (mx == -1) = false := by simp; omega
      have hx2 : (mx == 0) = false := by simp [hx0]
      have m2 : (mx - mn) * (c + 1) ≤ 250 * 502 := Int.mul_le_mul (by omega) (by omega) (by omega) (by omega)
      have m3 : 0 ≤ (mx - mn) * (c + 1) := Int.mul_nonneg (by omega) (by omega)
      by_cases hc5 : 500 < mn * c + (mx - mn) * (c + 1)
      · rw [cap_gt hc5]
        go_enter Try.func15, Try.ntmps15
        go_wp2_with fail
        refine (Hx _ _ (by exact (unhide HvX).below (below1 w _) (Nat.le_refl _)) (by omega)).mono ?_
        rintro e w1 ⟨rfl, hb1⟩
        obtain ⟨hc1, hf1⟩ := bcell hb1
        simp only [sz_alloc] at hc1 hf1
        have hB1 : Below w.heap.size w w1 := (below1 w _).trans (hb1.mono (by rw [sz_alloc]; omega))
        clear hb1
        go_wp2
        go_ret
        exact ⟨rfl, hB1⟩
      · rw [cap_le hc5]
        go_enter Try.func15, Try.ntmps15
        go_wp2_with fail
        refine (Hx _ _ (by exact (unhide HvX).below (below1 w _) (Nat.le_refl _)) (by omega)).mono ?_
        rintro e w1 ⟨rfl, hb1⟩
        obtain ⟨hc1, hf1⟩ := bcell hb1
        simp only [sz_alloc] at hc1 hf1
        have hB1 : Below w.heap.size w w1 := (below1 w _).trans (hb1.mono (by rw [sz_alloc]; omega))
        clear hb1
        go_wp2
        go_ret
        exact ⟨rfl, hB1⟩

set_option maxHeartbeats 2000000 in
theorem l1size_leaf (k : Int) (hk : k = 0 ∨ k = 1) (st : List Int) (v : Value) (w : World) (hv : ElsAt 0 w.heap.size w v [⟨k, st, 0, 0⟩]) :
    Calls Try.prog 15 #[v] w fun e w' => e = .returned (.int .i64 1) ∧ Below w.heap.size w w' := by
  obtain ⟨a, cp, rfl, -, hc⟩ := hv
  obtain ⟨b, off, rfl, -, hbn, hel⟩ := hc (by simp)
  obtain ⟨i1, i2, i3, sv, c0, c1, c2, c3, hints⟩ := hel 0 (by simp)
  obtain ⟨sa, sc, rfl, -, -, -⟩ := id hints
  simp only [List.getElem?_cons_zero, Option.getD_some, Nat.zero_mul, Nat.add_zero] at c0 c1 c2 c3
  clear hel hc hints i1 i2 i3
  rcases hk with rfl | rfl
  all_goals
    go_enter Try.func15, Try.ntmps15
    go_wp2
    go_ret
    exact ⟨rfl, below1 w _⟩

theorem PushR.szs {st st' : List (List El × Int)} {x : El} (h : PushR st x st') (ok : ElOk x) (hs : ∀ s ∈ st, SegM s.1 s.2 ∧ SzS s.1 s.2) : ∀ s ∈ st', SegM s.1 s.2 ∧ SzS s.1 s.2 := by
  have hseg := h.seg ok (fun s hs' => (hs s hs').1)
  refine fun s hm => ⟨hseg s hm, ?_⟩
  obtain ⟨k, xs, mn, mx⟩ := x
  rcases h with ⟨hk, rfl⟩ | ⟨hk, b, l, r, rfl, rfl⟩ | ⟨hk, b, o, rfl, rfl⟩
  · simp only [List.mem_append, List.mem_singleton] at hm; rcases hm with hm | rfl
    · exact (hs s hm).2
    · intro v w hv _
      rcases ok with ⟨q1, q2, q3, q4⟩ | ⟨q1, q2, q3, q4⟩ | ⟨q1, q2, q3, q4, q5⟩ <;> simp only at hk q1 q2 q3 q4
      · subst q3 q4; exact l1size_leaf k hk xs v w hv
      · subst q3 q4; exact l1size_leaf k hk xs v w hv
      · omega
  · simp only [List.mem_append, List.mem_singleton] at hm; rcases hm with hm | rfl
    · exact (hs s (by simp [hm])).2
    · rcases ok with ⟨q1, q2, q3, q4⟩ | ⟨q1, q2, q3, q4⟩ | ⟨q1, q2, q3, q4, q5⟩ <;> simp only at hk q1 q2 q3 q4
      · omega
      · subst q3 q4
        obtain rfl := List.eq_nil_of_length_eq_zero q2
        exact fun v w hv hlen => l1size_bin k hk l.1 r.1 l.2 r.2 (hs l (by simp)).1 (hs r (by simp)).1 (hs l (by simp)).2 (hs r (by simp)).2 v w hv hlen
      · omega
  · simp only [List.mem_append, List.mem_singleton] at hm; rcases hm with hm | rfl
    · exact (hs s (by simp [hm])).2
    · rcases ok with ⟨q1, q2, q3, q4⟩ | ⟨q1, q2, q3, q4⟩ | ⟨q1, q2, q3, q4, q5⟩ <;> simp only at hk q1 q2 q3 q4
      · omega
      · omega
      · subst hk
        obtain rfl := List.eq_nil_of_length_eq_zero q2
        exact fun v w hv hlen => l1size_rep mn mx o.1 o.2 (hs o (by simp)).1 q3 q4 q5 (hs o (by simp)).2 v w hv hlen

/-- A list of good elements in the right shape is a tree, and the model counts its size. -/
theorem exists_seg {xs : List El} (ok : ∀ i : Nat, i < xs.length → ElOk (xs[i]?.getD dE)) (sh : Shape xs) : ∃ c, SegM xs c ∧ SzS xs c := by
  have key : ∀ k : Nat, k ≤ xs.length → ∃ st, flats st = xs.take k ∧ ∀ s ∈ st, SegM s.1 s.2 ∧ SzS s.1 s.2 := by
    intro k
    induction k with
    | zero => intro _; exact ⟨[], by simp [flats], by simp⟩
    | succ k ih =>
      intro hk
      obtain ⟨st, hst, hok⟩ := ih (by omega)
      have hx := ok k (by omega)
      have h1 : wsum (xs.take (k + 1)) + wsum (xs.drop (k + 1)) = 1 := by rw [← wsum_append, List.take_append_drop]; exact sh.1
      have h2 := sh.2 (k + 1) (by omega) hk
      have h3 := wsum_flats (fun s hs => (hok s hs).1.ws)
      rw [hst] at h3
      rw [take_next (by omega), wsum_append, h3] at h1
      simp only [wsum] at h1
      obtain ⟨st', hp⟩ := PushR.ex (st := st) hx (by omega)
      exact ⟨st', by rw [hp.flats, hst, take_next (by omega)], hp.szs hx hok⟩
  obtain ⟨st, hst, hok⟩ := key xs.length (Nat.le_refl _)
  rw [List.take_length] at hst
  have h3 := wsum_flats (fun s hs => (hok s hs).1.ws)
  rw [hst, sh.1] at h3
  obtain ⟨t, rfl⟩ := List.length_eq_one_iff.1 (show st.length = 1 by omega)
  obtain ⟨a, b⟩ := hok t (by simp)
  rw [flats_one] at hst
  rw [hst] at a b
  exact ⟨t.2, a, b⟩

end Go.Proofs.Ytjjmgegbeccjoaa
