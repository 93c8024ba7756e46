import Derived.Test.YtfdkdjngeomcdaaDoorP1
import Derived.OwnWalk
import Derived.Maps.AppendAt
import Derived.Laws.AppendOwnNone
import Derived.Deep.AppendLies
import Derived.Deep.RegionLaw
import Derived.BigRegion
import Derived.RangeFuncBox
namespace Go.Proofs.YtfdkdjngeomcdaaDoor
open Go.RowKit

theorem own_slw {base lo n : Nat} {w : World} {v : Value} {xs : List Int} (h : w.ownsRow base 3 1 v n (xs.map mI)) (hlo : lo ≤ base) (hn : n ≤ maxLen) : SlW mI 0 lo w.heap.size w v xs := by
  have hlen := h.1
  rw [List.length_map, Nat.mul_one] at hlen
  rcases h.2 with ⟨rfl, hz⟩ | ⟨g, cap, cur, rfl, hbg, hg, hnc, hcm, hcs, htake⟩
  · exact ⟨none, 0, by rw [hlen, hz], by omega, fun hp => by omega⟩
  · refine ⟨_, cap, by rw [hlen], by omega, fun hp => ⟨g, 0, rfl, by omega, (h.lt g rfl).2, ⟨cur, _, hg⟩, fun i hi => ?_⟩⟩
    rw [Nat.zero_add, h.cellAt i (by omega), List.getElem?_map, List.getElem?_eq_getElem hi]
    rfl

theorem cell_1 {W : World} {N : Nat} {u : Value} (h : W.cell? ⟨N, 0, none⟩ = some u) : ∀ (j : Nat) (y : Value), [u][j]? = some y → W.cell? ((⟨N, 0, none⟩ : Addr).add j) = some y := by
  intro j y hj
  match j, hj with
  | 0, hj => simp at hj; subst hj; exact h

theorem own_at {base n : Nat} {w : World} {v : Value} {xs : List Value} (h : w.ownsRow base 3 1 v n xs) (hp : 0 < n) : ∃ g cap, v = .slice (some ⟨g, 0, none⟩) n cap ∧ ∀ j : Nat, j < n → w.cell? ⟨g, j, none⟩ = xs[j]? := by
  rcases h.2 with ⟨rfl, hz⟩ | ⟨g, cap, cur, rfl, hbg, hg, hnc, hcm, hcs, htake⟩
  · omega
  · exact ⟨g, cap, rfl, fun j hj => h.cellAt j (by omega)⟩

theorem getD_of_lt {xs : List Int} {i : Nat} (h : i < xs.length) : xs[i]? = some (xs[i]?.getD 0) := by rw [List.getElem?_eq_getElem h]; rfl

theorem own_keep {base n m e size : Nat} {w w' : World} {v : Value} {xs : List Value} (h : w.ownsRow base e size v n xs) (hb : Below m w w') (hm : w.heap.size ≤ m) : w'.ownsRow base e size v n xs :=
  h.kept (show w.grownBy w' none from ⟨hb.os, hb.tape, hb.output, hb.size, fun k hk _ => hb.block k (by omega)⟩) (by cases v.ownBlock <;> simp)

theorem own_is {base n e size : Nat} {w : World} {v : Value} {xs : List Value} (h : w.ownsRow base e size v n xs) : ∃ oa oc, v = .slice oa n oc := by
  rcases h.2 with ⟨rfl, hz⟩ | ⟨q, cap, cur, rfl, -⟩
  · exact ⟨none, 0, by rw [hz]⟩
  · exact ⟨_, _, rfl⟩

theorem run_append_none_c {P : Program} {w : World} (base : Nat) (t ty e : TypeId) (i : TypeInfo) (size : Nat) (ht : P.underlying t = some (.slice e)) (hi : P.info? e = some i)
    (v : Value) (n : Nat) (xs : List Value) (hown : w.ownsRow base e size v n xs) (c : Nat) : (Builtin.append_ #[t, t] ty #[v, .slice none 0 c]).run P w = .ok v w := by
  rcases hown.2 with ⟨rfl, rfl⟩ | ⟨g, cap, cur, rfl, _, _, hnc, _⟩
  · simp [Builtin.append_, run_underlying ht, sizeOf, typeInfo, hi, Builtin.lenOf, Builtin.firstCells]
  · simp [Builtin.append_, run_underlying ht, sizeOf, typeInfo, hi, Builtin.lenOf, Builtin.firstCells, hnc, storeCells]

theorem wpList_append_none_c {P : Program} {w : World} {ops : Array Oper} {rest : List Oper} {o : Oper} {a : Act} {Q : Exit → Act → World → Prop} (hgd : o.guard = none) (s x : Operand) (t : TypeId)
    (ho : o.op = .call { callee := .builtin .append, args := #[s, x], argTypes := #[t, t] })
    (base : Nat) (e : TypeId) (i : TypeInfo) (size : Nat) (ht : P.underlying t = some (.slice e)) (hi : P.info? e = some i)
    (v : Value) (n : Nat) (xs : List Value) (hs : a.eval s = v) (hown : w.ownsRow base e size v n xs) (c : Nat) (hx : a.eval x = .slice none 0 c)
    (h : wpList P ops Q rest (a.put o.dst v) w) : wpList P ops Q (o :: rest) a w := by
  refine wpList_plain hgd fun K hK => ?_
  have hrun := run_append_none_c (P := P) (w := w) base t o.type e i size ht hi v n xs hown c
  unfold Oper.wp
  simp [execOp, ho, resolve, invoke, builtin, hs, hx, hrun, Result.andThen]
  exact hK _ _ h

/-- A copy of a slice of ints, by an append to nil. -/
theorem app_ints {w : World} {ops : Array Oper} {rest : List Oper} {o : Oper} {a : Act} {Q : Exit → Act → World → Prop} (hgd : o.guard = none) (s x : Operand)
    (ho : o.op = .call { callee := .builtin .append, args := #[s, x], argTypes := #[44, 44] }) (hs : a.eval s = .slice none 0 0) (sv : Value) (hx : a.eval x = sv) (xs : List Int) (hv : SlAt mI 0 0 w.heap.size w sv xs) (hlen : xs.length ≤ 1048576)
    (h : ∀ v' w', Below w.heap.size w w' → SlW mI 0 w.heap.size w'.heap.size w' v' xs → v'.oneCell' = true → wpList Tryd.prog ops Q rest (a.put o.dst v') w') : wpList Tryd.prog ops Q (o :: rest) a w := by
  obtain ⟨i0, hi, hz0, hz1, hz2⟩ := info_parts Tryd.zinInt
  obtain ⟨sa, sc, rfl, hl, hc⟩ := hv
  cases sa with
  | none =>
    have h0 : xs.length = 0 := by
      by_cases q : 0 < xs.length
      · obtain ⟨b, off, e, -⟩ := hc q; simp at e
      · omega
    rw [h0] at hx
    exact wpList_append_none_c hgd s x 44 ho w.heap.size 3 i0 1 Tryd.underlying44 hi _ 0 [] hs (World.ownsRow_nil _ _ _ _) sc hx (h _ w (Below.refl _ _) ⟨none, 0, by rw [h0], hl, fun q => absurd q (by omega)⟩ rfl)
  | some ad =>
    refine wpList_append_own_at w hgd s x 44 ho w.heap.size 3 i0 (.int .i64 0) 1 8 Tryd.underlying44 hi hz0 hz1 hz2 rfl (by decide) _ 0 [] hs (World.ownsRow_nil _ _ _ _) ad xs.length sc (xs.map mI) hx (by simp) ?_ ?_ (by rw [Nat.zero_add]; exact hl) (by omega) (Nat.le_refl _) ?_
    · intro j u hu
      have hj : j < xs.length := by
        have := (List.getElem?_eq_some_iff.1 hu).1
        simpa using this
      obtain ⟨b, off, e, -, -, hcell⟩ := hc (by omega)
      simp only [Option.some.injEq] at e
      subst e
      rw [List.getElem?_map, getD_of_lt hj] at hu
      simp only [Option.map_some, Option.some.injEq] at hu
      subst hu
      have e3 : (⟨b, off, none⟩ : Addr).add j = ⟨b, off + j, none⟩ := by cases j <;> rfl
      rw [e3]
      exact hcell j hj
    · intro u hu
      obtain ⟨y, -, rfl⟩ := List.mem_map.1 hu
      rfl
    · intro v' w' h1 hg _ _
      rw [Nat.zero_add, List.nil_append] at h1
      obtain ⟨oa, oc, rfl⟩ := own_is h1
      exact h _ w' ((Below.refl _ _).grown hg (Nat.le_refl _) (fun k hk => by cases hk)) (own_slw h1 (Nat.le_refl _) hl) rfl

/-- A copy of a slice of ints, by an append to nil. -/
theorem app_ints_own {w : World} {ops : Array Oper} {rest : List Oper} {o : Oper} {a : Act} {Q : Exit → Act → World → Prop} (hgd : o.guard = none) (s x : Operand)
    (ho : o.op = .call { callee := .builtin .append, args := #[s, x], argTypes := #[44, 44] }) (hs : a.eval s = .slice none 0 0) (sv : Value) (hx : a.eval x = sv) (xs : List Int) (hv : SlAt mI 0 0 w.heap.size w sv xs) (hlen : xs.length ≤ 1048576)
    (h : ∀ v' w', Below w.heap.size w w' → w'.ownsRow w.heap.size 3 1 v' xs.length (xs.map mI) → v'.oneCell' = true → wpList Tryd.prog ops Q rest (a.put o.dst v') w') : wpList Tryd.prog ops Q (o :: rest) a w := by
  obtain ⟨i0, hi, hz0, hz1, hz2⟩ := info_parts Tryd.zinInt
  obtain ⟨sa, sc, rfl, hl, hc⟩ := hv
  cases sa with
  | none =>
    have h0 : xs.length = 0 := by
      by_cases q : 0 < xs.length
      · obtain ⟨b, off, e, -⟩ := hc q; simp at e
      · omega
    rw [h0] at hx
    exact wpList_append_none_c hgd s x 44 ho w.heap.size 3 i0 1 Tryd.underlying44 hi _ 0 [] hs (World.ownsRow_nil _ _ _ _) sc hx (h _ w (Below.refl _ _) (by rw [List.eq_nil_of_length_eq_zero h0]; exact World.ownsRow_nil _ _ _ _) rfl)
  | some ad =>
    refine wpList_append_own_at w hgd s x 44 ho w.heap.size 3 i0 (.int .i64 0) 1 8 Tryd.underlying44 hi hz0 hz1 hz2 rfl (by decide) _ 0 [] hs (World.ownsRow_nil _ _ _ _) ad xs.length sc (xs.map mI) hx (by simp) ?_ ?_ (by rw [Nat.zero_add]; exact hl) (by omega) (Nat.le_refl _) ?_
    · intro j u hu
      have hj : j < xs.length := by
        have := (List.getElem?_eq_some_iff.1 hu).1
        simpa using this
      obtain ⟨b, off, e, -, -, hcell⟩ := hc (by omega)
      simp only [Option.some.injEq] at e
      subst e
      rw [List.getElem?_map, getD_of_lt hj] at hu
      simp only [Option.map_some, Option.some.injEq] at hu
      subst hu
      have e3 : (⟨b, off, none⟩ : Addr).add j = ⟨b, off + j, none⟩ := by cases j <;> rfl
      rw [e3]
      exact hcell j hj
    · intro u hu
      obtain ⟨y, -, rfl⟩ := List.mem_map.1 hu
      rfl
    · intro v' w' h1 hg _ _
      rw [Nat.zero_add, List.nil_append] at h1
      obtain ⟨oa, oc, rfl⟩ := own_is h1
      exact h _ w' ((Below.refl _ _).grown hg (Nat.le_refl _) (fun k hk => by cases hk)) h1 rfl

/-- W is w with one block more (and draws). -/
structure Pushd (w W : World) (o : Obj) : Prop where
  os : W.os = w.os
  tape : W.tape = w.tape
  output : W.output = w.output
  heap : W.heap = w.heap.push o
theorem Pushd.size {w W : World} {o : Obj} (h : Pushd w W o) : W.heap.size = w.heap.size + 1 := by rw [h.heap, Array.size_push]
theorem Pushd.old {w W : World} {o : Obj} (h : Pushd w W o) {k : Nat} (hk : k < w.heap.size) : W.heap[k]? = w.heap[k]? := by rw [h.heap, Array.getElem?_push_lt hk, Array.getElem?_eq_getElem hk]
theorem Pushd.new {w W : World} {o : Obj} (h : Pushd w W o) : W.heap[w.heap.size]? = some o := by rw [h.heap]; simp
theorem Pushd.below {w W : World} {o : Obj} (h : Pushd w W o) : Below w.heap.size w W := ⟨h.os, h.tape, h.output, by rw [h.size]; omega, fun k hk => h.old hk⟩
theorem Pushd.own {w W : World} {o : Obj} (h : Pushd w W o) {base n e size : Nat} {v : Value} {xs : List Value} (k : w.ownsRow base e size v n xs) : W.ownsRow base e size v n xs := own_keep k h.below (Nat.le_refl _)
theorem Pushd.news {w W : World} {cs : Array Value} {t : TypeId} (h : Pushd w W (.cells cs t)) : ∀ (j : Nat) (u : Value), cs.toList[j]? = some u → W.cell? ((⟨w.heap.size, 0, none⟩ : Addr).add j) = some u := World.news_of_block h.new

/-- A call of a function as a step of a region that draws its order. -/
theorem step_call {w : World} {ops : Array Oper} {o : Oper} {a : Act} {K : Act → World → Prop} {Q : Exit → Act → World → Prop} {E : Prop} (F : FuncId) (vals : Array Value) (hgd : o.guard = none) (hex : (execOp a.eval o).run Tryd.prog w = .ok (.enter F vals) w)
    {Post : Ending → World → Prop} (h : Calls Tryd.prog F vals w Post) (hK : ∀ e w', Post e w' → ∃ v, e = .returned v ∧ K (a.put o.dst v) w') : if Region.wanted o (yielded ops a.tmps) = true then Oper.wp Tryd.prog o a w K Q else E := by
  have hw : Region.wanted o (yielded ops a.tmps) = true := by simp [Region.wanted, hgd]
  rw [if_pos hw]
  unfold Oper.wp
  rw [hex, Oper.upon_enter]
  refine h.mono ?_
  intro e w' hP
  obtain ⟨v, rfl, hk⟩ := hK e w' hP
  exact hk

/-- A call of a function, its operands told, as a step of a region that draws its order. -/
theorem step_call_o {w : World} {ops : Array Oper} {o : Oper} {a : Act} {K : Act → World → Prop} {Q : Exit → Act → World → Prop} {E : Prop} (F : FuncId) (cargs : Array Operand) (ts : Array TypeId) (ho : o.op = .call { callee := .value (.func F), args := cargs, argTypes := ts }) (vals : Array Value) (hgd : o.guard = none) (hev : cargs.map a.eval = vals)
    (hf : ∀ w, Sem.run Tryd.prog (callFunc F vals) w = .ok (.enter F vals) w)
    {Post : Ending → World → Prop} (h : Calls Tryd.prog F vals w Post) (hK : ∀ e w', Post e w' → ∃ v, e = .returned v ∧ K (a.put o.dst v) w') : if Region.wanted o (yielded ops a.tmps) = true then Oper.wp Tryd.prog o a w K Q else E := by
  refine step_call F vals hgd ?_ h hK
  have e1 : a.eval (.func F) = .func (.func F) #[] #[] := rfl
  simp [execOp, ho, resolve, hev, e1, Deferred.ofValue, invoke, hf]

theorem own_cap {base n e size : Nat} {w : World} {v : Value} {xs : List Value} (h : w.ownsRow base e size v n xs) : CapOk v := by
  rcases h.2 with ⟨rfl, _⟩ | ⟨g, cap, cur, rfl, _, _, hnc, hcm, _⟩
  · exact CapOk.mk (Nat.le_refl _) (Nat.zero_le _)
  · exact CapOk.mk hnc hcm

theorem w64i {n : Int} (h0 : -9223372036854775808 ≤ n) (h1 : n ≤ 9223372036854775807) : wrap64 n = n := by unfold wrap64; omega
theorem k64i {n : Int} (h0 : -9223372036854775808 ≤ n) (h1 : n ≤ 9223372036854775807) : IntKind.i64.wrap n = n := by rw [IntKind.wrap_i64]; omega

theorem drew2 (w : World) (a b : Nat) : (w.drewN a).drewN b = w.drewN (a + b) := by simp
theorem drew3 (w : World) (a b c : Nat) : ((w.drewN a).drewN b).drewN c = w.drewN (a + b + c) := by simp

theorem own_low {b b' e size n : Nat} {w : World} {v : Value} {xs : List Value} (h : w.ownsRow b e size v n xs) (hb : b' ≤ b) : w.ownsRow b' e size v n xs := ⟨h.1, h.2.imp id (fun ⟨g, cap, cur, q1, q2, q3⟩ => ⟨g, cap, cur, q1, Nat.le_trans hb q2, q3⟩)⟩

/-- One int more, in a region that draws its order. -/
theorem grow_int {base : Nat} {wr W w' : World} {v v' : Value} {os : List Int} {u : Int} {o : Obj} (hown : wr.ownsRow base 3 1 v os.length (os.map mI)) (hbase : base ≤ wr.heap.size) (hP : Pushd wr W o)
    (h1 : w'.ownsRow base 3 1 v' (os.length + 1) (os.map mI ++ [.int .i64 u])) (hg : W.grownBy w' v.ownBlock) :
    w'.ownsRow base 3 1 v' (os ++ [u]).length ((os ++ [u]).map mI) ∧ Below base wr w' := by
  refine ⟨by rw [List.length_append, List.map_append]; exact h1, (hP.below.mono hbase).grown hg (by rw [hP.size]; omega) (fun k hk => (hown.lt k hk).1)⟩

end Go.Proofs.YtfdkdjngeomcdaaDoor

namespace Go.Proofs.YtfdkdjngeomcdaaDoor
open Go.RowKit

/-- The marks of bytes and of bools. -/
def cntB (k : Int) (n : Nat) : List Int := (List.range n).map (fun i : Nat => (k + (i : Int)) % 256)
theorem cntB_len (k : Int) (n : Nat) : (cntB k n).length = n := by simp [cntB]
theorem cntB_get (k : Int) (n i : Nat) (h : i < n) : (cntB k n)[i]?.getD 0 = (k + i) % 256 := by simp [cntB, h]
def cntT (k : Int) (n : Nat) : List Bool := (List.range n).map (fun i : Nat => ((k + (i : Int)) % 3 == 0))
theorem cntT_len (k : Int) (n : Nat) : (cntT k n).length = n := by simp [cntT]
theorem cntT_get (k : Int) (n i : Nat) (h : i < n) : (cntT k n)[i]?.getD false = ((k + (i : Int)) % 3 == 0) := by simp [cntT, h]

end Go.Proofs.YtfdkdjngeomcdaaDoor

namespace Go.Proofs.YtfdkdjngeomcdaaDoor
open Go.RowKit

theorem SameB.refl (lo n : Nat) (w : World) : SameB lo n w w := fun _ _ _ => rfl
theorem SameB.trans {lo n : Nat} {a b c : World} (h : SameB lo n a b) (k : SameB lo n b c) : SameB lo n a c := fun i h1 h2 => (k i h1 h2).trans (h i h1 h2)
def Bytes (bs : List Int) : Prop := ∀ i : Nat, 0 ≤ bs[i]?.getD 0 ∧ bs[i]?.getD 0 ≤ 255
theorem SlW.keep {α : Type} {mk : α → Value} {d : α} {lo n m : Nat} {w w' : World} {v : Value} {xs : List α} (h : SlW mk d lo n w v xs) (hb : Below m w w') (hn : n ≤ m) : SlW mk d lo n w' v xs := h.same (SameB.of_below hb hn)
theorem SlW.all {α : Type} {mk : α → Value} {d : α} {lo n : Nat} {w : World} {v : Value} {xs : List α} (h : SlW mk d lo n w v xs) (hn : n ≤ w.heap.size) : SlAt mk d 0 w.heap.size w v xs := h.at.mono (Nat.zero_le _) hn
theorem SlW.val {α : Type} {mk : α → Value} {d : α} {lo n : Nat} {w : World} {v : Value} {xs : List α} (h : SlW mk d lo n w v xs) : ∃ a cap, v = .slice a xs.length cap := by
  obtain ⟨a, cap, rfl, -, -⟩ := h
  exact ⟨a, cap, rfl⟩
theorem drewB {m : Nat} {w : World} (q : Nat) : Below m w (w.drewN q) := below_drewN (Below.refl _ _) q
theorem SameB.mono {lo n lo' n' : Nat} {a b : World} (h : SameB lo n a b) (h1 : lo ≤ lo') (h2 : n' ≤ n) : SameB lo' n' a b := fun k k1 k2 => h k (by omega) (by omega)
theorem SlAt.cut {α : Type} {mk : α → Value} {d : α} {m : Nat} {w w' : World} {v : Value} {xs : List α} (h : SlAt mk d 0 w.heap.size w v xs) (hb : Below m w w') (hm : w.heap.size ≤ m) : SlAt mk d 0 w'.heap.size w' v xs := h.below hb hm
theorem SlAt.drewN {α : Type} {mk : α → Value} {d : α} {lo n : Nat} {w : World} {v : Value} {xs : List α} (h : SlAt mk d lo n w v xs) (q : Nat) : SlAt mk d lo n (w.drewN q) v xs := h

end Go.Proofs.YtfdkdjngeomcdaaDoor

namespace Go.Proofs.YtfdkdjngeomcdaaDoor
open Go.RowKit

/-- Nothing of the block is frozen. -/
def Free (w : World) (b : Nat) : Prop := ∃ c t, w.heap[b]? = some (.cells c t (0, 0))
theorem Free.same {w w' : World} {b : Nat} (h : Free w b) (e : w'.heap[b]? = w.heap[b]?) : Free w' b := by
  obtain ⟨c, t, hb⟩ := h
  exact ⟨c, t, e.trans hb⟩
theorem Free.put {w : World} {b b' o : Nat} {u : Value} (h : Free w b) : Free (w.setCell ⟨b', o, none⟩ u) b := by
  by_cases e : b = b'
  · subst e; exact own_put h
  · exact h.same (Below.heap_setCell _ _ _ _ (by exact e))

/-- The blocks from lo on and below n. -/
def Rng (lo n : Nat) (k : Nat) : Prop := lo ≤ k ∧ k < n

/-- Outside the blocks of S the world w' is as w was. -/
structure ChgF (S : Nat → Prop) (w w' : World) : Prop where
  os : w'.os = w.os
  tape : w'.tape = w.tape
  output : w'.output = w.output
  size : w'.heap.size = w.heap.size
  block : ∀ k, ¬ S k → w'.heap[k]? = w.heap[k]?
theorem ChgF.refl (S : Nat → Prop) (w : World) : ChgF S w w := ⟨rfl, rfl, rfl, rfl, fun _ _ => rfl⟩
theorem ChgF.trans {S : Nat → Prop} {a b c : World} (h : ChgF S a b) (k : ChgF S b c) : ChgF S a c :=
  ⟨k.os.trans h.os, k.tape.trans h.tape, k.output.trans h.output, k.size.trans h.size, fun i hi => (k.block i hi).trans (h.block i hi)⟩
theorem ChgF.mono {S T : Nat → Prop} {a b : World} (h : ChgF S a b) (hs : ∀ k, S k → T k) : ChgF T a b := ⟨h.os, h.tape, h.output, h.size, fun k hk => h.block k (fun q => hk (hs k q))⟩
theorem Chg.foot {lo n : Nat} {S : Nat → Prop} {a b : World} (h : Chg lo n a b) (hs : ∀ k, lo ≤ k → k < n → S k) : ChgF S a b := ⟨h.os, h.tape, h.output, h.size, fun k hk => h.block k (by
  by_cases e : lo ≤ k ∧ k < n
  · exact absurd (hs k e.1 e.2) hk
  · omega)⟩
theorem ChgF.chg {lo n : Nat} {a b : World} (h : ChgF (Rng lo n) a b) : Chg lo n a b := ⟨h.os, h.tape, h.output, h.size, fun k hk => h.block k (by unfold Rng; omega)⟩
theorem ChgF.below {S : Nat → Prop} {lo : Nat} {w w' : World} (h : ChgF S w w') (hs : ∀ k, S k → lo ≤ k) : Below lo w w' := ⟨h.os, h.tape, h.output, by rw [h.size]; exact Nat.le_refl _, fun k hk => h.block k (fun q => by have := hs k q; omega)⟩
theorem ChgF.put {S : Nat → Prop} {a w : World} (h : ChgF S a w) {b o : Nat} (h1 : S b) (u : Value) : ChgF S a (w.setCell ⟨b, o, none⟩ u) :=
  h.trans ⟨rfl, rfl, rfl, by simp [World.setCell], fun k hk => Below.heap_setCell _ _ _ _ (by show k ≠ b; intro e; subst e; exact hk h1)⟩

/-- v is a slice, element by element mk of xs, in the blocks of S, which nothing has frozen. -/
def SlF {α : Type} (mk : α → Value) (d : α) (S : Nat → Prop) (w : World) (v : Value) (xs : List α) : Prop :=
  ∃ lo n, SlW mk d lo n w v xs ∧ ∀ k, lo ≤ k → k < n → S k
theorem SlW.foot {α : Type} {mk : α → Value} {d : α} {lo n : Nat} {w : World} {v : Value} {xs : List α} (h : SlW mk d lo n w v xs) : SlF mk d (Rng lo n) w v xs := ⟨lo, n, h, fun _ h1 h2 => ⟨h1, h2⟩⟩
theorem SlF.same {α : Type} {mk : α → Value} {d : α} {S : Nat → Prop} {w w' : World} {v : Value} {xs : List α} (h : SlF mk d S w v xs) (hs : ∀ k, S k → w'.heap[k]? = w.heap[k]?) : SlF mk d S w' v xs := by
  obtain ⟨lo, n, h1, h2⟩ := h
  exact ⟨lo, n, h1.same (fun k k1 k2 => hs k (h2 k k1 k2)), h2⟩
theorem SlF.mono {α : Type} {mk : α → Value} {d : α} {S T : Nat → Prop} {w : World} {v : Value} {xs : List α} (h : SlF mk d S w v xs) (hs : ∀ k, S k → T k) : SlF mk d T w v xs := by
  obtain ⟨lo, n, h1, h2⟩ := h
  exact ⟨lo, n, h1, fun k k1 k2 => hs k (h2 k k1 k2)⟩
theorem SlF.at {α : Type} {mk : α → Value} {d : α} {S : Nat → Prop} {N : Nat} {w : World} {v : Value} {xs : List α} (h : SlF mk d S w v xs) (hs : ∀ k, S k → k < N) : SlAt mk d 0 N w v xs := by
  obtain ⟨lo, n, ⟨a, cap, rfl, hl, hc⟩, h2⟩ := h
  refine ⟨a, cap, rfl, hl, fun hp => ?_⟩
  obtain ⟨b, off, rfl, h3, h4, h5, hcell⟩ := hc hp
  exact ⟨b, off, rfl, Nat.zero_le _, hs b (h2 b h3 h4), hcell⟩
theorem SlF.val {α : Type} {mk : α → Value} {d : α} {S : Nat → Prop} {w : World} {v : Value} {xs : List α} (h : SlF mk d S w v xs) : ∃ a cap, v = .slice a xs.length cap := by
  obtain ⟨lo, n, ⟨a, cap, e, -⟩, -⟩ := h
  exact ⟨a, cap, e⟩

/-- v is a slice of slices that reads as xss, in blocks below N. -/
def SsAt {α : Type} (mk : α → Value) (d : α) (N : Nat) (w : World) (v : Value) (xss : List (List α)) : Prop :=
  ∃ a cap, v = .slice a xss.length cap ∧ (xss.length ≤ cap ∧ cap ≤ maxLen) ∧
    (0 < xss.length → ∃ b off, a = some ⟨b, off, none⟩ ∧ b < N ∧ ∀ i : Nat, i < xss.length → ∃ s, w.cell? ⟨b, off + i, none⟩ = some s ∧ SlAt mk d 0 N w s (xss[i]?.getD []) ∧ CapOk s)
theorem SsAt.below {α : Type} {mk : α → Value} {d : α} {m : Nat} {w w' : World} {v : Value} {xss : List (List α)} (h : SsAt mk d w.heap.size w v xss) (hb : Below m w w') (hm : w.heap.size ≤ m) : SsAt mk d w'.heap.size w' v xss := by
  obtain ⟨a, cap, rfl, hl, hc⟩ := h
  refine ⟨a, cap, rfl, hl, fun hp => ?_⟩
  obtain ⟨b, off, rfl, h1, h2⟩ := hc hp
  refine ⟨b, off, rfl, by have := hb.size; omega, fun i hi => ?_⟩
  obtain ⟨s, h3, h4, h5⟩ := h2 i hi
  exact ⟨s, by rw [hb.cell (p := ⟨b, off + i, none⟩) (by show b < m; omega)]; exact h3, h4.below hb hm, h5⟩
theorem SsAt.drewN {α : Type} {mk : α → Value} {d : α} {n : Nat} {w : World} {v : Value} {xss : List (List α)} (h : SsAt mk d n w v xss) (q : Nat) : SsAt mk d n (w.drewN q) v xss := h

/-- v is a slice of slices, xss, that owns its memory, in the blocks of S: the row of the slices and one for each slice, all apart. -/
def SsF {α : Type} (mk : α → Value) (d : α) (S : Nat → Prop) (w : World) (v : Value) (xss : List (List α)) : Prop :=
  ∃ a cap, v = .slice a xss.length cap ∧ (xss.length ≤ cap ∧ cap ≤ maxLen) ∧ (0 < xss.length → ∃ (b off : Nat) (sv : Nat → Value) (T : Nat → Nat → Prop), a = some ⟨b, off, none⟩ ∧ S b ∧ Free w b ∧
    (∀ i : Nat, i < xss.length → w.cell? ⟨b, off + i, none⟩ = some (sv i)) ∧ (∀ i : Nat, i < xss.length → SlF mk d (T i) w (sv i) (xss[i]?.getD []) ∧ CapOk (sv i)) ∧
    (∀ i : Nat, i < xss.length → ∀ k, T i k → S k ∧ k ≠ b) ∧ ∀ i j : Nat, i < xss.length → j < xss.length → i ≠ j → ∀ k, T i k → ¬ T j k)
theorem SsF.same {α : Type} {mk : α → Value} {d : α} {S : Nat → Prop} {w w' : World} {v : Value} {xss : List (List α)} (h : SsF mk d S w v xss) (hs : ∀ k, S k → w'.heap[k]? = w.heap[k]?) : SsF mk d S w' v xss := by
  obtain ⟨a, cap, rfl, hl, hc⟩ := h
  refine ⟨a, cap, rfl, hl, fun hp => ?_⟩
  obtain ⟨b, off, sv, T, e, h1, h2, h3, h4, h5, h6⟩ := hc hp
  exact ⟨b, off, sv, T, e, h1, h2.same (hs b h1), fun i hi => by rw [World.cell?_of_block (w := w) (a := ⟨b, off + i, none⟩) (hs b h1)]; exact h3 i hi, fun i hi => ⟨(h4 i hi).1.same (fun k hk => hs k (h5 i hi k hk).1), (h4 i hi).2⟩, h5, h6⟩
theorem SsF.mono {α : Type} {mk : α → Value} {d : α} {S S' : Nat → Prop} {w : World} {v : Value} {xss : List (List α)} (h : SsF mk d S w v xss) (hs : ∀ k, S k → S' k) : SsF mk d S' w v xss := by
  obtain ⟨a, cap, rfl, hl, hc⟩ := h
  refine ⟨a, cap, rfl, hl, fun hp => ?_⟩
  obtain ⟨b, off, sv, T, e, h1, h2, h3, h4, h5, h6⟩ := hc hp
  exact ⟨b, off, sv, T, e, hs b h1, h2, h3, h4, fun i hi k hk => ⟨hs k (h5 i hi k hk).1, (h5 i hi k hk).2⟩, h6⟩
theorem SsF.at {α : Type} {mk : α → Value} {d : α} {S : Nat → Prop} {N : Nat} {w : World} {v : Value} {xss : List (List α)} (h : SsF mk d S w v xss) (hs : ∀ k, S k → k < N) : SsAt mk d N w v xss := by
  obtain ⟨a, cap, rfl, hl, hc⟩ := h
  refine ⟨a, cap, rfl, hl, fun hp => ?_⟩
  obtain ⟨b, off, sv, T, e, h1, h2, h3, h4, h5, h6⟩ := hc hp
  exact ⟨b, off, e, hs b h1, fun i hi => ⟨sv i, h3 i hi, (h4 i hi).1.at (fun k hk => hs k (h5 i hi k hk).1), (h4 i hi).2⟩⟩
theorem SsF.keep {α : Type} {mk : α → Value} {d : α} {lo n m : Nat} {w w' : World} {v : Value} {xss : List (List α)} (h : SsF mk d (Rng lo n) w v xss) (hb : Below m w w') (hn : n ≤ m) : SsF mk d (Rng lo n) w' v xss := h.same (fun k hk => hb.block k (by unfold Rng at hk; omega))
theorem SsF.all {α : Type} {mk : α → Value} {d : α} {lo n : Nat} {w : World} {v : Value} {xss : List (List α)} (h : SsF mk d (Rng lo n) w v xss) (hn : n ≤ w.heap.size) : SsAt mk d w.heap.size w v xss := h.at (fun k hk => by unfold Rng at hk; omega)
theorem SsF.nil {α : Type} (mk : α → Value) (d : α) (S : Nat → Prop) (w : World) (a : Option Addr) (cap : Nat) (hc : cap ≤ maxLen) : SsF mk d S w (.slice a 0 cap) ([] : List (List α)) := ⟨a, cap, rfl, ⟨Nat.zero_le _, hc⟩, fun h => absurd h (by simp)⟩

/-- The part of a copy that is made. -/
def PartS {α : Type} (mk : α → Value) (d : α) (t : TypeId) (N : Nat) (w : World) (xss : List (List α)) (k : Nat) : Prop :=
  ∃ (f : Nat → Value) (T : Nat → Nat → Prop), w.rowIs N t xss.length f ∧ (∀ i : Nat, i < k → SlF mk d (T i) w (f i) (xss[i]?.getD []) ∧ CapOk (f i)) ∧ (∀ i : Nat, i < k → ∀ j, T i j → N < j ∧ j < w.heap.size) ∧
    ∀ i j : Nat, i < k → j < k → i ≠ j → ∀ q, T i q → ¬ T j q
theorem partS_step {α : Type} {mk : α → Value} {d : α} {t : TypeId} {N k : Nat} {wr w1 : World} {xss : List (List α)} {v : Value} (h : PartS mk d t N wr xss k) (hk : k < xss.length) (hb : Below wr.heap.size wr w1)
    (hv : SlW mk d wr.heap.size w1.heap.size w1 v (xss[k]?.getD [])) (hcv : CapOk v) : PartS mk d t N (w1.setCell ⟨N, k, none⟩ v) xss (k + 1) := by
  obtain ⟨f, T, hrow, h4, h5, h6⟩ := h
  have hN := hrow.lt
  have hz := hb.size
  have hrow1 := hrow.of_block (hb.block N hN)
  have hput : ∀ k', k' ≠ N → (w1.setCell ⟨N, k, none⟩ v).heap[k']? = w1.heap[k']? := fun k' hne => Below.heap_setCell _ _ _ _ (by exact hne)
  refine ⟨_, fun i => if i = k then Rng wr.heap.size w1.heap.size else T i, hrow1.set k v, fun i hi => ?_, fun i hi j hj => ?_, fun i j hi hj hne q hq hq' => ?_⟩
  · by_cases e : i = k
    · subst e
      simp only [if_true]
      exact ⟨hv.foot.same (fun k' hk' => hput k' (by unfold Rng at hk'; omega)), hcv⟩
    · simp only [e, if_false]
      refine ⟨((h4 i (by omega)).1.same (w' := w1) (fun k' hk' => hb.block k' (h5 i (by omega) k' hk').2)).same (fun k' hk' => hput k' ?_), (h4 i (by omega)).2⟩
      have := h5 i (by omega) k' hk'
      omega
  · rw [sz_put]
    by_cases e : i = k
    · simp only [e, if_true] at hj; unfold Rng at hj; omega
    · simp only [e, if_false] at hj
      have := h5 i (by omega) j hj
      omega
  · by_cases e1 : i = k
    · by_cases e2 : j = k
      · omega
      · simp only [e1, e2, if_true, if_false] at hq hq'
        have := h5 j (by omega) q hq'
        unfold Rng at hq
        omega
    · by_cases e2 : j = k
      · simp only [e1, e2, if_true, if_false] at hq hq'
        have := h5 i (by omega) q hq
        unfold Rng at hq'
        omega
      · simp only [e1, e2, if_false] at hq hq'
        exact h6 i j (by omega) (by omega) hne q hq hq'
theorem partS_done {α : Type} {mk : α → Value} {d : α} {t : TypeId} {N cap : Nat} {w : World} {xss : List (List α)} (h : PartS mk d t N w xss xss.length) (hl : xss.length ≤ cap ∧ cap ≤ maxLen) : SsF mk d (Rng N w.heap.size) w (.slice (some ⟨N, 0, none⟩) xss.length cap) xss := by
  obtain ⟨f, T, hrow, h4, h5, h6⟩ := h
  have hN := hrow.lt
  have hfr : Free w N := by obtain ⟨c, hcb, -⟩ := hrow; exact ⟨c, t, hcb⟩
  exact ⟨_, cap, rfl, hl, fun _ => ⟨N, 0, f, T, rfl, ⟨Nat.le_refl _, hN⟩, hfr, fun i hi => by rw [Nat.zero_add]; exact hrow.cell hi, h4, fun i hi k hk => by have := h5 i hi k hk; unfold Rng; omega, h6⟩⟩

/-- How many elements all lists have, and the marks. -/
def tot {α : Type} : List (List α) → Nat
  | [] => 0
  | x :: r => x.length + tot r
def marksL {α β : Type} (c : Int → Nat → List β) (k : Int) : List (List α) → List (List β)
  | [] => []
  | x :: r => c k x.length :: marksL c (k + x.length) r
theorem marksL_len {α β : Type} (c : Int → Nat → List β) (k : Int) (xss : List (List α)) : (marksL c k xss).length = xss.length := by
  induction xss generalizing k with
  | nil => rfl
  | cons x r ih => simp [marksL, ih]
theorem marksL_get {α β : Type} (c : Int → Nat → List β) (k : Int) (xss : List (List α)) (i : Nat) (h : i < xss.length) : (marksL c k xss)[i]?.getD [] = c (k + tot (xss.take i)) (xss[i]?.getD []).length := by
  induction xss generalizing k i with
  | nil => simp at h
  | cons x r ih =>
    cases i with
    | zero => simp [marksL, tot]
    | succ i => simp only [marksL, List.getElem?_cons_succ, List.take_succ_cons, tot]; rw [ih _ i (by simpa using h)]; congr 1; omega
theorem tot_step {α : Type} (xss : List (List α)) (i : Nat) (h : i < xss.length) : tot (xss.take (i + 1)) = tot (xss.take i) + (xss[i]?.getD []).length := by
  induction xss generalizing i with
  | nil => simp at h
  | cons x r ih =>
    cases i with
    | zero => simp [tot]
    | succ i => simp only [List.take_succ_cons, tot, List.getElem?_cons_succ]; rw [ih i (by simpa using h)]; omega
theorem tot_take {α : Type} (xss : List (List α)) (i : Nat) : tot (xss.take i) ≤ tot xss := by
  induction xss generalizing i with
  | nil => simp [tot]
  | cons x r ih => cases i with
    | zero => simp [tot]
    | succ i => have := ih i; simp only [List.take_succ_cons, tot]; omega
theorem tot_get {α : Type} (xss : List (List α)) (i : Nat) : (xss[i]?.getD []).length ≤ tot xss := by
  by_cases h : i < xss.length
  · have h1 := tot_step xss i h
    have h2 := tot_take xss (i + 1)
    omega
  · rw [List.getElem?_eq_none (by omega)]; simp

/-- While the lists are marked: the first m are. -/
def mixL {α : Type} (ys xss : List (List α)) (m i : Nat) : List α := if i < m then ys[i]?.getD [] else xss[i]?.getD []
def MkS {α : Type} (mk : α → Value) (d : α) (S : Nat → Prop) (w0 w : World) (ys xss : List (List α)) (b off : Nat) (sv : Nat → Value) (T : Nat → Nat → Prop) (m : Nat) : Prop :=
  Free w b ∧ (∀ i : Nat, i < xss.length → w.cell? ⟨b, off + i, none⟩ = some (sv i)) ∧ (∀ i : Nat, i < xss.length → SlF mk d (T i) w (sv i) (mixL ys xss m i) ∧ CapOk (sv i)) ∧ ChgF S w0 w
theorem mkS_step {α : Type} {mk : α → Value} {d : α} {S : Nat → Prop} {w0 wr w1 : World} {ys xss : List (List α)} {b off : Nat} {sv : Nat → Value} {T : Nat → Nat → Prop} {m : Nat} (h : MkS mk d S w0 wr ys xss b off sv T m) (hm : m < xss.length)
    (h5 : ∀ i : Nat, i < xss.length → ∀ k, T i k → S k ∧ k ≠ b) (h6 : ∀ i j : Nat, i < xss.length → j < xss.length → i ≠ j → ∀ k, T i k → ¬ T j k)
    (hc : ChgF (T m) wr w1) (hs : SlF mk d (T m) w1 (sv m) (ys[m]?.getD [])) : MkS mk d S w0 w1 ys xss b off sv T (m + 1) := by
  obtain ⟨hu, h3, h4, hch⟩ := h
  have eb : w1.heap[b]? = wr.heap[b]? := hc.block b (fun q => (h5 m hm b q).2 rfl)
  refine ⟨hu.same eb, fun i hi => by rw [World.cell?_of_block (w := wr) (a := ⟨b, off + i, none⟩) eb]; exact h3 i hi, fun i hi => ?_, hch.trans (hc.mono (fun k hk => (h5 m hm k hk).1))⟩
  by_cases e : i = m
  · subst e
    unfold mixL
    rw [if_pos (by omega)]
    exact ⟨hs, (h4 i hi).2⟩
  · have e2 : mixL ys xss (m + 1) i = mixL ys xss m i := by
      unfold mixL
      by_cases e3 : i < m
      · rw [if_pos e3, if_pos (by omega)]
      · rw [if_neg e3, if_neg (by omega)]
    rw [e2]
    exact ⟨(h4 i hi).1.same (fun k hk => hc.block k (h6 i m hi hm e k hk)), (h4 i hi).2⟩

theorem SsAt.take {α : Type} {mk : α → Value} {d : α} {N k cap b off : Nat} {w : World} {xss : List (List α)} (hk : k ≤ xss.length) (hl : xss.length ≤ cap ∧ cap ≤ maxLen) (hb : b < N)
    (hc : ∀ i : Nat, i < xss.length → ∃ s, w.cell? ⟨b, off + i, none⟩ = some s ∧ SlAt mk d 0 N w s (xss[i]?.getD []) ∧ CapOk s) : SsAt mk d N w (.slice (some ⟨b, off, none⟩) k cap) (xss.take k) := by
  have e : (xss.take k).length = k := by simp; omega
  refine ⟨_, cap, by rw [e], ⟨by omega, hl.2⟩, fun _ => ⟨b, off, rfl, hb, fun i hi => ?_⟩⟩
  rw [e] at hi
  obtain ⟨s, h1, h2⟩ := hc i (by omega)
  exact ⟨s, h1, by rw [List.getElem?_take, if_pos hi]; exact h2⟩
theorem SsAt.drop {α : Type} {mk : α → Value} {d : α} {N k m cap b off : Nat} {w : World} {xss : List (List α)} (hk : k + m = xss.length) (hl : m ≤ cap ∧ cap ≤ maxLen) (hb : b < N)
    (hc : ∀ i : Nat, i < xss.length → ∃ s, w.cell? ⟨b, off + i, none⟩ = some s ∧ SlAt mk d 0 N w s (xss[i]?.getD []) ∧ CapOk s) : SsAt mk d N w (.slice (some ⟨b, off + k, none⟩) m cap) (xss.drop k) := by
  have e : (xss.drop k).length = m := by simp; omega
  refine ⟨_, cap, by rw [e], ⟨by omega, hl.2⟩, fun _ => ⟨b, off + k, rfl, hb, fun i hi => ?_⟩⟩
  rw [e] at hi
  obtain ⟨s, h1, h2⟩ := hc (k + i) (by omega)
  exact ⟨s, by rw [Nat.add_assoc]; exact h1, by rw [List.getElem?_drop]; exact h2⟩

theorem tot_drop {α : Type} (xss : List (List α)) (i : Nat) : tot (xss.drop i) ≤ tot xss := by
  induction xss generalizing i with
  | nil => simp [tot]
  | cons x r ih => cases i with
    | zero => simp
    | succ i => have := ih i; simp only [List.drop_succ_cons, tot]; omega


end Go.Proofs.YtfdkdjngeomcdaaDoor

namespace Go.Proofs.YtfdkdjngeomcdaaDoor
open Go.RowKit

theorem Boxed.under {w w' : World} {B m : Nat} {t : TypeId} {v : Value} (h : Boxed w B t v) (hb : Below m w w') (hm : B < m) : Boxed w' B t v := (hb.block B hm).trans h

/-- A list that lies in one block, and where. -/
structure Cl (α : Type) where
  v : Value
  xs : List α
  b : Nat

/-- p's value reads as p's list, in p's block, whose cells are of type e. -/
def Cl.ok {α : Type} (mk : α → Value) (d : α) (e : TypeId) (w : World) (p : Cl α) : Prop :=
  ∃ a cap, p.v = .slice a p.xs.length cap ∧ (p.xs.length ≤ cap ∧ cap ≤ maxLen) ∧ (0 < p.xs.length → ∃ off, a = some ⟨p.b, off, none⟩ ∧ (∃ c, w.heap[p.b]? = some (.cells c e (0, 0))) ∧ ∀ i : Nat, i < p.xs.length → w.cell? ⟨p.b, off + i, none⟩ = some (mk (p.xs[i]?.getD d)))
theorem Cl.ok.same {α : Type} {mk : α → Value} {d : α} {e : TypeId} {w w' : World} {p : Cl α} (h : p.ok mk d e w) (hs : 0 < p.xs.length → w'.heap[p.b]? = w.heap[p.b]?) : p.ok mk d e w' := by
  obtain ⟨a, cap, e1, hl, hc⟩ := h
  refine ⟨a, cap, e1, hl, fun hp => ?_⟩
  obtain ⟨off, e2, ⟨c, h1⟩, h2⟩ := hc hp
  exact ⟨off, e2, ⟨c, (hs hp).trans h1⟩, fun i hi => by rw [World.cell?_of_block (w := w) (a := ⟨p.b, off + i, none⟩) (hs hp)]; exact h2 i hi⟩
theorem Cl.ok.lt {α : Type} {mk : α → Value} {d : α} {e : TypeId} {w : World} {p : Cl α} (h : p.ok mk d e w) (hp : 0 < p.xs.length) : p.b < w.heap.size := by
  obtain ⟨a, cap, e1, hl, hc⟩ := h
  obtain ⟨off, e2, ⟨c, h1⟩, h2⟩ := hc hp
  exact (Array.getElem?_eq_some_iff.1 h1).1
theorem Cl.ok.below {α : Type} {mk : α → Value} {d : α} {e : TypeId} {m : Nat} {w w' : World} {p : Cl α} (h : p.ok mk d e w) (hb : Below m w w') (hm : w.heap.size ≤ m) : p.ok mk d e w' := h.same (fun hp => hb.block _ (by have := h.lt hp; omega))
theorem Cl.ok.at {α : Type} {mk : α → Value} {d : α} {e : TypeId} {w : World} {p : Cl α} (h : p.ok mk d e w) : SlAt mk d 0 w.heap.size w p.v p.xs := by
  obtain ⟨a, cap, e1, hl, hc⟩ := id h
  refine ⟨a, cap, e1, by omega, fun hp => ?_⟩
  obtain ⟨off, e2, -, h2⟩ := hc hp
  exact ⟨p.b, off, e2, Nat.zero_le _, h.lt hp, h2⟩
theorem Cl.ok.cap {α : Type} {mk : α → Value} {d : α} {e : TypeId} {w : World} {p : Cl α} (h : p.ok mk d e w) : CapOk p.v := by
  obtain ⟨a, cap, e1, hl, hc⟩ := h
  rw [e1]
  exact CapOk.mk hl.1 hl.2
theorem Cl.ok.foot {α : Type} {mk : α → Value} {d : α} {e : TypeId} {w : World} {p : Cl α} (h : p.ok mk d e w) : SlF mk d (fun k => 0 < p.xs.length ∧ k = p.b) w p.v p.xs := by
  obtain ⟨a, cap, e1, hl, hc⟩ := h
  by_cases hp : 0 < p.xs.length
  · refine ⟨p.b, p.b + 1, ⟨a, cap, e1, by omega, fun _ => ?_⟩, fun k h1 h2 => ⟨hp, by omega⟩⟩
    obtain ⟨off, e2, ⟨c, h1⟩, h2⟩ := hc hp
    exact ⟨p.b, off, e2, Nat.le_refl _, Nat.lt_succ_self _, ⟨c, e, h1⟩, h2⟩
  · exact ⟨0, 0, ⟨a, cap, e1, by omega, fun h => absurd h hp⟩, fun k h1 h2 => by omega⟩
theorem Cl.ok.one {α : Type} {mk : α → Value} {d : α} {e : TypeId} {w : World} {p : Cl α} (h : p.ok mk d e w) : p.v.oneCell' = true := by
  obtain ⟨a, cap, e1, -⟩ := h
  rw [e1]
  rfl

/-- What owns its row is such a list. -/
theorem own_cl {mk : Int → Value} {base e n : Nat} {w : World} {v : Value} {xs : List Int} (h : w.ownsRow base e 1 v n (xs.map mk)) : ∃ b, Cl.ok mk 0 e w ⟨v, xs, b⟩ ∧ (0 < xs.length → base ≤ b) := by
  have hlen := h.1
  rw [List.length_map, Nat.mul_one] at hlen
  rcases h.2 with ⟨rfl, hz⟩ | ⟨g, cap, cur, rfl, hbg, hg, hnc, hcm, hcs, htake⟩
  · exact ⟨0, ⟨none, 0, by show Value.slice none 0 0 = _; rw [hlen, hz], by show xs.length ≤ 0 ∧ _; exact ⟨by omega, Nat.zero_le _⟩, fun hp => by have : 0 < xs.length := hp; omega⟩, fun hp => by omega⟩
  · refine ⟨g, ⟨some ⟨g, 0, none⟩, cap, by rw [hlen], ⟨by show xs.length ≤ cap; omega, hcm⟩, fun hp => ⟨0, rfl, ⟨cur, hg⟩, fun i hi => ?_⟩⟩, fun _ => hbg⟩
    have hi' : i < xs.length := hi
    show w.cell? ⟨g, 0 + i, none⟩ = some (mk (xs[i]?.getD 0))
    rw [Nat.zero_add, h.cellAt i (by omega), List.getElem?_map, List.getElem?_eq_getElem hi']
    rfl

def ApartC {α : Type} (ps : List (Cl α)) : Prop := ps.Pairwise (fun p q => 0 < p.xs.length → 0 < q.xs.length → p.b ≠ q.b)

/-- v is a row of its own of such lists, ps, which lie apart. -/
structure LL {α : Type} (mk : α → Value) (d : α) (e te : TypeId) (base : Nat) (w : World) (v : Value) (ps : List (Cl α)) : Prop where
  own : w.ownsRow base te 1 v ps.length (ps.map Cl.v)
  ok : ∀ p ∈ ps, p.ok mk d e w
  lo : ∀ p ∈ ps, 0 < p.xs.length → base ≤ p.b
  apart : ApartC ps
theorem LL.nil {α : Type} {mk : α → Value} {d : α} {e te : TypeId} {base : Nat} {w : World} : LL mk d e te base w (.slice none 0 0) [] := ⟨World.ownsRow_nil _ _ _ _, by simp, by simp, List.Pairwise.nil⟩
theorem LL.keep {α : Type} {mk : α → Value} {d : α} {e te : TypeId} {base m : Nat} {w w' : World} {v : Value} {ps : List (Cl α)} (h : LL mk d e te base w v ps) (hb : Below m w w') (hm : w.heap.size ≤ m) : LL mk d e te base w' v ps :=
  ⟨own_keep h.own hb hm, fun p hp => (h.ok p hp).below hb hm, h.lo, h.apart⟩

/-- The row's own block is none of the lists' blocks. -/
theorem LL.not_row {α : Type} {mk : α → Value} {d : α} {e te : TypeId} {base : Nat} {w : World} {v : Value} {ps : List (Cl α)} (hte : te ≠ e) (h : LL mk d e te base w v ps) {p : Cl α} {q : Cl α} (hq : q.ok mk d e w) (_ : p = q) (hp : 0 < q.xs.length) : some q.b ≠ v.ownBlock := by
  intro e1
  obtain ⟨a, cap, -, -, hc⟩ := hq
  obtain ⟨off, -, ⟨c, h1⟩, -⟩ := hc hp
  rcases h.own.2 with ⟨rfl, _⟩ | ⟨g, cap', cur, rfl, _, hgb, _⟩
  · simp [Value.ownBlock] at e1
  · obtain rfl : q.b = g := by simpa [Value.ownBlock] using e1
    rw [h1] at hgb
    simp at hgb
    exact hte hgb.2.symm

theorem pushd_alloc (w : World) (o : Obj) : Pushd w (w.alloc o) o := ⟨rfl, rfl, rfl, rfl⟩

/-- One list more. -/
theorem LL.app {α : Type} {mk : α → Value} {d : α} {e te : TypeId} {base : Nat} {w W w' : World} {v v' : Value} {ps : List (Cl α)} {p : Cl α} {o : Obj} (hte : te ≠ e) (h : LL mk d e te base w v ps) (hbase : base ≤ w.heap.size) (hp : p.ok mk d e w) (hplo : 0 < p.xs.length → base ≤ p.b)
    (hnew : ∀ q ∈ ps, 0 < q.xs.length → 0 < p.xs.length → q.b ≠ p.b) (hP : Pushd w W o) (h1 : w'.ownsRow base te 1 v' (ps.length + 1) (ps.map Cl.v ++ [p.v])) (hg : W.grownBy w' v.ownBlock) : LL mk d e te base w' v' (ps ++ [p]) ∧ Below base w w' := by
  have hk : ∀ q : Cl α, q.ok mk d e w → q.ok mk d e w' := fun q hq => by
    refine hq.same (fun hq0 => ?_)
    have hlt := hq.lt hq0
    rw [hg.block q.b (by rw [hP.size]; omega) (h.not_row hte hq rfl hq0), hP.old hlt]
  refine ⟨⟨by rw [List.length_append, List.map_append]; exact h1, fun q hq => ?_, fun q hq hq0 => ?_, ?_⟩, (hP.below.mono hbase).grown hg (by rw [hP.size]; omega) (fun k hk => (h.own.lt k hk).1)⟩
  · rcases List.mem_append.1 hq with hq | hq
    · exact hk q (h.ok q hq)
    · rw [List.mem_singleton] at hq
      subst hq
      exact hk q hp
  · rcases List.mem_append.1 hq with hq | hq
    · exact h.lo q hq hq0
    · rw [List.mem_singleton] at hq
      subst hq
      exact hplo hq0
  · refine List.pairwise_append.2 ⟨h.apart, List.pairwise_singleton _ _, fun q hq r hr => ?_⟩
    rw [List.mem_singleton] at hr
    subst hr
    exact hnew q hq

/-- As the laws' functions want it. -/
theorem LL.foot {α : Type} {mk : α → Value} {d : α} {e te : TypeId} {base : Nat} {w : World} {v : Value} {ps : List (Cl α)} (hte : te ≠ e) (h : LL mk d e te base w v ps) (hl : ps.length ≤ maxLen) : SsF mk d (Rng base w.heap.size) w v (ps.map Cl.xs) := by
  have hlen := h.own.1
  rcases h.own.2 with ⟨rfl, hz⟩ | ⟨g, cap, cur, rfl, hbg, hg, hnc, hcm, hcs, htake⟩
  · have : ps = [] := List.eq_nil_of_length_eq_zero hz
    subst this
    exact SsF.nil _ _ _ _ _ _ (Nat.zero_le _)
  · have hgl : g < w.heap.size := (h.own.lt g rfl).2
    have hget : ∀ i : Nat, i < ps.length → ∃ p, ps[i]? = some p ∧ p ∈ ps := fun i hi => ⟨ps[i], by simp [hi], List.getElem_mem hi⟩
    refine ⟨some ⟨g, 0, none⟩, cap, by rw [List.length_map], ⟨by rw [List.length_map]; exact hnc, hcm⟩, fun _ => ⟨g, 0, fun i => ((ps[i]?).map Cl.v).getD undef, fun i k => ∃ p, ps[i]? = some p ∧ 0 < p.xs.length ∧ k = p.b, rfl, ⟨hbg, hgl⟩, ⟨cur, te, hg⟩, fun i hi => ?_, fun i hi => ?_, fun i hi k hk => ?_, fun i j hi hj hne k hk hk' => ?_⟩⟩
    · rw [List.length_map] at hi
      obtain ⟨p, hp, -⟩ := hget i hi
      show w.cell? ⟨g, 0 + i, none⟩ = some (((ps[i]?).map Cl.v).getD undef)
      rw [Nat.zero_add, h.own.cellAt i (by omega), List.getElem?_map, hp]
      rfl
    · rw [List.length_map] at hi
      obtain ⟨p, hp, hm⟩ := hget i hi
      have e1 : ((ps[i]?).map Cl.v).getD undef = p.v := by rw [hp]; rfl
      have e2 : ((ps.map Cl.xs)[i]?).getD [] = p.xs := by rw [List.getElem?_map, hp]; rfl
      show SlF mk d _ w (((ps[i]?).map Cl.v).getD undef) (((ps.map Cl.xs)[i]?).getD []) ∧ CapOk (((ps[i]?).map Cl.v).getD undef)
      rw [e1, e2]
      exact ⟨(h.ok p hm).foot.mono (fun k hk => ⟨p, hp, hk.1, hk.2⟩), (h.ok p hm).cap⟩
    · obtain ⟨p, hp, hp0, rfl⟩ := hk
      have hm : p ∈ ps := List.mem_of_getElem? hp
      refine ⟨⟨h.lo p hm hp0, (h.ok p hm).lt hp0⟩, fun e1 => ?_⟩
      exact h.not_row hte (h.ok p hm) rfl hp0 (by rw [e1]; rfl)
    · obtain ⟨p, hp, hp0, rfl⟩ := hk
      obtain ⟨q, hq, hq0, e1⟩ := hk'
      rw [List.length_map] at hi hj
      have hpair := List.pairwise_iff_getElem.1 h.apart
      have ep : ps[i]'hi = p := by rw [List.getElem?_eq_getElem hi] at hp; exact Option.some.inj hp
      have eq : ps[j]'hj = q := by rw [List.getElem?_eq_getElem hj] at hq; exact Option.some.inj hq
      rcases Nat.lt_or_gt_of_ne hne with hlt | hlt
      · exact hpair i j hi hj hlt (by rw [ep]; exact hp0) (by rw [eq]; exact hq0) (by rw [ep, eq]; exact e1)
      · exact hpair j i hj hi hlt (by rw [eq]; exact hq0) (by rw [ep]; exact hp0) (by rw [ep, eq]; exact e1.symm)

/-- One store into a row of its own. -/
theorem own_set {base e g n cap k : Nat} {w : World} {xs : List Value} {u : Value} (h : w.ownsRow base e 1 (.slice (some ⟨g, 0, none⟩) n cap) n xs) (_ : k < n) : (w.setCell ⟨g, k, none⟩ u).ownsRow base e 1 (.slice (some ⟨g, 0, none⟩) n cap) n (xs.set k u) := by
  have hlen := h.1
  rcases h.2 with ⟨e0, _⟩ | ⟨g', cap', cur, e0, hb, hg, hn, hm, hs, ht⟩
  · cases e0
  · cases e0
    refine ⟨by rw [List.length_set]; exact hlen, .inr ⟨g, cap, cur.setIfInBounds k u, rfl, hb, ?_, hn, hm, by rw [Array.size_setIfInBounds]; exact hs, ?_⟩⟩
    · simp [World.setCell, Array.getElem?_modify, hg]
    · rw [Array.toList_setIfInBounds, ← ht]
      rw [List.take_set]

end Go.Proofs.YtfdkdjngeomcdaaDoor
