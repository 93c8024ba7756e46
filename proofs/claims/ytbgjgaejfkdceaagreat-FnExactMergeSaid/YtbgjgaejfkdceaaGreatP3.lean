import Derived.Test.YtbgjgaejfkdceaaGreatP1
import Derived.OwnWalk
import Derived.Maps.AppendAt
import Derived.Laws.AppendOwnNone
import Derived.Deep.AppendLies
import Derived.Deep.RegionLaw
import Derived.BigRegion
import Derived.Test.YtbgjgaejfkdceaaGreatP2
import Derived.RangeFuncBox
import Derived.Lib.SlicesCompact
namespace Go.Proofs.YtbgjgaejfkdceaaGreat
open Go.RowKit

theorem own_slw {base lo n : Nat} {w : World} {v : Value} {xs : List Int} (h : w.ownsRow base 3 1 v n (xs.map mI)) (hlo : lo ≤ base) (hn : n ≤ maxLen) : SlW mI 0 lo w.heap.size w v xs := by
  have hlen := h.1
  rw [List.length_map, Nat.mul_one] at hlen
  rcases h.2 with ⟨rfl, hz⟩ | ⟨g, cap, cur, rfl, hbg, hg, hnc, hcm, hcs, htake⟩
  · exact ⟨none, 0, by rw [hlen, hz], by omega, fun hp => by omega⟩
  · refine ⟨_, cap, by rw [hlen], by omega, fun hp => ⟨g, 0, rfl, by omega, (h.lt g rfl).2, ⟨cur, _, hg⟩, fun i hi => ?_⟩⟩
    rw [Nat.zero_add, h.cellAt i (by omega), List.getElem?_map, List.getElem?_eq_getElem hi]
    rfl

theorem cell_1 {W : World} {N : Nat} {u : Value} (h : W.cell? ⟨N, 0, none⟩ = some u) : ∀ (j : Nat) (y : Value), [u][j]? = some y → W.cell? ((⟨N, 0, none⟩ : Addr).add j) = some y := by
  intro j y hj
  match j, hj with
  | 0, hj => simp at hj; subst hj; exact h

theorem own_at {base n : Nat} {w : World} {v : Value} {xs : List Value} (h : w.ownsRow base 3 1 v n xs) (hp : 0 < n) : ∃ g cap, v = .slice (some ⟨g, 0, none⟩) n cap ∧ ∀ j : Nat, j < n → w.cell? ⟨g, j, none⟩ = xs[j]? := by
  rcases h.2 with ⟨rfl, hz⟩ | ⟨g, cap, cur, rfl, hbg, hg, hnc, hcm, hcs, htake⟩
  · omega
  · exact ⟨g, cap, rfl, fun j hj => h.cellAt j (by omega)⟩

theorem getD_of_lt {xs : List Int} {i : Nat} (h : i < xs.length) : xs[i]? = some (xs[i]?.getD 0) := by rw [List.getElem?_eq_getElem h]; rfl

theorem own_keep {base n m e size : Nat} {w w' : World} {v : Value} {xs : List Value} (h : w.ownsRow base e size v n xs) (hb : Below m w w') (hm : w.heap.size ≤ m) : w'.ownsRow base e size v n xs :=
  h.kept (show w.grownBy w' none from ⟨hb.os, hb.tape, hb.output, hb.size, fun k hk _ => hb.block k (by omega)⟩) (by cases v.ownBlock <;> simp)

theorem own_is {base n e size : Nat} {w : World} {v : Value} {xs : List Value} (h : w.ownsRow base e size v n xs) : ∃ oa oc, v = .slice oa n oc := by
  rcases h.2 with ⟨rfl, hz⟩ | ⟨q, cap, cur, rfl, -⟩
  · exact ⟨none, 0, by rw [hz]⟩
  · exact ⟨_, _, rfl⟩

theorem run_append_none_c {P : Program} {w : World} (base : Nat) (t ty e : TypeId) (i : TypeInfo) (size : Nat) (ht : P.underlying t = some (.slice e)) (hi : P.info? e = some i)
    (v : Value) (n : Nat) (xs : List Value) (hown : w.ownsRow base e size v n xs) (c : Nat) : (Builtin.append_ #[t, t] ty #[v, .slice none 0 c]).run P w = .ok v w := by
  rcases hown.2 with ⟨rfl, rfl⟩ | ⟨g, cap, cur, rfl, _, _, hnc, _⟩
  · simp [Builtin.append_, run_underlying ht, sizeOf, typeInfo, hi, Builtin.lenOf, Builtin.firstCells]
  · simp [Builtin.append_, run_underlying ht, sizeOf, typeInfo, hi, Builtin.lenOf, Builtin.firstCells, hnc, storeCells]

theorem wpList_append_none_c {P : Program} {w : World} {ops : Array Oper} {rest : List Oper} {o : Oper} {a : Act} {Q : Exit → Act → World → Prop} (hgd : o.guard = none) (s x : Operand) (t : TypeId)
    (ho : o.op = .call { callee := .builtin .append, args := #[s, x], argTypes := #[t, t] })
    (base : Nat) (e : TypeId) (i : TypeInfo) (size : Nat) (ht : P.underlying t = some (.slice e)) (hi : P.info? e = some i)
    (v : Value) (n : Nat) (xs : List Value) (hs : a.eval s = v) (hown : w.ownsRow base e size v n xs) (c : Nat) (hx : a.eval x = .slice none 0 c)
    (h : wpList P ops Q rest (a.put o.dst v) w) : wpList P ops Q (o :: rest) a w := by
  refine wpList_plain hgd fun K hK => ?_
  have hrun := run_append_none_c (P := P) (w := w) base t o.type e i size ht hi v n xs hown c
  unfold Oper.wp
  simp [execOp, ho, resolve, invoke, builtin, hs, hx, hrun, Result.andThen]
  exact hK _ _ h

/-- A copy of a slice of ints, by an append to nil. -/
theorem app_ints {w : World} {ops : Array Oper} {rest : List Oper} {o : Oper} {a : Act} {Q : Exit → Act → World → Prop} (hgd : o.guard = none) (s x : Operand)
    (ho : o.op = .call { callee := .builtin .append, args := #[s, x], argTypes := #[53, 53] }) (hs : a.eval s = .slice none 0 0) (sv : Value) (hx : a.eval x = sv) (xs : List Int) (hv : SlAt mI 0 0 w.heap.size w sv xs) (hlen : xs.length ≤ 1048576)
    (h : ∀ v' w', Below w.heap.size w w' → SlW mI 0 w.heap.size w'.heap.size w' v' xs → v'.oneCell' = true → wpList Tryz.prog ops Q rest (a.put o.dst v') w') : wpList Tryz.prog ops Q (o :: rest) a w := by
  obtain ⟨i0, hi, hz0, hz1, hz2⟩ := info_parts Tryz.zinInt
  obtain ⟨sa, sc, rfl, hl, hc⟩ := hv
  cases sa with
  | none =>
    have h0 : xs.length = 0 := by
      by_cases q : 0 < xs.length
      · obtain ⟨b, off, e, -⟩ := hc q; simp at e
      · omega
    rw [h0] at hx
    exact wpList_append_none_c hgd s x 53 ho w.heap.size 3 i0 1 Tryz.underlying53 hi _ 0 [] hs (World.ownsRow_nil _ _ _ _) sc hx (h _ w (Below.refl _ _) ⟨none, 0, by rw [h0], hl, fun q => absurd q (by omega)⟩ rfl)
  | some ad =>
    refine wpList_append_own_at w hgd s x 53 ho w.heap.size 3 i0 (.int .i64 0) 1 8 Tryz.underlying53 hi hz0 hz1 hz2 rfl (by decide) _ 0 [] hs (World.ownsRow_nil _ _ _ _) ad xs.length sc (xs.map mI) hx (by simp) ?_ ?_ (by rw [Nat.zero_add]; exact hl) (by omega) (Nat.le_refl _) ?_
    · intro j u hu
      have hj : j < xs.length := by
        have := (List.getElem?_eq_some_iff.1 hu).1
        simpa using this
      obtain ⟨b, off, e, -, -, hcell⟩ := hc (by omega)
      simp only [Option.some.injEq] at e
      subst e
      rw [List.getElem?_map, getD_of_lt hj] at hu
      simp only [Option.map_some, Option.some.injEq] at hu
      subst hu
      have e3 : (⟨b, off, none⟩ : Addr).add j = ⟨b, off + j, none⟩ := by cases j <;> rfl
      rw [e3]
      exact hcell j hj
    · intro u hu
      obtain ⟨y, -, rfl⟩ := List.mem_map.1 hu
      rfl
    · intro v' w' h1 hg _ _
      rw [Nat.zero_add, List.nil_append] at h1
      obtain ⟨oa, oc, rfl⟩ := own_is h1
      exact h _ w' ((Below.refl _ _).grown hg (Nat.le_refl _) (fun k hk => by cases hk)) (own_slw h1 (Nat.le_refl _) hl) rfl

/-- A copy of a slice of ints, by an append to nil. -/
theorem app_ints_own {w : World} {ops : Array Oper} {rest : List Oper} {o : Oper} {a : Act} {Q : Exit → Act → World → Prop} (hgd : o.guard = none) (s x : Operand)
    (ho : o.op = .call { callee := .builtin .append, args := #[s, x], argTypes := #[53, 53] }) (hs : a.eval s = .slice none 0 0) (sv : Value) (hx : a.eval x = sv) (xs : List Int) (hv : SlAt mI 0 0 w.heap.size w sv xs) (hlen : xs.length ≤ 1048576)
    (h : ∀ v' w', Below w.heap.size w w' → w'.ownsRow w.heap.size 3 1 v' xs.length (xs.map mI) → v'.oneCell' = true → wpList Tryz.prog ops Q rest (a.put o.dst v') w') : wpList Tryz.prog ops Q (o :: rest) a w := by
  obtain ⟨i0, hi, hz0, hz1, hz2⟩ := info_parts Tryz.zinInt
  obtain ⟨sa, sc, rfl, hl, hc⟩ := hv
  cases sa with
  | none =>
    have h0 : xs.length = 0 := by
      by_cases q : 0 < xs.length
      · obtain ⟨b, off, e, -⟩ := hc q; simp at e
      · omega
    rw [h0] at hx
    exact wpList_append_none_c hgd s x 53 ho w.heap.size 3 i0 1 Tryz.underlying53 hi _ 0 [] hs (World.ownsRow_nil _ _ _ _) sc hx (h _ w (Below.refl _ _) (by rw [List.eq_nil_of_length_eq_zero h0]; exact World.ownsRow_nil _ _ _ _) rfl)
  | some ad =>
    refine wpList_append_own_at w hgd s x 53 ho w.heap.size 3 i0 (.int .i64 0) 1 8 Tryz.underlying53 hi hz0 hz1 hz2 rfl (by decide) _ 0 [] hs (World.ownsRow_nil _ _ _ _) ad xs.length sc (xs.map mI) hx (by simp) ?_ ?_ (by rw [Nat.zero_add]; exact hl) (by omega) (Nat.le_refl _) ?_
    · intro j u hu
      have hj : j < xs.length := by
        have := (List.getElem?_eq_some_iff.1 hu).1
        simpa using this
      obtain ⟨b, off, e, -, -, hcell⟩ := hc (by omega)
      simp only [Option.some.injEq] at e
      subst e
      rw [List.getElem?_map, getD_of_lt hj] at hu
      simp only [Option.map_some, Option.some.injEq] at hu
      subst hu
      have e3 : (⟨b, off, none⟩ : Addr).add j = ⟨b, off + j, none⟩ := by cases j <;> rfl
      rw [e3]
      exact hcell j hj
    · intro u hu
      obtain ⟨y, -, rfl⟩ := List.mem_map.1 hu
      rfl
    · intro v' w' h1 hg _ _
      rw [Nat.zero_add, List.nil_append] at h1
      obtain ⟨oa, oc, rfl⟩ := own_is h1
      exact h _ w' ((Below.refl _ _).grown hg (Nat.le_refl _) (fun k hk => by cases hk)) h1 rfl

/-- W is w with one block more (and draws). -/
structure Pushd (w W : World) (o : Obj) : Prop where
  os : W.os = w.os
  tape : W.tape = w.tape
  output : W.output = w.output
  heap : W.heap = w.heap.push o
theorem Pushd.size {w W : World} {o : Obj} (h : Pushd w W o) : W.heap.size = w.heap.size + 1 := by rw [h.heap, Array.size_push]
theorem Pushd.old {w W : World} {o : Obj} (h : Pushd w W o) {k : Nat} (hk : k < w.heap.size) : W.heap[k]? = w.heap[k]? := by rw [h.heap, Array.getElem?_push_lt hk, Array.getElem?_eq_getElem hk]
theorem Pushd.new {w W : World} {o : Obj} (h : Pushd w W o) : W.heap[w.heap.size]? = some o := by rw [h.heap]; simp
theorem Pushd.below {w W : World} {o : Obj} (h : Pushd w W o) : Below w.heap.size w W := ⟨h.os, h.tape, h.output, by rw [h.size]; omega, fun k hk => h.old hk⟩
theorem Pushd.own {w W : World} {o : Obj} (h : Pushd w W o) {base n e size : Nat} {v : Value} {xs : List Value} (k : w.ownsRow base e size v n xs) : W.ownsRow base e size v n xs := own_keep k h.below (Nat.le_refl _)
theorem Pushd.news {w W : World} {cs : Array Value} {t : TypeId} (h : Pushd w W (.cells cs t)) : ∀ (j : Nat) (u : Value), cs.toList[j]? = some u → W.cell? ((⟨w.heap.size, 0, none⟩ : Addr).add j) = some u := World.news_of_block h.new

/-- A call of a function as a step of a region that draws its order. -/
theorem step_call {w : World} {ops : Array Oper} {o : Oper} {a : Act} {K : Act → World → Prop} {Q : Exit → Act → World → Prop} {E : Prop} (F : FuncId) (vals : Array Value) (hgd : o.guard = none) (hex : (execOp a.eval o).run Tryz.prog w = .ok (.enter F vals) w)
    {Post : Ending → World → Prop} (h : Calls Tryz.prog F vals w Post) (hK : ∀ e w', Post e w' → ∃ v, e = .returned v ∧ K (a.put o.dst v) w') : if Region.wanted o (yielded ops a.tmps) = true then Oper.wp Tryz.prog o a w K Q else E := by
  have hw : Region.wanted o (yielded ops a.tmps) = true := by simp [Region.wanted, hgd]
  rw [if_pos hw]
  unfold Oper.wp
  rw [hex, Oper.upon_enter]
  refine h.mono ?_
  intro e w' hP
  obtain ⟨v, rfl, hk⟩ := hK e w' hP
  exact hk

/-- A call of a function, its operands told, as a step of a region that draws its order. -/
theorem step_call_o {w : World} {ops : Array Oper} {o : Oper} {a : Act} {K : Act → World → Prop} {Q : Exit → Act → World → Prop} {E : Prop} (F : FuncId) (cargs : Array Operand) (ts : Array TypeId) (ho : o.op = .call { callee := .value (.func F), args := cargs, argTypes := ts }) (vals : Array Value) (hgd : o.guard = none) (hev : cargs.map a.eval = vals)
    (hf : ∀ w, Sem.run Tryz.prog (callFunc F vals) w = .ok (.enter F vals) w)
    {Post : Ending → World → Prop} (h : Calls Tryz.prog F vals w Post) (hK : ∀ e w', Post e w' → ∃ v, e = .returned v ∧ K (a.put o.dst v) w') : if Region.wanted o (yielded ops a.tmps) = true then Oper.wp Tryz.prog o a w K Q else E := by
  refine step_call F vals hgd ?_ h hK
  have e1 : a.eval (.func F) = .func (.func F) #[] #[] := rfl
  simp [execOp, ho, resolve, hev, e1, Deferred.ofValue, invoke, hf]

theorem own_cap {base n e size : Nat} {w : World} {v : Value} {xs : List Value} (h : w.ownsRow base e size v n xs) : CapOk v := by
  rcases h.2 with ⟨rfl, _⟩ | ⟨g, cap, cur, rfl, _, _, hnc, hcm, _⟩
  · exact CapOk.mk (Nat.le_refl _) (Nat.zero_le _)
  · exact CapOk.mk hnc hcm

theorem w64i {n : Int} (h0 : -9223372036854775808 ≤ n) (h1 : n ≤ 9223372036854775807) : wrap64 n = n := by unfold wrap64; omega
theorem k64i {n : Int} (h0 : -9223372036854775808 ≤ n) (h1 : n ≤ 9223372036854775807) : IntKind.i64.wrap n = n := by rw [IntKind.wrap_i64]; omega

theorem drew2 (w : World) (a b : Nat) : (w.drewN a).drewN b = w.drewN (a + b) := by simp
theorem drew3 (w : World) (a b c : Nat) : ((w.drewN a).drewN b).drewN c = w.drewN (a + b + c) := by simp

theorem own_low {b b' e size n : Nat} {w : World} {v : Value} {xs : List Value} (h : w.ownsRow b e size v n xs) (hb : b' ≤ b) : w.ownsRow b' e size v n xs := ⟨h.1, h.2.imp id (fun ⟨g, cap, cur, q1, q2, q3⟩ => ⟨g, cap, cur, q1, Nat.le_trans hb q2, q3⟩)⟩

/-- One int more, in a region that draws its order. -/
theorem grow_int {base : Nat} {wr W w' : World} {v v' : Value} {os : List Int} {u : Int} {o : Obj} (hown : wr.ownsRow base 3 1 v os.length (os.map mI)) (hbase : base ≤ wr.heap.size) (hP : Pushd wr W o)
    (h1 : w'.ownsRow base 3 1 v' (os.length + 1) (os.map mI ++ [.int .i64 u])) (hg : W.grownBy w' v.ownBlock) :
    w'.ownsRow base 3 1 v' (os ++ [u]).length ((os ++ [u]).map mI) ∧ Below base wr w' := by
  refine ⟨by rw [List.length_append, List.map_append]; exact h1, (hP.below.mono hbase).grown hg (by rw [hP.size]; omega) (fun k hk => (hown.lt k hk).1)⟩

end Go.Proofs.YtbgjgaejfkdceaaGreat

namespace Go.Proofs.YtbgjgaejfkdceaaGreat
open Go.RowKit

theorem Boxed.under {w w' : World} {B m : Nat} {t : TypeId} {v : Value} (h : Boxed w B t v) (hb : Below m w w') (hm : B < m) : Boxed w' B t v := (hb.block B hm).trans h

/-- A list that lies in one block, and where. -/
structure Cl (α : Type) where
  v : Value
  xs : List α
  b : Nat

/-- p's value reads as p's list, in p's block, whose cells are of type e. -/
def Cl.ok {α : Type} (mk : α → Value) (d : α) (e : TypeId) (w : World) (p : Cl α) : Prop :=
  ∃ a cap, p.v = .slice a p.xs.length cap ∧ (p.xs.length ≤ cap ∧ cap ≤ maxLen) ∧ (0 < p.xs.length → ∃ off, a = some ⟨p.b, off, none⟩ ∧ (∃ c, w.heap[p.b]? = some (.cells c e (0, 0))) ∧ ∀ i : Nat, i < p.xs.length → w.cell? ⟨p.b, off + i, none⟩ = some (mk (p.xs[i]?.getD d)))
theorem Cl.ok.same {α : Type} {mk : α → Value} {d : α} {e : TypeId} {w w' : World} {p : Cl α} (h : p.ok mk d e w) (hs : 0 < p.xs.length → w'.heap[p.b]? = w.heap[p.b]?) : p.ok mk d e w' := by
  obtain ⟨a, cap, e1, hl, hc⟩ := h
  refine ⟨a, cap, e1, hl, fun hp => ?_⟩
  obtain ⟨off, e2, ⟨c, h1⟩, h2⟩ := hc hp
  exact ⟨off, e2, ⟨c, (hs hp).trans h1⟩, fun i hi => by rw [World.cell?_of_block (w := w) (a := ⟨p.b, off + i, none⟩) (hs hp)]; exact h2 i hi⟩
theorem Cl.ok.lt {α : Type} {mk : α → Value} {d : α} {e : TypeId} {w : World} {p : Cl α} (h : p.ok mk d e w) (hp : 0 < p.xs.length) : p.b < w.heap.size := by
  obtain ⟨a, cap, e1, hl, hc⟩ := h
  obtain ⟨off, e2, ⟨c, h1⟩, h2⟩ := hc hp
  exact (Array.getElem?_eq_some_iff.1 h1).1
theorem Cl.ok.below {α : Type} {mk : α → Value} {d : α} {e : TypeId} {m : Nat} {w w' : World} {p : Cl α} (h : p.ok mk d e w) (hb : Below m w w') (hm : w.heap.size ≤ m) : p.ok mk d e w' := h.same (fun hp => hb.block _ (by have := h.lt hp; omega))
theorem Cl.ok.at {α : Type} {mk : α → Value} {d : α} {e : TypeId} {w : World} {p : Cl α} (h : p.ok mk d e w) : SlAt mk d 0 w.heap.size w p.v p.xs := by
  obtain ⟨a, cap, e1, hl, hc⟩ := id h
  refine ⟨a, cap, e1, by omega, fun hp => ?_⟩
  obtain ⟨off, e2, -, h2⟩ := hc hp
  exact ⟨p.b, off, e2, Nat.zero_le _, h.lt hp, h2⟩
theorem Cl.ok.cap {α : Type} {mk : α → Value} {d : α} {e : TypeId} {w : World} {p : Cl α} (h : p.ok mk d e w) : CapOk p.v := by
  obtain ⟨a, cap, e1, hl, hc⟩ := h
  rw [e1]
  exact CapOk.mk hl.1 hl.2
theorem Cl.ok.foot {α : Type} {mk : α → Value} {d : α} {e : TypeId} {w : World} {p : Cl α} (h : p.ok mk d e w) : SlF mk d (fun k => 0 < p.xs.length ∧ k = p.b) w p.v p.xs := by
  obtain ⟨a, cap, e1, hl, hc⟩ := h
  by_cases hp : 0 < p.xs.length
  · refine ⟨p.b, p.b + 1, ⟨a, cap, e1, by omega, fun _ => ?_⟩, fun k h1 h2 => ⟨hp, by omega⟩⟩
    obtain ⟨off, e2, ⟨c, h1⟩, h2⟩ := hc hp
    exact ⟨p.b, off, e2, Nat.le_refl _, Nat.lt_succ_self _, ⟨c, e, h1⟩, h2⟩
  · exact ⟨0, 0, ⟨a, cap, e1, by omega, fun h => absurd h hp⟩, fun k h1 h2 => by omega⟩
theorem Cl.ok.one {α : Type} {mk : α → Value} {d : α} {e : TypeId} {w : World} {p : Cl α} (h : p.ok mk d e w) : p.v.oneCell' = true := by
  obtain ⟨a, cap, e1, -⟩ := h
  rw [e1]
  rfl

/-- What owns its row is such a list. -/
theorem own_cl {mk : Int → Value} {base e n : Nat} {w : World} {v : Value} {xs : List Int} (h : w.ownsRow base e 1 v n (xs.map mk)) : ∃ b, Cl.ok mk 0 e w ⟨v, xs, b⟩ ∧ (0 < xs.length → base ≤ b) := by
  have hlen := h.1
  rw [List.length_map, Nat.mul_one] at hlen
  rcases h.2 with ⟨rfl, hz⟩ | ⟨g, cap, cur, rfl, hbg, hg, hnc, hcm, hcs, htake⟩
  · exact ⟨0, ⟨none, 0, by show Value.slice none 0 0 = _; rw [hlen, hz], by show xs.length ≤ 0 ∧ _; exact ⟨by omega, Nat.zero_le _⟩, fun hp => by have : 0 < xs.length := hp; omega⟩, fun hp => by omega⟩
  · refine ⟨g, ⟨some ⟨g, 0, none⟩, cap, by rw [hlen], ⟨by show xs.length ≤ cap; omega, hcm⟩, fun hp => ⟨0, rfl, ⟨cur, hg⟩, fun i hi => ?_⟩⟩, fun _ => hbg⟩
    have hi' : i < xs.length := hi
    show w.cell? ⟨g, 0 + i, none⟩ = some (mk (xs[i]?.getD 0))
    rw [Nat.zero_add, h.cellAt i (by omega), List.getElem?_map, List.getElem?_eq_getElem hi']
    rfl

def ApartC {α : Type} (ps : List (Cl α)) : Prop := ps.Pairwise (fun p q => 0 < p.xs.length → 0 < q.xs.length → p.b ≠ q.b)

/-- v is a row of its own of such lists, ps, which lie apart. -/
structure LL {α : Type} (mk : α → Value) (d : α) (e te : TypeId) (base : Nat) (w : World) (v : Value) (ps : List (Cl α)) : Prop where
  own : w.ownsRow base te 1 v ps.length (ps.map Cl.v)
  ok : ∀ p ∈ ps, p.ok mk d e w
  lo : ∀ p ∈ ps, 0 < p.xs.length → base ≤ p.b
  apart : ApartC ps
theorem LL.nil {α : Type} {mk : α → Value} {d : α} {e te : TypeId} {base : Nat} {w : World} : LL mk d e te base w (.slice none 0 0) [] := ⟨World.ownsRow_nil _ _ _ _, by simp, by simp, List.Pairwise.nil⟩
theorem LL.keep {α : Type} {mk : α → Value} {d : α} {e te : TypeId} {base m : Nat} {w w' : World} {v : Value} {ps : List (Cl α)} (h : LL mk d e te base w v ps) (hb : Below m w w') (hm : w.heap.size ≤ m) : LL mk d e te base w' v ps :=
  ⟨own_keep h.own hb hm, fun p hp => (h.ok p hp).below hb hm, h.lo, h.apart⟩

/-- The row's own block is none of the lists' blocks. -/
theorem LL.not_row {α : Type} {mk : α → Value} {d : α} {e te : TypeId} {base : Nat} {w : World} {v : Value} {ps : List (Cl α)} (hte : te ≠ e) (h : LL mk d e te base w v ps) {p : Cl α} {q : Cl α} (hq : q.ok mk d e w) (_ : p = q) (hp : 0 < q.xs.length) : some q.b ≠ v.ownBlock := by
  intro e1
  obtain ⟨a, cap, -, -, hc⟩ := hq
  obtain ⟨off, -, ⟨c, h1⟩, -⟩ := hc hp
  rcases h.own.2 with ⟨rfl, _⟩ | ⟨g, cap', cur, rfl, _, hgb, _⟩
  · simp [Value.ownBlock] at e1
  · obtain rfl : q.b = g := by simpa [Value.ownBlock] using e1
    rw [h1] at hgb
    simp at hgb
    exact hte hgb.2.symm

theorem pushd_alloc (w : World) (o : Obj) : Pushd w (w.alloc o) o := ⟨rfl, rfl, rfl, rfl⟩

/-- One list more. -/
theorem LL.app {α : Type} {mk : α → Value} {d : α} {e te : TypeId} {base : Nat} {w W w' : World} {v v' : Value} {ps : List (Cl α)} {p : Cl α} {o : Obj} (hte : te ≠ e) (h : LL mk d e te base w v ps) (hbase : base ≤ w.heap.size) (hp : p.ok mk d e w) (hplo : 0 < p.xs.length → base ≤ p.b)
    (hnew : ∀ q ∈ ps, 0 < q.xs.length → 0 < p.xs.length → q.b ≠ p.b) (hP : Pushd w W o) (h1 : w'.ownsRow base te 1 v' (ps.length + 1) (ps.map Cl.v ++ [p.v])) (hg : W.grownBy w' v.ownBlock) : LL mk d e te base w' v' (ps ++ [p]) ∧ Below base w w' := by
  have hk : ∀ q : Cl α, q.ok mk d e w → q.ok mk d e w' := fun q hq => by
    refine hq.same (fun hq0 => ?_)
    have hlt := hq.lt hq0
    rw [hg.block q.b (by rw [hP.size]; omega) (h.not_row hte hq rfl hq0), hP.old hlt]
  refine ⟨⟨by rw [List.length_append, List.map_append]; exact h1, fun q hq => ?_, fun q hq hq0 => ?_, ?_⟩, (hP.below.mono hbase).grown hg (by rw [hP.size]; omega) (fun k hk => (h.own.lt k hk).1)⟩
  · rcases List.mem_append.1 hq with hq | hq
    · exact hk q (h.ok q hq)
    · rw [List.mem_singleton] at hq
      subst hq
      exact hk q hp
  · rcases List.mem_append.1 hq with hq | hq
    · exact h.lo q hq hq0
    · rw [List.mem_singleton] at hq
      subst hq
      exact hplo hq0
  · refine List.pairwise_append.2 ⟨h.apart, List.pairwise_singleton _ _, fun q hq r hr => ?_⟩
    rw [List.mem_singleton] at hr
    subst hr
    exact hnew q hq

/-- As the laws' functions want it. -/
theorem LL.foot {α : Type} {mk : α → Value} {d : α} {e te : TypeId} {base : Nat} {w : World} {v : Value} {ps : List (Cl α)} (hte : te ≠ e) (h : LL mk d e te base w v ps) (hl : ps.length ≤ maxLen) : SsF mk d (Rng base w.heap.size) w v (ps.map Cl.xs) := by
  have hlen := h.own.1
  rcases h.own.2 with ⟨rfl, hz⟩ | ⟨g, cap, cur, rfl, hbg, hg, hnc, hcm, hcs, htake⟩
  · have : ps = [] := List.eq_nil_of_length_eq_zero hz
    subst this
    exact SsF.nil _ _ _ _ _ _ (Nat.zero_le _)
  · have hgl : g < w.heap.size := (h.own.lt g rfl).2
    have hget : ∀ i : Nat, i < ps.length → ∃ p, ps[i]? = some p ∧ p ∈ ps := fun i hi => ⟨ps[i], by simp [hi], List.getElem_mem hi⟩
    refine ⟨some ⟨g, 0, none⟩, cap, by rw [List.length_map], ⟨by rw [List.length_map]; exact hnc, hcm⟩, fun _ => ⟨g, 0, fun i => ((ps[i]?).map Cl.v).getD undef, fun i k => ∃ p, ps[i]? = some p ∧ 0 < p.xs.length ∧ k = p.b, rfl, ⟨hbg, hgl⟩, ⟨cur, te, hg⟩, fun i hi => ?_, fun i hi => ?_, fun i hi k hk => ?_, fun i j hi hj hne k hk hk' => ?_⟩⟩
    · rw [List.length_map] at hi
      obtain ⟨p, hp, -⟩ := hget i hi
      show w.cell? ⟨g, 0 + i, none⟩ = some (((ps[i]?).map Cl.v).getD undef)
      rw [Nat.zero_add, h.own.cellAt i (by omega), List.getElem?_map, hp]
      rfl
    · rw [List.length_map] at hi
      obtain ⟨p, hp, hm⟩ := hget i hi
      have e1 : ((ps[i]?).map Cl.v).getD undef = p.v := by rw [hp]; rfl
      have e2 : ((ps.map Cl.xs)[i]?).getD [] = p.xs := by rw [List.getElem?_map, hp]; rfl
      show SlF mk d _ w (((ps[i]?).map Cl.v).getD undef) (((ps.map Cl.xs)[i]?).getD []) ∧ CapOk (((ps[i]?).map Cl.v).getD undef)
      rw [e1, e2]
      exact ⟨(h.ok p hm).foot.mono (fun k hk => ⟨p, hp, hk.1, hk.2⟩), (h.ok p hm).cap⟩
    · obtain ⟨p, hp, hp0, rfl⟩ := hk
      have hm : p ∈ ps := List.mem_of_getElem? hp
      refine ⟨⟨h.lo p hm hp0, (h.ok p hm).lt hp0⟩, fun e1 => ?_⟩
      exact h.not_row hte (h.ok p hm) rfl hp0 (by rw [e1]; rfl)
    · obtain ⟨p, hp, hp0, rfl⟩ := hk
      obtain ⟨q, hq, hq0, e1⟩ := hk'
      rw [List.length_map] at hi hj
      have hpair := List.pairwise_iff_getElem.1 h.apart
      have ep : ps[i]'hi = p := by rw [List.getElem?_eq_getElem hi] at hp; exact Option.some.inj hp
      have eq : ps[j]'hj = q := by rw [List.getElem?_eq_getElem hj] at hq; exact Option.some.inj hq
      rcases Nat.lt_or_gt_of_ne hne with hlt | hlt
      · exact hpair i j hi hj hlt (by rw [ep]; exact hp0) (by rw [eq]; exact hq0) (by rw [ep, eq]; exact e1)
      · exact hpair j i hj hi hlt (by rw [eq]; exact hq0) (by rw [ep]; exact hp0) (by rw [ep, eq]; exact e1.symm)

/-- One store into a row of its own. -/
theorem own_set {base e g n cap k : Nat} {w : World} {xs : List Value} {u : Value} (h : w.ownsRow base e 1 (.slice (some ⟨g, 0, none⟩) n cap) n xs) (_ : k < n) : (w.setCell ⟨g, k, none⟩ u).ownsRow base e 1 (.slice (some ⟨g, 0, none⟩) n cap) n (xs.set k u) := by
  have hlen := h.1
  rcases h.2 with ⟨e0, _⟩ | ⟨g', cap', cur, e0, hb, hg, hn, hm, hs, ht⟩
  · cases e0
  · cases e0
    refine ⟨by rw [List.length_set]; exact hlen, .inr ⟨g, cap, cur.setIfInBounds k u, rfl, hb, ?_, hn, hm, by rw [Array.size_setIfInBounds]; exact hs, ?_⟩⟩
    · simp [World.setCell, Array.getElem?_modify, hg]
    · rw [Array.toList_setIfInBounds, ← ht]
      rw [List.take_set]

end Go.Proofs.YtbgjgaejfkdceaaGreat

namespace Go.Proofs.YtbgjgaejfkdceaaGreat
open Go.RowKit

/-- The first line of a text. -/
def hd (xs : List Int) : List Int := xs.takeWhile (fun x => x != 10)
theorem hd_len (xs : List Int) : (hd xs).length ≤ xs.length := by
  unfold hd
  induction xs with
  | nil => simp
  | cons x r ih =>
    rw [List.takeWhile_cons]
    split
    · simp; omega
    · simp
theorem hd_take (ys : List Int) (m : Nat) (h1 : m ≤ ys.length) (h2 : ∀ j : Nat, j < m → ys[j]?.getD 0 ≠ 10) (h3 : m = ys.length ∨ ys[m]?.getD 0 = 10) : hd ys = ys.take m := by
  unfold hd
  induction ys generalizing m with
  | nil => simp
  | cons y r ih =>
    cases m with
    | zero =>
      have h4 : y = 10 := by
        rcases h3 with h3 | h3
        · simp at h3
        · simpa using h3
      subst h4
      simp
    | succ m =>
      have h4 : y ≠ 10 := by simpa using h2 0 (by omega)
      rw [List.takeWhile_cons, if_pos (by simpa using h4), List.take_succ_cons]
      congr 1
      refine ih m (by simpa using h1) (fun j hj => by simpa using h2 (j + 1) (by omega)) ?_
      rcases h3 with h3 | h3
      · exact Or.inl (by simpa using h3)
      · exact Or.inr (by simpa using h3)

/-- The lines of a text. -/
def lnsF : Nat → List Int → List (List Int)
  | 0, _ => []
  | n + 1, xs => if xs = [] then [] else hd xs :: lnsF n (xs.drop ((hd xs).length + 1))
theorem lnsF_nil (n : Nat) : lnsF n [] = [] := by cases n <;> simp [lnsF]
theorem lnsF_same (n : Nat) : ∀ (m : Nat) (xs : List Int), xs.length ≤ n → xs.length ≤ m → lnsF n xs = lnsF m xs := by
  induction n with
  | zero =>
    intro m xs h _
    rw [List.eq_nil_of_length_eq_zero (by omega : xs.length = 0), lnsF_nil, lnsF_nil]
  | succ n ih =>
    intro m xs h hm
    by_cases e : xs = []
    · subst e
      rw [lnsF_nil, lnsF_nil]
    · have hp : 0 < xs.length := List.length_pos_iff.2 e
      obtain ⟨m', rfl⟩ : ∃ m', m = m' + 1 := ⟨m - 1, by omega⟩
      simp only [lnsF, e, if_false]
      rw [ih m' _ (by simp; omega) (by simp; omega)]
def lns (xs : List Int) : List (List Int) := lnsF xs.length xs
theorem lns_nil : lns [] = [] := rfl
theorem lns_cons {xs : List Int} (h : xs ≠ []) : lns xs = hd xs :: lns (xs.drop ((hd xs).length + 1)) := by
  have hp : 0 < xs.length := List.length_pos_iff.2 h
  unfold lns
  obtain ⟨m, e⟩ : ∃ m, xs.length = m + 1 := ⟨xs.length - 1, by omega⟩
  rw [e]
  simp only [lnsF, h, if_false]
  rw [lnsF_same m _ _ (by simp; omega) (Nat.le_refl _)]
theorem lnsF_len (n : Nat) : ∀ xs : List Int, (lnsF n xs).length ≤ xs.length ∧ tot (lnsF n xs) ≤ xs.length := by
  induction n with
  | zero => intro xs; simp [lnsF, tot]
  | succ n ih =>
    intro xs
    by_cases e : xs = []
    · subst e; simp [lnsF, tot]
    · have hp : 0 < xs.length := List.length_pos_iff.2 e
      have h1 := ih (xs.drop ((hd xs).length + 1))
      have h2 := hd_len xs
      simp only [lnsF, e, if_false, List.length_cons, tot]
      rw [List.length_drop] at h1
      omega
theorem lns_len (xs : List Int) : (lns xs).length ≤ xs.length := (lnsF_len _ xs).1
theorem lns_tot (xs : List Int) : tot (lns xs) ≤ xs.length := (lnsF_len _ xs).2

theorem drop_get (xs : List Int) (k j : Nat) : (xs.drop k)[j]?.getD 0 = xs[k + j]?.getD 0 := by rw [List.getElem?_drop]

/-- One byte more. -/
theorem grow_byte {base : Nat} {wr W w' : World} {v v' : Value} {os : List Int} {u : Int} {o : Obj} (hown : wr.ownsRow base 5 1 v os.length (os.map mB)) (hbase : base ≤ wr.heap.size) (hP : Pushd wr W o)
    (h1 : w'.ownsRow base 5 1 v' (os.length + 1) (os.map mB ++ [.int .u8 u])) (hg : W.grownBy w' v.ownBlock) :
    w'.ownsRow base 5 1 v' (os ++ [u]).length ((os ++ [u]).map mB) ∧ Below base wr w' := by
  refine ⟨by rw [List.length_append, List.map_append]; exact h1, (hP.below.mono hbase).grown hg (by rw [hP.size]; omega) (fun k hk => (hown.lt k hk).1)⟩

/-- What lists of lines are. -/
abbrev LB (base : Nat) (w : World) (v : Value) (ps : List (Cl Int)) : Prop := LL mB 0 5 25 base w v ps

/-- The part of a line that is read. -/
def LineAt (bs : List Int) (k n : Nat) (ls : List Int) : Prop := ls = (bs.drop k).take (n - k) ∧ ls.length = n - k ∧ n ≤ bs.length ∧ ∀ j : Nat, j < n - k → bs[k + j]?.getD 0 ≠ 10
theorem LineAt.start (bs : List Int) (k : Nat) (h : k ≤ bs.length) : LineAt bs k k [] := ⟨by simp, by simp, h, fun j hj => by omega⟩
theorem LineAt.len {bs ls : List Int} {k n : Nat} (h : LineAt bs k n ls) : ls.length = n - k := h.2.1
theorem LineAt.hd {bs ls : List Int} {k n : Nat} (h : LineAt bs k n ls) (he : n = bs.length ∨ bs[n]?.getD 0 = 10) (hk : k ≤ n) : hd (bs.drop k) = ls := by
  rw [h.1]
  have := h.2.2.1
  refine hd_take _ _ (by simp; omega) (fun j hj => by rw [drop_get]; exact h.2.2.2 j hj) ?_
  rcases he with he | he
  · exact Or.inl (by simp; omega)
  · exact Or.inr (by rw [drop_get, show k + (n - k) = n by omega]; exact he)
theorem LineAt.step {bs ls : List Int} {k n : Nat} (h : LineAt bs k n ls) (hk : k ≤ n) (hn : n < bs.length) (hx : bs[n]?.getD 0 ≠ 10) : LineAt bs k (n + 1) (ls ++ [bs[n]?.getD 0]) := by
  refine ⟨?_, by rw [List.length_append, h.2.1]; simp; omega, by omega, fun j hj => ?_⟩
  · rw [show n + 1 - k = n - k + 1 by omega, List.take_add_one, ← h.1, List.getElem?_drop, show k + (n - k) = n by omega, List.getElem?_eq_getElem hn]
    rfl
  · by_cases e : j < n - k
    · exact h.2.2.2 j e
    · rw [show k + j = n by omega]; exact hx

/-- One line more. -/
theorem split_out {bs ls : List Int} {k n : Nat} {ps : List (Cl Int)} {w V wr : World} {ov lv : Value} (Hll : LB w.heap.size V ov ps) (hszr : w.heap.size ≤ V.heap.size) (Hown : wr.ownsRow V.heap.size 5 1 lv ls.length (ls.map mB)) (hbl : Below V.heap.size V wr) (hb : Below w.heap.size w V)
    (Hln : ps.map Cl.xs ++ lns (bs.drop k) = lns bs) (hlt : k < bs.length) (Hla : LineAt bs k n ls) (hend : n = bs.length ∨ bs[n]?.getD 0 = 10) (hkn : k ≤ n) (w' : World) (v' : Value) (g1 : w'.ownsRow w.heap.size 25 1 v' (ps.length + 1) (ps.map Cl.v ++ [lv])) (g2 : (wr.alloc (.cells #[lv] 25)).grownBy w' ov.ownBlock) :
    ∃ p : Cl Int, (ps ++ [p]).map Cl.xs ++ lns (bs.drop (n + 1)) = lns bs ∧ LB w.heap.size w' v' (ps ++ [p]) ∧ Below w.heap.size w w' := by
  have hszl := hbl.size
  obtain ⟨pb, hp, hplo⟩ := own_cl Hown
  have hll' := Hll.keep hbl (Nat.le_refl _)
  obtain ⟨r1, r2⟩ := hll'.app (by decide) (Nat.le_trans hszr hszl) hp (fun h => Nat.le_trans hszr (hplo h)) (fun q hq hq0 hp0 e => by
    have h1 := (Hll.ok q hq).lt hq0
    have h2 := hplo hp0
    rw [e] at h1
    exact absurd h1 (Nat.not_lt.2 h2)) (pushd_alloc wr _) g1 g2
  refine ⟨_, ?_, r1, (hb.trans (hbl.mono hszr)).trans r2⟩
  rw [← Hln, List.map_append, List.append_assoc, lns_cons (xs := bs.drop k) (by intro e; have := congrArg List.length e; simp at this; omega), Hla.hd hend hkn, List.drop_drop, Hla.len, show k + (n - k + 1) = n + 1 by omega]
  rfl

def SplR (e : Ending) (w w' : World) (bs : List Int) : Prop := ∃ v' ps, e = .returned v' ∧ ps.map Cl.xs = lns bs ∧ LB w.heap.size w' v' ps ∧ Below w.heap.size w w'

set_option maxHeartbeats 4000000 in
set_option maxRecDepth 100000 in
theorem specSplit_any (v : Value) (bs : List Int) (w : World) (hv : SlAt mB 0 0 w.heap.size w v bs) (hl : bs.length ≤ 1048576) :
    Calls Tryz.prog 19 #[v] w fun e w' => SplR e w w' bs := by
  obtain ⟨i0, hi, hz0, hz1, hz2⟩ := info_parts Tryz.zinByte
  obtain ⟨j0, hj, hy0, hy1, hy2⟩ := info_parts Tryz.zinByteS
  obtain ⟨a, cap, rfl, hml, hc⟩ := hv
  go_enter Tryz.func19, Tryz.ntmps19
  go_wp2_with fail
  go_loopw [3, 4] (fun ov iv wr => ∃ (k : Nat) (ps : List (Cl Int)), k ≤ bs.length + 1 ∧ ps.length ≤ k ∧ iv = .int .i64 k ∧ ps.map Cl.xs ++ lns (bs.drop k) = lns bs ∧ LB w.heap.size wr ov ps ∧ Below w.heap.size w wr) (fun _ iv _ => bs.length + 1 - (intOf iv).toNat)
  case atStart => exact ⟨0, [], by omega, Nat.le_refl _, rfl, by simp, LL.nil, Below.refl _ _⟩
  case round =>
    obtain ⟨k, ps, hk, hpk, rfl, hln, hll, hb⟩ := hrel
    have hszr := hb.size
    have Hll := hide hll
    have Hln := hide hln
    obtain ⟨oa, oc, rfl⟩ := own_is hll.own
    clear hll hln
    by_cases hlt : k < bs.length
    · have hlt' : (k : Int) < (bs.length : Int) := by omega
      obtain ⟨b, off, rfl, -, hbn, hcell⟩ := hc (by omega)
      obtain ⟨V, hV⟩ : ∃ V, V = wr := ⟨_, rfl⟩
      have Hcell : Hid (∀ wr : World, Below V.heap.size V wr → ∀ i : Nat, i < bs.length → wr.cell? ⟨b, off + i, none⟩ = some (.int .u8 (bs[i]?.getD 0))) := fun wr' h' i hi' => by
        rw [(hb.trans (by rw [← hV]; exact h'.mono (by rw [hV]; exact hszr))).cell (p := ⟨b, off + i, none⟩) hbn]
        exact hcell i hi'
      rw [← hV] at hszr hb Hll ⊢
      clear hV hcell hc
      go_wp2_with fail
      go_loopw [4, 5] (fun iv lv wr => ∃ (n : Nat) (ls : List Int), k ≤ n ∧ n ≤ bs.length ∧ iv = .int .i64 n ∧ LineAt bs k n ls ∧ wr.ownsRow V.heap.size 5 1 lv ls.length (ls.map mB) ∧ Below V.heap.size V wr) (fun iv _ _ => bs.length - (intOf iv).toNat)
      case atStart => exact ⟨k, [], Nat.le_refl _, by omega, rfl, LineAt.start bs k (by omega), World.ownsRow_nil _ _ _ _, Below.refl _ _⟩
      case round =>
        obtain ⟨n, ls, hkn, hnb, rfl, hla, hown, hbl⟩ := hrel
        have hszl := hbl.size
        have Hown := hide hown
        have Hla := hide hla
        have hll : ls.length ≤ 1048576 := by have := hla.len; omega
        obtain ⟨la, lc, rfl⟩ := own_is hown
        clear hown hla
        have Hout := hide (fun hend => split_out (bs := bs) (n := n) (unhide Hll) hszr (unhide Hown) hbl hb (unhide Hln) hlt (unhide Hla) hend hkn)
        by_cases hkl : n < bs.length
        · have hkl' : (n : Int) < (bs.length : Int) := by omega
          have hx := unhide Hcell wr hbl n hkl
          by_cases h10 : bs[n]?.getD 0 = 10
          · have Hst := hide (unhide Hout (Or.inr h10))
            rw [h10] at hx
            clear h10 Hout
            go_wp2_with (at_builtin; refine wpList_append_own _ rfl _ _ 22 rfl w.heap.size 25 j0 (.slice none 0 0) 1 24 Tryz.underlying22 hj hy0 hy1 hy2 rfl (by decide) _ _ _ rfl (World.ownsRow.alloc (w := wr) ((unhide Hll).keep hbl (Nat.le_refl _)).own _) ⟨wr.heap.size, 0, none⟩ 1 1 [.slice la ls.length lc] rfl rfl ?_ ?_ ?_ ?_ ?_ ?_)
            · exact cell_1 (by simp)
            · intro u hu; simp at hu; subst hu; rfl
            · unfold maxLen; omega
            · omega
            · rw [sz_alloc]; omega
            intro v3 w3 h5 hg5 _
            have h3 := hide (unhide Hst w3 v3 h5 hg5)
            obtain ⟨g3, cap3, rfl⟩ := ownsRow_succ h5
            clear h5 hg5
            go_wp2
            obtain ⟨p, r1, r2, r3⟩ := unhide h3
            exact ⟨⟨n + 1, ps ++ [p], by omega, by simp; omega, by go_num, r1, r2, r3⟩, by simp [intOf]; omega⟩
          · have Hn := hide ((unhide Hla).step hkn hkl h10)
            have hst : Hid (∀ (w' : World) (v' : Value), w'.ownsRow V.heap.size 5 1 v' (ls.length + 1) (ls.map mB ++ [.int .u8 (bs[n]?.getD 0)]) → (wr.alloc (.cells #[.int .u8 (bs[n]?.getD 0)] 5)).grownBy w' (Value.slice la ls.length lc).ownBlock →
                w'.ownsRow V.heap.size 5 1 v' (ls ++ [bs[n]?.getD 0]).length ((ls ++ [bs[n]?.getD 0]).map mB) ∧ Below V.heap.size V w') := fun w' v' g1 g2 => by
              obtain ⟨r1, r2⟩ := grow_byte (unhide Hown) hszl (pushd_alloc wr _) g1 g2
              exact ⟨r1, hbl.trans r2⟩
            generalize bs[n]?.getD 0 = u at *
            have h10' : (u != 10) = true := by simp [h10]
            have Hne := hide h10
            clear h10 Hout
            go_wp2_with (at_builtin; refine wpList_append_own _ rfl _ _ 25 rfl V.heap.size 5 i0 (.int .u8 0) 1 1 Tryz.underlying25 hi hz0 hz1 hz2 rfl (by decide) _ _ _ rfl (World.ownsRow.alloc (w := wr) (unhide Hown) _) ⟨wr.heap.size, 0, none⟩ 1 1 [.int .u8 u] rfl rfl ?_ ?_ ?_ ?_ ?_ ?_)
            · exact cell_1 (by simp)
            · intro u' hu; simp at hu; subst hu; rfl
            · unfold maxLen; omega
            · omega
            · rw [sz_alloc]; show _ ≤ wr.heap.size + 1; omega
            intro v' w3 h5 hg5 _
            have h3 := hide (unhide hst w3 v' h5 hg5)
            clear h5 hg5
            go_wp2
            go_roundw
            case rel => exact ⟨n + 1, _, by omega, by omega, by go_num, unhide Hn, (unhide h3).1, (unhide h3).2⟩
            case measure => simp [intOf]; omega
        · have hkl' : ¬ (n : Int) < (bs.length : Int) := by omega
          have Hst := hide (unhide Hout (Or.inl (by omega)))
          clear Hout
          go_wp2_with (at_builtin; refine wpList_append_own _ rfl _ _ 22 rfl w.heap.size 25 j0 (.slice none 0 0) 1 24 Tryz.underlying22 hj hy0 hy1 hy2 rfl (by decide) _ _ _ rfl (World.ownsRow.alloc (w := wr) ((unhide Hll).keep hbl (Nat.le_refl _)).own _) ⟨wr.heap.size, 0, none⟩ 1 1 [.slice la ls.length lc] rfl rfl ?_ ?_ ?_ ?_ ?_ ?_)
          · rfl
          · unfold maxLen; omega
          · omega
          · omega
          intro v3 w3 h5 hg5 _
          have h3 := hide (unhide Hst w3 v3 h5 hg5)
          obtain ⟨g3, cap3, rfl⟩ := ownsRow_succ h5
          clear h5 hg5
          go_wp2
          obtain ⟨p, r1, r2, r3⟩ := unhide h3
          exact ⟨⟨n + 1, ps ++ [p], by omega, by simp; omega, by go_num, r1, r2, r3⟩, by simp [intOf]; omega⟩
    · have hlt' : ¬ (k : Int) < (bs.length : Int) := by omega
      have hz : Hid (ps.map Cl.xs = lns bs) := by
        have := unhide Hln
        rwa [List.drop_eq_nil_of_le (by omega), lns_nil, List.append_nil] at this
      clear hc
      go_wp2
      go_ret
      exact ⟨_, ps, rfl, unhide hz, unhide Hll, hb⟩

end Go.Proofs.YtbgjgaejfkdceaaGreat

namespace Go.Proofs.YtbgjgaejfkdceaaGreat
open Go.RowKit

/-- Ascending, each once. -/
def Asc (ys : List Int) : Prop := ys.Pairwise (· < ·)
/-- ys is xs in ascending order, each number once. -/
structure Ord (xs ys : List Int) : Prop where
  asc : Asc ys
  mem : ∀ z, z ∈ ys ↔ z ∈ xs

theorem asc_uniq : ∀ {xs ys : List Int}, Asc xs → Asc ys → (∀ z, z ∈ xs ↔ z ∈ ys) → xs = ys
  | [], [], _, _, _ => rfl
  | [], y :: ys, _, _, h => absurd ((h y).2 (by simp)) (by simp)
  | x :: xs, [], _, _, h => absurd ((h x).1 (by simp)) (by simp)
  | x :: xs, y :: ys, hx, hy, h => by
    have hx' := List.pairwise_cons.1 hx
    have hy' := List.pairwise_cons.1 hy
    have e : x = y := by
      have h1 := (h x).1 (by simp)
      have h2 := (h y).2 (by simp)
      rcases List.mem_cons.1 h1 with e | m1
      · exact e
      · rcases List.mem_cons.1 h2 with e | m2
        · exact e.symm
        · have a := hx'.1 y m2
          have b := hy'.1 x m1
          omega
    subst e
    congr 1
    refine asc_uniq hx'.2 hy'.2 (fun z => ⟨fun m => ?_, fun m => ?_⟩)
    · rcases List.mem_cons.1 ((h z).1 (List.mem_cons_of_mem _ m)) with e | m'
      · have := hx'.1 z m; omega
      · exact m'
    · rcases List.mem_cons.1 ((h z).2 (List.mem_cons_of_mem _ m)) with e | m'
      · have := hy'.1 z m; omega
      · exact m'

theorem Ord.uniq {xs ys zs : List Int} (h : Ord xs ys) (k : Ord xs zs) : ys = zs := asc_uniq h.asc k.asc (fun z => (h.mem z).trans (k.mem z).symm)
theorem Ord.congr {xs xs' ys : List Int} (h : Ord xs ys) (hm : ∀ z, z ∈ xs ↔ z ∈ xs') : Ord xs' ys := ⟨h.asc, fun z => (h.mem z).trans (hm z)⟩
theorem Ord.nil : Ord [] [] := ⟨List.Pairwise.nil, fun _ => Iff.rfl⟩
theorem Ord.small {xs : List Int} (h : xs.length < 2) : Ord xs xs := by
  refine ⟨?_, fun _ => Iff.rfl⟩
  match xs, h with
  | [], _ => exact List.Pairwise.nil
  | [x], _ => exact List.pairwise_singleton _ _

theorem mem_get {xs : List Int} {z : Int} : z ∈ xs ↔ ∃ k : Nat, k < xs.length ∧ xs[k]?.getD 0 = z := by
  rw [List.mem_iff_getElem]
  constructor
  · rintro ⟨k, hk, rfl⟩
    exact ⟨k, hk, by simp [hk]⟩
  · rintro ⟨k, hk, rfl⟩
    exact ⟨k, hk, by simp [hk]⟩

theorem asc_get {xs : List Int} (h : Asc xs) {i j : Nat} (hij : i < j) (hj : j < xs.length) : xs[i]?.getD 0 < xs[j]?.getD 0 := by
  have := List.pairwise_iff_getElem.1 h i j (by omega) hj hij
  simpa [show i < xs.length by omega, hj] using this

/-- Sorted and with repeated neighbours dropped. -/
theorem ord_compact (zs : List Int) : Ord zs (Lib.compact (zs.mergeSort fun x y => decide (x ≤ y))) := by
  have hs : (zs.mergeSort fun x y => decide (x ≤ y)).Pairwise (fun x y => decide (x ≤ y) = true) :=
    List.pairwise_mergeSort (fun a b c h1 h2 => by simp only [decide_eq_true_eq] at *; omega) (fun a b => by simp only [Bool.or_eq_true, decide_eq_true_eq]; omega) zs
  have hm : ∀ z, z ∈ (zs.mergeSort fun x y => decide (x ≤ y)) ↔ z ∈ zs := fun z => List.mem_mergeSort
  generalize (zs.mergeSort fun x y => decide (x ≤ y)) = d at hs hm
  have hle : ∀ i j : Nat, i ≤ j → j < d.length → d.toArray[i]! ≤ d.toArray[j]! := by
    intro i j hij hj
    by_cases e : i = j
    · subst e; exact Int.le_refl _
    · have := List.pairwise_iff_getElem.1 hs i j (by omega) hj (by omega)
      simpa [getElem!_pos, show i < d.length by omega, hj] using this
  refine ⟨?_, fun z => ?_⟩
  · unfold Asc Lib.compact Lib.compactUpTo
    rw [List.pairwise_map]
    have h1 : ((List.range d.length).filter (Lib.keeps d.toArray)).Pairwise (· < ·) := List.Pairwise.filter _ List.pairwise_lt_range
    refine List.Pairwise.imp_of_mem ?_ h1
    intro i j hi hj hij
    rw [List.mem_filter, List.mem_range] at hi hj
    have hk := hj.2
    have h2 := hle i (j - 1) (by omega) (by omega)
    have h3 := hle (j - 1) j (by omega) hj.1
    have h4 : d.toArray[j]! ≠ d.toArray[j - 1]! := fun e => by rw [Lib.keeps_neg (by omega) e] at hk; cases hk
    omega
  · rw [← hm z]
    unfold Lib.compact Lib.compactUpTo
    simp only [List.mem_map, List.mem_filter, List.mem_range]
    constructor
    · rintro ⟨j, ⟨hj, -⟩, rfl⟩
      simp [getElem!_pos, hj]
    · intro hz
      obtain ⟨j, hj, e⟩ := List.mem_iff_getElem.1 hz
      have : ∀ n : Nat, ∀ j : Nat, j ≤ n → j < d.length → d.toArray[j]! = z → ∃ a, (a < d.length ∧ Lib.keeps d.toArray a = true) ∧ d.toArray[a]! = z := by
        intro n
        induction n with
        | zero => intro j h1 h2 h3; exact ⟨j, ⟨h2, Lib.keeps_lt_one _ _ (by omega)⟩, h3⟩
        | succ n ih =>
          intro j h1 h2 h3
          by_cases hj0 : j = 0
          · exact ⟨j, ⟨h2, Lib.keeps_lt_one _ _ (by omega)⟩, h3⟩
          · by_cases e2 : d.toArray[j]! = d.toArray[j - 1]!
            · exact ih (j - 1) (by omega) (by omega) (by rw [← e2, h3])
            · exact ⟨j, ⟨h2, Lib.keeps_pos e2⟩, h3⟩
      exact this j j (Nat.le_refl _) hj (by simp [getElem!_pos, hj, e])

/-- Two ascending lists that are merged: os is what has come. -/
structure MInv (x y os : List Int) (i j : Nat) : Prop where
  asc : Asc os
  mem : ∀ z, z ∈ os ↔ z ∈ x.take i ∨ z ∈ y.take j
  lx : ∀ z, z ∈ os → ∀ k, i ≤ k → k < x.length → z ≤ x[k]?.getD 0
  ly : ∀ z, z ∈ os → ∀ k, j ≤ k → k < y.length → z ≤ y[k]?.getD 0

theorem MInv.swap {x y os : List Int} {i j : Nat} (h : MInv x y os i j) : MInv y x os j i := ⟨h.asc, fun z => (h.mem z).trans Or.comm, h.ly, h.lx⟩
theorem MInv.start (x y : List Int) : MInv x y [] 0 0 := ⟨List.Pairwise.nil, fun z => by simp, fun z h => by simp at h, fun z h => by simp at h⟩
theorem take_succ_mem {x : List Int} {i : Nat} (h : i < x.length) (z : Int) : z ∈ x.take (i + 1) ↔ z ∈ x.take i ∨ z = x[i]?.getD 0 := by
  rw [List.take_add_one, List.mem_append]
  simp [h]

/-- The next of x is no new number. -/
theorem MInv.skip {x y os : List Int} {i j : Nat} (h : MInv x y os i j) (hi : i < x.length) (hin : x[i]?.getD 0 ∈ os) : MInv x y os (i + 1) j := by
  refine ⟨h.asc, fun z => ?_, fun z hz k h1 h2 => h.lx z hz k (by omega) h2, h.ly⟩
  rw [take_succ_mem hi, h.mem z]
  constructor
  · rintro (a | a)
    · exact Or.inl (Or.inl a)
    · exact Or.inr a
  · rintro ((a | a) | a)
    · exact Or.inl a
    · subst a; exact (h.mem _).1 hin
    · exact Or.inr a
/-- The next of x is a new number. -/
theorem MInv.next {x y os : List Int} {i j : Nat} (h : MInv x y os i j) (hx : Asc x) (hy : Asc y) (hi : i < x.length) (hlt : ∀ z, z ∈ os → z ≠ x[i]?.getD 0) (hle : j < y.length → x[i]?.getD 0 ≤ y[j]?.getD 0) : MInv x y (os ++ [x[i]?.getD 0]) (i + 1) j := by
  refine ⟨?_, fun z => ?_, fun z hz k h1 h2 => ?_, fun z hz k h1 h2 => ?_⟩
  · refine List.pairwise_append.2 ⟨h.asc, List.pairwise_singleton _ _, fun a ha b hb => ?_⟩
    simp at hb
    have h1 := h.lx a ha i (Nat.le_refl _) hi
    have h2 := hlt a ha
    simp [hi] at h1 h2
    subst hb
    simp [hi]
    omega
  · rw [take_succ_mem hi, List.mem_append, h.mem z, List.mem_singleton]
    constructor
    · rintro ((a | a) | a)
      · exact Or.inl (Or.inl a)
      · exact Or.inr a
      · exact Or.inl (Or.inr a)
    · rintro ((a | a) | a)
      · exact Or.inl (Or.inl a)
      · exact Or.inr a
      · exact Or.inl (Or.inr a)
  · rcases List.mem_append.1 hz with a | a
    · exact h.lx z a k (by omega) h2
    · rw [List.mem_singleton] at a
      subst a
      have := asc_get hx (show i < k by omega) h2
      omega
  · rcases List.mem_append.1 hz with a | a
    · exact h.ly z a k h1 h2
    · rw [List.mem_singleton] at a
      subst a
      have h3 := hle (by omega)
      by_cases e : j = k
      · subst e; exact h3
      · have := asc_get hy (show j < k by omega) h2
        omega
theorem MInv.done {x y os : List Int} (h : MInv x y os x.length y.length) {xs : List Int} (hm : ∀ z, z ∈ xs ↔ z ∈ x ∨ z ∈ y) : Ord xs os := ⟨h.asc, fun z => by rw [h.mem z, hm z]; simp⟩
/-- The last one, against all. -/
theorem MInv.last {x y os : List Int} {i j : Nat} (h : MInv x y os i j) {v : Int} (hle : ∀ z, z ∈ os → z ≤ v) (hne : os[os.length - 1]?.getD 0 ≠ v) : ∀ z, z ∈ os → z ≠ v := by
  intro z hz e
  subst e
  obtain ⟨k, hk, hkz⟩ := mem_get.1 hz
  by_cases e : k = os.length - 1
  · subst e; exact hne hkz
  · have h1 := asc_get h.asc (show k < os.length - 1 by omega) (by omega)
    have h2 := hle _ (mem_get.2 ⟨os.length - 1, by omega, rfl⟩)
    omega
end Go.Proofs.YtbgjgaejfkdceaaGreat

namespace Go.Proofs.YtbgjgaejfkdceaaGreat
open Go.RowKit

theorem SlAt.take {α : Type} {mk : α → Value} {d : α} {lo n b off k cap : Nat} {w : World} {xs : List α} (hk : k ≤ xs.length) (hl : xs.length ≤ maxLen) (hb : lo ≤ b) (hbn : b < n) (hc : ∀ i : Nat, i < xs.length → w.cell? ⟨b, off + i, none⟩ = some (mk (xs[i]?.getD d))) :
    SlAt mk d lo n w (.slice (some ⟨b, off, none⟩) k cap) (xs.take k) := by
  have e : (xs.take k).length = k := by simp; omega
  refine ⟨_, cap, by rw [e], by omega, fun _ => ⟨b, off, rfl, hb, hbn, fun i hi => ?_⟩⟩
  rw [e] at hi
  rw [hc i (by omega), List.getElem?_take, if_pos hi]
theorem SlAt.drop {α : Type} {mk : α → Value} {d : α} {lo n b off k m cap : Nat} {w : World} {xs : List α} (hk : k + m = xs.length) (hl : xs.length ≤ maxLen) (hb : lo ≤ b) (hbn : b < n) (hc : ∀ i : Nat, i < xs.length → w.cell? ⟨b, off + i, none⟩ = some (mk (xs[i]?.getD d))) :
    SlAt mk d lo n w (.slice (some ⟨b, off + k, none⟩) m cap) (xs.drop k) := by
  have e : (xs.drop k).length = m := by simp; omega
  refine ⟨_, cap, by rw [e], by omega, fun _ => ⟨b, off + k, rfl, hb, hbn, fun i hi => ?_⟩⟩
  rw [e] at hi
  rw [Nat.add_assoc, hc (k + i) (by omega), List.getElem?_drop]

/-- What putting a list into order answers. -/
def OrdRet (e : Ending) (w w' : World) (xs : List Int) : Prop :=
  ∃ v ys, e = .returned v ∧ Ord xs ys ∧ ys.length ≤ xs.length ∧ SlW mI 0 w.heap.size w'.heap.size w' v ys

/-- The same, in a row of its own. -/
def OrdOwn (e : Ending) (w w' : World) (xs : List Int) : Prop :=
  ∃ v ys, e = .returned v ∧ Ord xs ys ∧ ys.length ≤ xs.length ∧ w'.ownsRow w.heap.size 3 1 v ys.length (ys.map mI)

/-- One number more. -/
theorem ord_step {os : List Int} {u : Int} {w2 wr w3 : World} {tv v' : Value} {o : Obj} {q : Nat} (hown : wr.ownsRow w2.heap.size 3 1 tv os.length (os.map mI)) (hb : Below w2.heap.size w2 wr)
    (h1 : w3.ownsRow w2.heap.size 3 1 v' (os.length + 1) (os.map mI ++ [.int .i64 u])) (hg : ((wr.drewN q).alloc o).grownBy w3 tv.ownBlock) :
    w3.ownsRow w2.heap.size 3 1 v' (os ++ [u]).length ((os ++ [u]).map mI) ∧ Below w2.heap.size w2 w3 := by
  refine ⟨by rw [List.length_append, List.map_append]; exact h1, ((below_drewN hb q).alloc hb.size o).grown hg (by rw [sz_alloc]; exact Nat.le_succ_of_le hb.size) (fun k hk => (hown.lt k hk).1)⟩

set_option maxHeartbeats 10000000 in
set_option maxRecDepth 100000 in
theorem l3order_own (N : Nat) : ∀ (v : Value) (xs : List Int) (w : World), xs.length ≤ N → xs.length ≤ 1048576 → SlAt mI 0 0 w.heap.size w v xs → CapOk v →
    Calls Tryz.prog 63 #[v] w fun e w' => OrdOwn e w w' xs ∧ Below w.heap.size w w' := by
  induction N with
  | zero =>
    intro v xs w hN hl hv hcap
    have Hv := hide hv
    obtain ⟨a, cap, rfl, hml, hc⟩ := hv
    have h2 : xs.length < 2 := by omega
    have h2' : (xs.length : Int) < 2 := by omega
    clear hc
    go_enter Tryz.func63, Tryz.ntmps63
    go_wp2_with (at_builtin; refine app_ints_own rfl _ _ rfl rfl _ rfl xs (unhide Hv) hl ?_; intro v1 w1 hb1 hs1 ho1)
    go_ret
    exact ⟨⟨_, xs, rfl, Ord.small h2, Nat.le_refl _, hs1⟩, hb1⟩
  | succ N ih =>
    intro v xs w hN hl hv hcap
    obtain ⟨i0, hi, hz0, hz1, hz2⟩ := info_parts Tryz.zinInt
    have Hv := hide hv
    obtain ⟨a, cap, rfl, hml, hc⟩ := hv
    obtain ⟨hcp, hcm⟩ := hcap.le
    by_cases h2 : xs.length < 2
    · have h2' : (xs.length : Int) < 2 := by omega
      clear hc
      go_enter Tryz.func63, Tryz.ntmps63
      go_wp2_with (at_builtin; refine app_ints_own rfl _ _ rfl rfl _ rfl xs (unhide Hv) hl ?_; intro v1 w1 hb1 hs1 ho1)
      go_ret
      exact ⟨⟨_, xs, rfl, Ord.small h2, Nat.le_refl _, hs1⟩, hb1⟩
    · have h2' : ¬ (xs.length : Int) < 2 := by omega
      obtain ⟨b, off, rfl, -, hbn, hcell⟩ := hc (by omega)
      have hA : SlAt mI 0 0 w.heap.size w (.slice (some ⟨b, off, none⟩) (xs.length / 2) cap) (xs.take (xs.length / 2)) := SlAt.take (by omega) hml (Nat.zero_le _) hbn hcell
      have hB : SlAt mI 0 0 w.heap.size w (.slice (some ⟨b, off + xs.length / 2, none⟩) (xs.length - xs.length / 2) (cap - xs.length / 2)) (xs.drop (xs.length / 2)) := SlAt.drop (by omega) hml (Nat.zero_le _) hbn hcell
      have HA := hide hA
      have HB := hide hB
      clear hA hB hc hcell
      go_enter Tryz.func63, Tryz.ntmps63
      go_wp2_with fail
      refine (ih _ _ _ (by simp; omega) (by simp; omega) (unhide HA) (CapOk.mk (by omega) hcm)).mono ?_
      rintro e w1 ⟨⟨v1, x, rfl, ox, lx, sx0⟩, hb1⟩
      have sx := own_slw (lo := w.heap.size) sx0 (Nat.le_refl _) (by simp at lx; unfold maxLen; omega)
      clear sx0
      have hz1' := hb1.size
      obtain ⟨a1, c1, rfl, ml1, -⟩ := id sx
      have Sx := hide sx
      have HB1 := hide ((unhide HB).below hb1 (Nat.le_refl _))
      clear sx
      go_wp2_with fail
      refine (ih _ _ _ (by simp; omega) (by simp; omega) (unhide HB1) (CapOk.mk (by omega) (by omega))).mono ?_
      rintro e w2 ⟨⟨v2, y, rfl, oy, ly, sy0⟩, hb2⟩
      have sy := own_slw (lo := w1.heap.size) sy0 (Nat.le_refl _) (by simp at ly; unfold maxLen; omega)
      clear sy0
      have hz2' := hb2.size
      obtain ⟨a2, c2, rfl, ml2, -⟩ := id sy
      have Sy := hide sy
      clear sy
      have bx := fun wr (hb : Below w2.heap.size w2 wr) => (SlW.at (((unhide Sx).same (SameB.of_below hb2 (Nat.le_refl _))).same (SameB.of_below (lo := w.heap.size) (n := w1.heap.size) hb hz2')))
      have by' := fun wr (hb : Below w2.heap.size w2 wr) => (SlW.at ((unhide Sy).same (SameB.of_below (lo := w1.heap.size) (n := w2.heap.size) hb (Nat.le_refl _))))
      have Bx := hide bx
      have By := hide by'
      simp only [List.length_take, List.length_drop] at lx ly
      clear bx by' HA HB HB1 Hv
      unfold maxLen at ml1 ml2
      go_wp2_with fail
      go_loopw [6, 7, 8] (fun ov iv jv wr => ∃ (i j : Nat) (os : List Int), i ≤ x.length ∧ j ≤ y.length ∧ iv = .int .i64 i ∧ jv = .int .i64 j ∧ MInv x y os i j ∧ os.length ≤ i + j ∧ wr.ownsRow w2.heap.size 3 1 ov os.length (os.map mI) ∧ Below w2.heap.size w2 wr) (fun _ iv jv _ => x.length + y.length - ((intOf iv).toNat + (intOf jv).toNat))
      case atStart => exact ⟨0, 0, [], Nat.zero_le _, Nat.zero_le _, rfl, rfl, MInv.start x y, Nat.le_refl _, World.ownsRow_nil _ _ _ _, Below.refl _ _⟩
      case round =>
        obtain ⟨i, j, os, hix, hjy, rfl, rfl, hm, hol, hown, hb⟩ := hrel
        have hszr := hb.size
        have Hown := hide hown
        obtain ⟨oa, oc, rfl⟩ := own_is hown
        clear hown
        by_cases gj : j < y.length
        · have gj' : (j : Int) < (y.length : Int) := by omega
          have gjd : decide ((y.length : Int) ≤ (j : Int)) = false := decide_eq_false (by omega)
          have gje : decide (y.length ≤ j) = false := decide_eq_false (by omega)
          obtain ⟨_, _, e2, -, hcy⟩ := unhide By wr hb
          cases e2
          obtain ⟨b2, o2, rfl, -, hbn2, hcelly⟩ := hcy (by omega)
          have hy : wr.cell? ⟨b2, o2 + j, none⟩ = some (.int .i64 (y[j]?.getD 0)) := hcelly j gj
          clear hcelly hcy
          by_cases gi : i < x.length
          · have gi' : (i : Int) < (x.length : Int) := by omega
            obtain ⟨_, _, e1, -, hcx⟩ := unhide Bx wr hb
            cases e1
            obtain ⟨b1, o1, rfl, -, hbn1, hcellx⟩ := hcx (by omega)
            have hx : wr.cell? ⟨b1, o1 + i, none⟩ = some (.int .i64 (x[i]?.getD 0)) := hcellx i gi
            clear hcellx hcx
            by_cases hxy : x[i]?.getD 0 ≤ y[j]?.getD 0
            · have hle : j < y.length → x[i]?.getD 0 ≤ y[j]?.getD 0 := fun _ => hxy
              generalize hY : y[j]?.getD 0 = yv at *
              generalize hU : x[i]?.getD 0 = u at *
              have Hm := hide hm
              have HU := hide hU
              have HLE := hide (show j < y.length → x[i]?.getD 0 ≤ y[j]?.getD 0 from fun _ => by rw [hU, hY]; exact hxy)
              clear hm hU hle hY
              by_cases hos : os = []
              · subst hos
                have Hn := hide (MInv.next (unhide Hm) ox.asc oy.asc gi (by simp) (unhide HLE))
                rw [unhide HU] at Hn
                go_wp2_with fail
                go_quiet (fail)
                go_wp2_with (at_builtin; refine wpList_append_own _ rfl _ _ 53 rfl w2.heap.size 3 i0 (.int .i64 0) 1 8 Tryz.underlying53 hi hz0 hz1 hz2 rfl (by decide) _ _ _ rfl (World.ownsRow.alloc (w := wr.drewN nq) (unhide Hown) _) ⟨wr.heap.size, 0, none⟩ 1 1 [.int .i64 u] rfl rfl ?_ ?_ ?_ ?_ ?_ ?_)
                · refine cell_1 ?_
                  rw [World.cell?_alloc_at _ _ wr.heap.size _ (show wr.heap.size = (wr.drewN nq).heap.size from rfl)]
                  rfl
                · intro u' hu; simp at hu; subst hu; rfl
                · unfold maxLen; simp
                · simp
                · rw [sz_alloc]; show _ ≤ wr.heap.size + 1; omega
                intro v' w3 h5 hg5 _
                have hst := hide (ord_step (unhide Hown) hb h5 hg5)
                clear h5 hg5
                go_wp2
                go_roundw
                case rel => exact ⟨i + 1, j, _, by omega, by omega, by go_num, rfl, unhide Hn, by simp; omega, (unhide hst).1, (unhide hst).2⟩
                case measure => simp [intOf]; omega
              · have hp : 0 < os.length := List.length_pos_iff.2 hos
                have hp' : ((os.length : Int) == 0) = false := by simp; omega
                obtain ⟨g, oc', e, hcl⟩ := own_at (unhide Hown) hp
                cases e
                have hl0 : wr.cell? ⟨g, os.length - 1, none⟩ = some (.int .i64 (os[os.length - 1]?.getD 0)) := by
                  rw [hcl _ (by omega), List.getElem?_map, getD_of_lt (show os.length - 1 < os.length by omega)]
                  rfl
                clear hcl
                by_cases hne : os[os.length - 1]?.getD 0 = u
                · have Hn := hide (MInv.skip (unhide Hm) gi (by rw [unhide HU, ← hne]; exact mem_get.2 ⟨os.length - 1, by omega, rfl⟩))
                  rw [hne] at hl0
                  clear hne
                  have hidx : ((os.length : Int) - 1).toNat = os.length - 1 := by omega
                  go_wp2_with fail
                  go_quiet (fail)
                  go_wp2
                  go_roundw
                  case rel => exact ⟨i + 1, j, os, by omega, by omega, by go_num, rfl, unhide Hn, by omega, unhide Hown, below_drewN hb _⟩
                  case measure => simp [intOf]; omega
                · have Hn := hide (MInv.next (unhide Hm) ox.asc oy.asc gi (MInv.last (unhide Hm) (fun z hz => (unhide Hm).lx z hz i (Nat.le_refl _) gi) (by rw [unhide HU]; exact hne)) (unhide HLE))
                  rw [unhide HU] at Hn
                  generalize os[os.length - 1]?.getD 0 = lv at *
                  have hne' : (lv != u) = true := by simp [hne]
                  have hidx : ((os.length : Int) - 1).toNat = os.length - 1 := by omega
                  go_wp2_with fail
                  go_quiet (fail)
                  go_wp2_with (at_builtin; refine wpList_append_own _ rfl _ _ 53 rfl w2.heap.size 3 i0 (.int .i64 0) 1 8 Tryz.underlying53 hi hz0 hz1 hz2 rfl (by decide) _ _ _ rfl (World.ownsRow.alloc (w := wr.drewN nq) (unhide Hown) _) ⟨wr.heap.size, 0, none⟩ 1 1 [.int .i64 u] rfl rfl ?_ ?_ ?_ ?_ ?_ ?_)
                  · refine cell_1 ?_
                    rw [World.cell?_alloc_at _ _ wr.heap.size _ (show wr.heap.size = (wr.drewN nq).heap.size from rfl)]
                    rfl
                  · intro u' hu; simp at hu; subst hu; rfl
                  · unfold maxLen; omega
                  · omega
                  · rw [sz_alloc]; show _ ≤ wr.heap.size + 1; omega
                  intro v' w3 h5 hg5 _
                  have hst := hide (ord_step (unhide Hown) hb h5 hg5)
                  clear h5 hg5
                  go_wp2
                  go_roundw
                  case rel => exact ⟨i + 1, j, _, by omega, by omega, by go_num, rfl, unhide Hn, by simp; omega, (unhide hst).1, (unhide hst).2⟩
                  case measure => simp [intOf]; omega
            · have hle : i < x.length → y[j]?.getD 0 ≤ x[i]?.getD 0 := fun _ => by omega
              generalize hY : x[i]?.getD 0 = xv at *
              generalize hU : y[j]?.getD 0 = u at *
              have hxd : decide (xv ≤ u) = false := decide_eq_false hxy
              have Hm := hide hm
              have HU := hide hU
              have HLE := hide (show i < x.length → y[j]?.getD 0 ≤ x[i]?.getD 0 from fun _ => by rw [hU, hY]; omega)
              clear hm hU hle hY
              by_cases hos : os = []
              · subst hos
                have Hn := hide (MInv.swap (MInv.next (unhide Hm).swap oy.asc ox.asc gj (by simp) (unhide HLE)))
                rw [unhide HU] at Hn
                go_wp2_with fail
                go_quiet (fail)
                go_wp2_with (at_builtin; refine wpList_append_own _ rfl _ _ 53 rfl w2.heap.size 3 i0 (.int .i64 0) 1 8 Tryz.underlying53 hi hz0 hz1 hz2 rfl (by decide) _ _ _ rfl (World.ownsRow.alloc (w := wr.drewN nq) (unhide Hown) _) ⟨wr.heap.size, 0, none⟩ 1 1 [.int .i64 u] rfl rfl ?_ ?_ ?_ ?_ ?_ ?_)
                · refine cell_1 ?_
                  rw [World.cell?_alloc_at _ _ wr.heap.size _ (show wr.heap.size = (wr.drewN nq).heap.size from rfl)]
                  rfl
                · intro u' hu; simp at hu; subst hu; rfl
                · unfold maxLen; simp
                · simp
                · rw [sz_alloc]; show _ ≤ wr.heap.size + 1; omega
                intro v' w3 h5 hg5 _
                have hst := hide (ord_step (unhide Hown) hb h5 hg5)
                clear h5 hg5
                go_wp2
                go_roundw
                case rel => exact ⟨i, j + 1, _, by omega, by omega, rfl, by go_num, unhide Hn, by simp; omega, (unhide hst).1, (unhide hst).2⟩
                case measure => simp [intOf]; omega
              · have hp : 0 < os.length := List.length_pos_iff.2 hos
                have hp' : ((os.length : Int) == 0) = false := by simp; omega
                obtain ⟨g, oc', e, hcl⟩ := own_at (unhide Hown) hp
                cases e
                have hl0 : wr.cell? ⟨g, os.length - 1, none⟩ = some (.int .i64 (os[os.length - 1]?.getD 0)) := by
                  rw [hcl _ (by omega), List.getElem?_map, getD_of_lt (show os.length - 1 < os.length by omega)]
                  rfl
                clear hcl
                by_cases hne : os[os.length - 1]?.getD 0 = u
                · have Hn := hide (MInv.swap (MInv.skip (unhide Hm).swap gj (by rw [unhide HU, ← hne]; exact mem_get.2 ⟨os.length - 1, by omega, rfl⟩)))
                  rw [hne] at hl0
                  clear hne
                  have hidx : ((os.length : Int) - 1).toNat = os.length - 1 := by omega
                  go_wp2_with fail
                  go_quiet (fail)
                  go_wp2
                  go_roundw
                  case rel => exact ⟨i, j + 1, os, by omega, by omega, rfl, by go_num, unhide Hn, by omega, unhide Hown, below_drewN hb _⟩
                  case measure => simp [intOf]; omega
                · have Hn := hide (MInv.swap (MInv.next (unhide Hm).swap oy.asc ox.asc gj (MInv.last (unhide Hm).swap (fun z hz => (unhide Hm).swap.lx z hz j (Nat.le_refl _) gj) (by rw [unhide HU]; exact hne)) (unhide HLE)))
                  rw [unhide HU] at Hn
                  generalize os[os.length - 1]?.getD 0 = lv at *
                  have hne' : (lv != u) = true := by simp [hne]
                  have hidx : ((os.length : Int) - 1).toNat = os.length - 1 := by omega
                  go_wp2_with fail
                  go_quiet (fail)
                  go_wp2_with (at_builtin; refine wpList_append_own _ rfl _ _ 53 rfl w2.heap.size 3 i0 (.int .i64 0) 1 8 Tryz.underlying53 hi hz0 hz1 hz2 rfl (by decide) _ _ _ rfl (World.ownsRow.alloc (w := wr.drewN nq) (unhide Hown) _) ⟨wr.heap.size, 0, none⟩ 1 1 [.int .i64 u] rfl rfl ?_ ?_ ?_ ?_ ?_ ?_)
                  · refine cell_1 ?_
                    rw [World.cell?_alloc_at _ _ wr.heap.size _ (show wr.heap.size = (wr.drewN nq).heap.size from rfl)]
                    rfl
                  · intro u' hu; simp at hu; subst hu; rfl
                  · unfold maxLen; omega
                  · omega
                  · rw [sz_alloc]; show _ ≤ wr.heap.size + 1; omega
                  intro v' w3 h5 hg5 _
                  have hst := hide (ord_step (unhide Hown) hb h5 hg5)
                  clear h5 hg5
                  go_wp2
                  go_roundw
                  case rel => exact ⟨i, j + 1, _, by omega, by omega, rfl, by go_num, unhide Hn, by simp; omega, (unhide hst).1, (unhide hst).2⟩
                  case measure => simp [intOf]; omega
          · obtain rfl : i = x.length := by omega
            have hle : x.length < x.length → y[j]?.getD 0 ≤ x[x.length]?.getD 0 := fun h => absurd h gi
            generalize hU : y[j]?.getD 0 = u at *
            have Hm := hide hm
            have HU := hide hU
            have HLE := hide (show x.length < x.length → y[j]?.getD 0 ≤ x[x.length]?.getD 0 from fun h => absurd h gi)
            clear hm hU hle
            by_cases hos : os = []
            · subst hos
              have Hn := hide (MInv.swap (MInv.next (unhide Hm).swap oy.asc ox.asc gj (by simp) (unhide HLE)))
              rw [unhide HU] at Hn
              go_wp2_with fail
              go_quiet (fail)
              go_wp2_with (at_builtin; refine wpList_append_own _ rfl _ _ 53 rfl w2.heap.size 3 i0 (.int .i64 0) 1 8 Tryz.underlying53 hi hz0 hz1 hz2 rfl (by decide) _ _ _ rfl (World.ownsRow.alloc (w := wr.drewN nq) (unhide Hown) _) ⟨wr.heap.size, 0, none⟩ 1 1 [.int .i64 u] rfl rfl ?_ ?_ ?_ ?_ ?_ ?_)
              · refine cell_1 ?_
                rw [World.cell?_alloc_at _ _ wr.heap.size _ (show wr.heap.size = (wr.drewN nq).heap.size from rfl)]
                rfl
              · intro u' hu; simp at hu; subst hu; rfl
              · unfold maxLen; simp
              · simp
              · rw [sz_alloc]; show _ ≤ wr.heap.size + 1; omega
              intro v' w3 h5 hg5 _
              have hst := hide (ord_step (unhide Hown) hb h5 hg5)
              clear h5 hg5
              go_wp2
              go_roundw
              case rel => exact ⟨x.length, j + 1, _, by omega, by omega, rfl, by go_num, unhide Hn, by simp; omega, (unhide hst).1, (unhide hst).2⟩
              case measure => simp [intOf]; omega
            · have hp : 0 < os.length := List.length_pos_iff.2 hos
              have hp' : ((os.length : Int) == 0) = false := by simp; omega
              obtain ⟨g, oc', e, hcl⟩ := own_at (unhide Hown) hp
              cases e
              have hl0 : wr.cell? ⟨g, os.length - 1, none⟩ = some (.int .i64 (os[os.length - 1]?.getD 0)) := by
                rw [hcl _ (by omega), List.getElem?_map, getD_of_lt (show os.length - 1 < os.length by omega)]
                rfl
              clear hcl
              by_cases hne : os[os.length - 1]?.getD 0 = u
              · have Hn := hide (MInv.swap (MInv.skip (unhide Hm).swap gj (by rw [unhide HU, ← hne]; exact mem_get.2 ⟨os.length - 1, by omega, rfl⟩)))
                rw [hne] at hl0
                clear hne
                have hidx : ((os.length : Int) - 1).toNat = os.length - 1 := by omega
                go_wp2_with fail
                go_quiet (fail)
                go_wp2
                go_roundw
                case rel => exact ⟨x.length, j + 1, os, by omega, by omega, rfl, by go_num, unhide Hn, by omega, unhide Hown, below_drewN hb _⟩
                case measure => simp [intOf]; omega
              · have Hn := hide (MInv.swap (MInv.next (unhide Hm).swap oy.asc ox.asc gj (MInv.last (unhide Hm).swap (fun z hz => (unhide Hm).swap.lx z hz j (Nat.le_refl _) gj) (by rw [unhide HU]; exact hne)) (unhide HLE)))
                rw [unhide HU] at Hn
                generalize os[os.length - 1]?.getD 0 = lv at *
                have hne' : (lv != u) = true := by simp [hne]
                have hidx : ((os.length : Int) - 1).toNat = os.length - 1 := by omega
                go_wp2_with fail
                go_quiet (fail)
                go_wp2_with (at_builtin; refine wpList_append_own _ rfl _ _ 53 rfl w2.heap.size 3 i0 (.int .i64 0) 1 8 Tryz.underlying53 hi hz0 hz1 hz2 rfl (by decide) _ _ _ rfl (World.ownsRow.alloc (w := wr.drewN nq) (unhide Hown) _) ⟨wr.heap.size, 0, none⟩ 1 1 [.int .i64 u] rfl rfl ?_ ?_ ?_ ?_ ?_ ?_)
                · refine cell_1 ?_
                  rw [World.cell?_alloc_at _ _ wr.heap.size _ (show wr.heap.size = (wr.drewN nq).heap.size from rfl)]
                  rfl
                · intro u' hu; simp at hu; subst hu; rfl
                · unfold maxLen; omega
                · omega
                · rw [sz_alloc]; show _ ≤ wr.heap.size + 1; omega
                intro v' w3 h5 hg5 _
                have hst := hide (ord_step (unhide Hown) hb h5 hg5)
                clear h5 hg5
                go_wp2
                go_roundw
                case rel => exact ⟨x.length, j + 1, _, by omega, by omega, rfl, by go_num, unhide Hn, by simp; omega, (unhide hst).1, (unhide hst).2⟩
                case measure => simp [intOf]; omega
        · obtain rfl : j = y.length := by omega
          by_cases gi : i < x.length
          · have gi' : (i : Int) < (x.length : Int) := by omega
            obtain ⟨_, _, e1, -, hcx⟩ := unhide Bx wr hb
            cases e1
            obtain ⟨b1, o1, rfl, -, hbn1, hcellx⟩ := hcx (by omega)
            have hx : wr.cell? ⟨b1, o1 + i, none⟩ = some (.int .i64 (x[i]?.getD 0)) := hcellx i gi
            clear hcellx hcx
            have hle : y.length < y.length → x[i]?.getD 0 ≤ y[y.length]?.getD 0 := fun h => absurd h gj
            generalize hU : x[i]?.getD 0 = u at *
            have Hm := hide hm
            have HU := hide hU
            have HLE := hide (show y.length < y.length → x[i]?.getD 0 ≤ y[y.length]?.getD 0 from fun h => absurd h gj)
            clear hm hU hle
            by_cases hos : os = []
            · subst hos
              have Hn := hide (MInv.next (unhide Hm) ox.asc oy.asc gi (by simp) (unhide HLE))
              rw [unhide HU] at Hn
              go_wp2_with fail
              go_quiet (fail)
              go_wp2_with (at_builtin; refine wpList_append_own _ rfl _ _ 53 rfl w2.heap.size 3 i0 (.int .i64 0) 1 8 Tryz.underlying53 hi hz0 hz1 hz2 rfl (by decide) _ _ _ rfl (World.ownsRow.alloc (w := wr.drewN nq) (unhide Hown) _) ⟨wr.heap.size, 0, none⟩ 1 1 [.int .i64 u] rfl rfl ?_ ?_ ?_ ?_ ?_ ?_)
              · refine cell_1 ?_
                rw [World.cell?_alloc_at _ _ wr.heap.size _ (show wr.heap.size = (wr.drewN nq).heap.size from rfl)]
                rfl
              · intro u' hu; simp at hu; subst hu; rfl
              · unfold maxLen; simp
              · simp
              · rw [sz_alloc]; show _ ≤ wr.heap.size + 1; omega
              intro v' w3 h5 hg5 _
              have hst := hide (ord_step (unhide Hown) hb h5 hg5)
              clear h5 hg5
              go_wp2
              go_roundw
              case rel => exact ⟨i + 1, y.length, _, by omega, by omega, by go_num, rfl, unhide Hn, by simp; omega, (unhide hst).1, (unhide hst).2⟩
              case measure => simp [intOf]; omega
            · have hp : 0 < os.length := List.length_pos_iff.2 hos
              have hp' : ((os.length : Int) == 0) = false := by simp; omega
              obtain ⟨g, oc', e, hcl⟩ := own_at (unhide Hown) hp
              cases e
              have hl0 : wr.cell? ⟨g, os.length - 1, none⟩ = some (.int .i64 (os[os.length - 1]?.getD 0)) := by
                rw [hcl _ (by omega), List.getElem?_map, getD_of_lt (show os.length - 1 < os.length by omega)]
                rfl
              clear hcl
              by_cases hne : os[os.length - 1]?.getD 0 = u
              · have Hn := hide (MInv.skip (unhide Hm) gi (by rw [unhide HU, ← hne]; exact mem_get.2 ⟨os.length - 1, by omega, rfl⟩))
                rw [hne] at hl0
                clear hne
                have hidx : ((os.length : Int) - 1).toNat = os.length - 1 := by omega
                go_wp2_with fail
                go_quiet (fail)
                go_wp2
                go_roundw
                case rel => exact ⟨i + 1, y.length, os, by omega, by omega, by go_num, rfl, unhide Hn, by omega, unhide Hown, below_drewN hb _⟩
                case measure => simp [intOf]; omega
              · have Hn := hide (MInv.next (unhide Hm) ox.asc oy.asc gi (MInv.last (unhide Hm) (fun z hz => (unhide Hm).lx z hz i (Nat.le_refl _) gi) (by rw [unhide HU]; exact hne)) (unhide HLE))
                rw [unhide HU] at Hn
                generalize os[os.length - 1]?.getD 0 = lv at *
                have hne' : (lv != u) = true := by simp [hne]
                have hidx : ((os.length : Int) - 1).toNat = os.length - 1 := by omega
                go_wp2_with fail
                go_quiet (fail)
                go_wp2_with (at_builtin; refine wpList_append_own _ rfl _ _ 53 rfl w2.heap.size 3 i0 (.int .i64 0) 1 8 Tryz.underlying53 hi hz0 hz1 hz2 rfl (by decide) _ _ _ rfl (World.ownsRow.alloc (w := wr.drewN nq) (unhide Hown) _) ⟨wr.heap.size, 0, none⟩ 1 1 [.int .i64 u] rfl rfl ?_ ?_ ?_ ?_ ?_ ?_)
                · refine cell_1 ?_
                  rw [World.cell?_alloc_at _ _ wr.heap.size _ (show wr.heap.size = (wr.drewN nq).heap.size from rfl)]
                  rfl
                · intro u' hu; simp at hu; subst hu; rfl
                · unfold maxLen; omega
                · omega
                · rw [sz_alloc]; show _ ≤ wr.heap.size + 1; omega
                intro v' w3 h5 hg5 _
                have hst := hide (ord_step (unhide Hown) hb h5 hg5)
                clear h5 hg5
                go_wp2
                go_roundw
                case rel => exact ⟨i + 1, y.length, _, by omega, by omega, by go_num, rfl, unhide Hn, by simp; omega, (unhide hst).1, (unhide hst).2⟩
                case measure => simp [intOf]; omega
          · obtain rfl : i = x.length := by omega
            have Hm := hide hm
            clear hm
            go_wp2
            go_ret
            refine ⟨⟨_, os, rfl, (unhide Hm).done (fun z => ?_), by omega, own_low (unhide Hown) (by omega)⟩, ?_⟩
            · rw [ox.mem z, oy.mem z, ← List.mem_append, List.take_append_drop]
            · exact hb1.trans ((hb2.trans (hb.mono hb2.size)).mono hb1.size)

theorem l3order_any (N : Nat) (v : Value) (xs : List Int) (w : World) (hN : xs.length ≤ N) (hl : xs.length ≤ 1048576) (hv : SlAt mI 0 0 w.heap.size w v xs) (hc : CapOk v) :
    Calls Tryz.prog 63 #[v] w fun e w' => OrdRet e w w' xs ∧ Below w.heap.size w w' :=
  (l3order_own N v xs w hN hl hv hc).mono (fun _ _ ⟨⟨v1, ys, h1, h2, h3, h4⟩, hb⟩ => ⟨⟨v1, ys, h1, h2, h3, own_slw h4 (Nat.le_refl _) (by unfold maxLen; omega)⟩, hb⟩)

end Go.Proofs.YtbgjgaejfkdceaaGreat
