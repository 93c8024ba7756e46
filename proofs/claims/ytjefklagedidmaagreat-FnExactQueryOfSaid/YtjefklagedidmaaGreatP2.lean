import Derived.Test.YtjefklagedidmaaGreatP1
import Derived.OwnWalk
import Derived.Maps.AppendAt
import Derived.Laws.AppendOwnNone
import Derived.Deep.AppendLies
import Derived.Deep.RegionLaw
import Derived.BigRegion
import Derived.Deep.RegionHeld3
import Derived.Shelf.Sort.Plain
import Derived.Shelf.Slices.Clone
import Derived.Shelf.Slices.CompactI
import Derived.Shelf.Slices.In.SortNone
import Derived.Test.YtjefklagedidmaaGreatRows
namespace Go.Proofs.YtjefklagedidmaaGreat
open Go.RowKit

theorem own_slw {base lo n : Nat} {w : World} {v : Value} {xs : List Int} (h : w.ownsRow base 3 1 v n (xs.map mI)) (hlo : lo ≤ base) (hn : n ≤ maxLen) : SlW mI 0 lo w.heap.size w v xs := by
  have hlen := h.1
  rw [List.length_map, Nat.mul_one] at hlen
  rcases h.2 with ⟨rfl, hz⟩ | ⟨g, cap, cur, rfl, hbg, hg, hnc, hcm, hcs, htake⟩
  · exact ⟨none, 0, by rw [hlen, hz], by omega, fun hp => by omega⟩
  · refine ⟨_, cap, by rw [hlen], by omega, fun hp => ⟨g, 0, rfl, by omega, (h.lt g rfl).2, ⟨cur, _, hg⟩, fun i hi => ?_⟩⟩
    rw [Nat.zero_add, h.cellAt i (by omega), List.getElem?_map, List.getElem?_eq_getElem hi]
    rfl

theorem cell_1 {W : World} {N : Nat} {u : Value} (h : W.cell? ⟨N, 0, none⟩ = some u) : ∀ (j : Nat) (y : Value), [u][j]? = some y → W.cell? ((⟨N, 0, none⟩ : Addr).add j) = some y := by
  intro j y hj
  match j, hj with
  | 0, hj => simp at hj; subst hj; exact h

theorem own_at {base n : Nat} {w : World} {v : Value} {xs : List Value} (h : w.ownsRow base 3 1 v n xs) (hp : 0 < n) : ∃ g cap, v = .slice (some ⟨g, 0, none⟩) n cap ∧ ∀ j : Nat, j < n → w.cell? ⟨g, j, none⟩ = xs[j]? := by
  rcases h.2 with ⟨rfl, hz⟩ | ⟨g, cap, cur, rfl, hbg, hg, hnc, hcm, hcs, htake⟩
  · omega
  · exact ⟨g, cap, rfl, fun j hj => h.cellAt j (by omega)⟩

theorem getD_of_lt {xs : List Int} {i : Nat} (h : i < xs.length) : xs[i]? = some (xs[i]?.getD 0) := by rw [List.getElem?_eq_getElem h]; rfl

theorem own_keep {base n m e size : Nat} {w w' : World} {v : Value} {xs : List Value} (h : w.ownsRow base e size v n xs) (hb : Below m w w') (hm : w.heap.size ≤ m) : w'.ownsRow base e size v n xs :=
  h.kept (show w.grownBy w' none from ⟨hb.os, hb.tape, hb.output, hb.size, fun k hk _ => hb.block k (by omega)⟩) (by cases v.ownBlock <;> simp)

theorem own_is {base n e size : Nat} {w : World} {v : Value} {xs : List Value} (h : w.ownsRow base e size v n xs) : ∃ oa oc, v = .slice oa n oc := by
  rcases h.2 with ⟨rfl, hz⟩ | ⟨q, cap, cur, rfl, -⟩
  · exact ⟨none, 0, by rw [hz]⟩
  · exact ⟨_, _, rfl⟩

theorem run_append_none_c {P : Program} {w : World} (base : Nat) (t ty e : TypeId) (i : TypeInfo) (size : Nat) (ht : P.underlying t = some (.slice e)) (hi : P.info? e = some i)
    (v : Value) (n : Nat) (xs : List Value) (hown : w.ownsRow base e size v n xs) (c : Nat) : (Builtin.append_ #[t, t] ty #[v, .slice none 0 c]).run P w = .ok v w := by
  rcases hown.2 with ⟨rfl, rfl⟩ | ⟨g, cap, cur, rfl, _, _, hnc, _⟩
  · simp [Builtin.append_, run_underlying ht, sizeOf, typeInfo, hi, Builtin.lenOf, Builtin.firstCells]
  · simp [Builtin.append_, run_underlying ht, sizeOf, typeInfo, hi, Builtin.lenOf, Builtin.firstCells, hnc, storeCells]

theorem wpList_append_none_c {P : Program} {w : World} {ops : Array Oper} {rest : List Oper} {o : Oper} {a : Act} {Q : Exit → Act → World → Prop} (hgd : o.guard = none) (s x : Operand) (t : TypeId)
    (ho : o.op = .call { callee := .builtin .append, args := #[s, x], argTypes := #[t, t] })
    (base : Nat) (e : TypeId) (i : TypeInfo) (size : Nat) (ht : P.underlying t = some (.slice e)) (hi : P.info? e = some i)
    (v : Value) (n : Nat) (xs : List Value) (hs : a.eval s = v) (hown : w.ownsRow base e size v n xs) (c : Nat) (hx : a.eval x = .slice none 0 c)
    (h : wpList P ops Q rest (a.put o.dst v) w) : wpList P ops Q (o :: rest) a w := by
  refine wpList_plain hgd fun K hK => ?_
  have hrun := run_append_none_c (P := P) (w := w) base t o.type e i size ht hi v n xs hown c
  unfold Oper.wp
  simp [execOp, ho, resolve, invoke, builtin, hs, hx, hrun, Result.andThen]
  exact hK _ _ h

/-- A copy of a slice of ints, by an append to nil. -/
theorem app_ints {w : World} {ops : Array Oper} {rest : List Oper} {o : Oper} {a : Act} {Q : Exit → Act → World → Prop} (hgd : o.guard = none) (s x : Operand)
    (ho : o.op = .call { callee := .builtin .append, args := #[s, x], argTypes := #[41, 41] }) (hs : a.eval s = .slice none 0 0) (sv : Value) (hx : a.eval x = sv) (xs : List Int) (hv : SlAt mI 0 0 w.heap.size w sv xs) (hlen : xs.length ≤ 1048576)
    (h : ∀ v' w', Below w.heap.size w w' → SlW mI 0 w.heap.size w'.heap.size w' v' xs → v'.oneCell' = true → wpList Tryz.prog ops Q rest (a.put o.dst v') w') : wpList Tryz.prog ops Q (o :: rest) a w := by
  obtain ⟨i0, hi, hz0, hz1, hz2⟩ := info_parts Tryz.zinInt
  obtain ⟨sa, sc, rfl, hl, hc⟩ := hv
  cases sa with
  | none =>
    have h0 : xs.length = 0 := by
      by_cases q : 0 < xs.length
      · obtain ⟨b, off, e, -⟩ := hc q; simp at e
      · omega
    rw [h0] at hx
    exact wpList_append_none_c hgd s x 41 ho w.heap.size 3 i0 1 Tryz.underlying41 hi _ 0 [] hs (World.ownsRow_nil _ _ _ _) sc hx (h _ w (Below.refl _ _) ⟨none, 0, by rw [h0], hl, fun q => absurd q (by omega)⟩ rfl)
  | some ad =>
    refine wpList_append_own_at w hgd s x 41 ho w.heap.size 3 i0 (.int .i64 0) 1 8 Tryz.underlying41 hi hz0 hz1 hz2 rfl (by decide) _ 0 [] hs (World.ownsRow_nil _ _ _ _) ad xs.length sc (xs.map mI) hx (by simp) ?_ ?_ (by rw [Nat.zero_add]; exact hl) (by omega) (Nat.le_refl _) ?_
    · intro j u hu
      have hj : j < xs.length := by
        have := (List.getElem?_eq_some_iff.1 hu).1
        simpa using this
      obtain ⟨b, off, e, -, -, hcell⟩ := hc (by omega)
      simp only [Option.some.injEq] at e
      subst e
      rw [List.getElem?_map, getD_of_lt hj] at hu
      simp only [Option.map_some, Option.some.injEq] at hu
      subst hu
      have e3 : (⟨b, off, none⟩ : Addr).add j = ⟨b, off + j, none⟩ := by cases j <;> rfl
      rw [e3]
      exact hcell j hj
    · intro u hu
      obtain ⟨y, -, rfl⟩ := List.mem_map.1 hu
      rfl
    · intro v' w' h1 hg _ _
      rw [Nat.zero_add, List.nil_append] at h1
      obtain ⟨oa, oc, rfl⟩ := own_is h1
      exact h _ w' ((Below.refl _ _).grown hg (Nat.le_refl _) (fun k hk => by cases hk)) (own_slw h1 (Nat.le_refl _) hl) rfl

/-- A copy of a slice of ints, by an append to nil. -/
theorem app_ints_own {w : World} {ops : Array Oper} {rest : List Oper} {o : Oper} {a : Act} {Q : Exit → Act → World → Prop} (hgd : o.guard = none) (s x : Operand)
    (ho : o.op = .call { callee := .builtin .append, args := #[s, x], argTypes := #[41, 41] }) (hs : a.eval s = .slice none 0 0) (sv : Value) (hx : a.eval x = sv) (xs : List Int) (hv : SlAt mI 0 0 w.heap.size w sv xs) (hlen : xs.length ≤ 1048576)
    (h : ∀ v' w', Below w.heap.size w w' → w'.ownsRow w.heap.size 3 1 v' xs.length (xs.map mI) → v'.oneCell' = true → wpList Tryz.prog ops Q rest (a.put o.dst v') w') : wpList Tryz.prog ops Q (o :: rest) a w := by
  obtain ⟨i0, hi, hz0, hz1, hz2⟩ := info_parts Tryz.zinInt
  obtain ⟨sa, sc, rfl, hl, hc⟩ := hv
  cases sa with
  | none =>
    have h0 : xs.length = 0 := by
      by_cases q : 0 < xs.length
      · obtain ⟨b, off, e, -⟩ := hc q; simp at e
      · omega
    rw [h0] at hx
    exact wpList_append_none_c hgd s x 41 ho w.heap.size 3 i0 1 Tryz.underlying41 hi _ 0 [] hs (World.ownsRow_nil _ _ _ _) sc hx (h _ w (Below.refl _ _) (by rw [List.eq_nil_of_length_eq_zero h0]; exact World.ownsRow_nil _ _ _ _) rfl)
  | some ad =>
    refine wpList_append_own_at w hgd s x 41 ho w.heap.size 3 i0 (.int .i64 0) 1 8 Tryz.underlying41 hi hz0 hz1 hz2 rfl (by decide) _ 0 [] hs (World.ownsRow_nil _ _ _ _) ad xs.length sc (xs.map mI) hx (by simp) ?_ ?_ (by rw [Nat.zero_add]; exact hl) (by omega) (Nat.le_refl _) ?_
    · intro j u hu
      have hj : j < xs.length := by
        have := (List.getElem?_eq_some_iff.1 hu).1
        simpa using this
      obtain ⟨b, off, e, -, -, hcell⟩ := hc (by omega)
      simp only [Option.some.injEq] at e
      subst e
      rw [List.getElem?_map, getD_of_lt hj] at hu
      simp only [Option.map_some, Option.some.injEq] at hu
      subst hu
      have e3 : (⟨b, off, none⟩ : Addr).add j = ⟨b, off + j, none⟩ := by cases j <;> rfl
      rw [e3]
      exact hcell j hj
    · intro u hu
      obtain ⟨y, -, rfl⟩ := List.mem_map.1 hu
      rfl
    · intro v' w' h1 hg _ _
      rw [Nat.zero_add, List.nil_append] at h1
      obtain ⟨oa, oc, rfl⟩ := own_is h1
      exact h _ w' ((Below.refl _ _).grown hg (Nat.le_refl _) (fun k hk => by cases hk)) h1 rfl

/-- W is w with one block more (and draws). -/
structure Pushd (w W : World) (o : Obj) : Prop where
  os : W.os = w.os
  tape : W.tape = w.tape
  output : W.output = w.output
  heap : W.heap = w.heap.push o
theorem Pushd.size {w W : World} {o : Obj} (h : Pushd w W o) : W.heap.size = w.heap.size + 1 := by rw [h.heap, Array.size_push]
theorem Pushd.old {w W : World} {o : Obj} (h : Pushd w W o) {k : Nat} (hk : k < w.heap.size) : W.heap[k]? = w.heap[k]? := by rw [h.heap, Array.getElem?_push_lt hk, Array.getElem?_eq_getElem hk]
theorem Pushd.new {w W : World} {o : Obj} (h : Pushd w W o) : W.heap[w.heap.size]? = some o := by rw [h.heap]; simp
theorem Pushd.below {w W : World} {o : Obj} (h : Pushd w W o) : Below w.heap.size w W := ⟨h.os, h.tape, h.output, by rw [h.size]; omega, fun k hk => h.old hk⟩
theorem Pushd.own {w W : World} {o : Obj} (h : Pushd w W o) {base n e size : Nat} {v : Value} {xs : List Value} (k : w.ownsRow base e size v n xs) : W.ownsRow base e size v n xs := own_keep k h.below (Nat.le_refl _)
theorem Pushd.news {w W : World} {cs : Array Value} {t : TypeId} (h : Pushd w W (.cells cs t)) : ∀ (j : Nat) (u : Value), cs.toList[j]? = some u → W.cell? ((⟨w.heap.size, 0, none⟩ : Addr).add j) = some u := World.news_of_block h.new

/-- A call of a function as a step of a region that draws its order. -/
theorem step_call {w : World} {ops : Array Oper} {o : Oper} {a : Act} {K : Act → World → Prop} {Q : Exit → Act → World → Prop} {E : Prop} (F : FuncId) (vals : Array Value) (hgd : o.guard = none) (hex : (execOp a.eval o).run Tryz.prog w = .ok (.enter F vals) w)
    {Post : Ending → World → Prop} (h : Calls Tryz.prog F vals w Post) (hK : ∀ e w', Post e w' → ∃ v, e = .returned v ∧ K (a.put o.dst v) w') : if Region.wanted o (yielded ops a.tmps) = true then Oper.wp Tryz.prog o a w K Q else E := by
  have hw : Region.wanted o (yielded ops a.tmps) = true := by simp [Region.wanted, hgd]
  rw [if_pos hw]
  unfold Oper.wp
  rw [hex, Oper.upon_enter]
  refine h.mono ?_
  intro e w' hP
  obtain ⟨v, rfl, hk⟩ := hK e w' hP
  exact hk

/-- A call of a function, its operands told, as a step of a region that draws its order. -/
theorem step_call_o {w : World} {ops : Array Oper} {o : Oper} {a : Act} {K : Act → World → Prop} {Q : Exit → Act → World → Prop} {E : Prop} (F : FuncId) (cargs : Array Operand) (ts : Array TypeId) (ho : o.op = .call { callee := .value (.func F), args := cargs, argTypes := ts }) (vals : Array Value) (hgd : o.guard = none) (hev : cargs.map a.eval = vals)
    (hf : ∀ w, Sem.run Tryz.prog (callFunc F vals) w = .ok (.enter F vals) w)
    {Post : Ending → World → Prop} (h : Calls Tryz.prog F vals w Post) (hK : ∀ e w', Post e w' → ∃ v, e = .returned v ∧ K (a.put o.dst v) w') : if Region.wanted o (yielded ops a.tmps) = true then Oper.wp Tryz.prog o a w K Q else E := by
  refine step_call F vals hgd ?_ h hK
  have e1 : a.eval (.func F) = .func (.func F) #[] #[] := rfl
  simp [execOp, ho, resolve, hev, e1, Deferred.ofValue, invoke, hf]

theorem own_cap {base n e size : Nat} {w : World} {v : Value} {xs : List Value} (h : w.ownsRow base e size v n xs) : CapOk v := by
  rcases h.2 with ⟨rfl, _⟩ | ⟨g, cap, cur, rfl, _, _, hnc, hcm, _⟩
  · exact CapOk.mk (Nat.le_refl _) (Nat.zero_le _)
  · exact CapOk.mk hnc hcm

theorem w64i {n : Int} (h0 : -9223372036854775808 ≤ n) (h1 : n ≤ 9223372036854775807) : wrap64 n = n := by unfold wrap64; omega
theorem k64i {n : Int} (h0 : -9223372036854775808 ≤ n) (h1 : n ≤ 9223372036854775807) : IntKind.i64.wrap n = n := by rw [IntKind.wrap_i64]; omega

theorem drew2 (w : World) (a b : Nat) : (w.drewN a).drewN b = w.drewN (a + b) := by simp
theorem drew3 (w : World) (a b c : Nat) : ((w.drewN a).drewN b).drewN c = w.drewN (a + b + c) := by simp

theorem own_low {b b' e size n : Nat} {w : World} {v : Value} {xs : List Value} (h : w.ownsRow b e size v n xs) (hb : b' ≤ b) : w.ownsRow b' e size v n xs := ⟨h.1, h.2.imp id (fun ⟨g, cap, cur, q1, q2, q3⟩ => ⟨g, cap, cur, q1, Nat.le_trans hb q2, q3⟩)⟩

/-- One int more, in a region that draws its order. -/
theorem grow_int {base : Nat} {wr W w' : World} {v v' : Value} {os : List Int} {u : Int} {o : Obj} (hown : wr.ownsRow base 3 1 v os.length (os.map mI)) (hbase : base ≤ wr.heap.size) (hP : Pushd wr W o)
    (h1 : w'.ownsRow base 3 1 v' (os.length + 1) (os.map mI ++ [.int .i64 u])) (hg : W.grownBy w' v.ownBlock) :
    w'.ownsRow base 3 1 v' (os ++ [u]).length ((os ++ [u]).map mI) ∧ Below base wr w' := by
  refine ⟨by rw [List.length_append, List.map_append]; exact h1, (hP.below.mono hbase).grown hg (by rw [hP.size]; omega) (fun k hk => (hown.lt k hk).1)⟩

end Go.Proofs.YtjefklagedidmaaGreat

namespace Go.Proofs.YtjefklagedidmaaGreat
open Go.RowKit

theorem SlAt.take {α : Type} {mk : α → Value} {d : α} {lo n b off k cap : Nat} {w : World} {xs : List α} (hk : k ≤ xs.length) (hl : xs.length ≤ maxLen) (hb : lo ≤ b) (hbn : b < n) (hc : ∀ i : Nat, i < xs.length → w.cell? ⟨b, off + i, none⟩ = some (mk (xs[i]?.getD d))) :
    SlAt mk d lo n w (.slice (some ⟨b, off, none⟩) k cap) (xs.take k) := by
  have e : (xs.take k).length = k := by simp; omega
  refine ⟨_, cap, by rw [e], by omega, fun _ => ⟨b, off, rfl, hb, hbn, fun i hi => ?_⟩⟩
  rw [e] at hi
  rw [hc i (by omega), List.getElem?_take, if_pos hi]
theorem SlAt.drop {α : Type} {mk : α → Value} {d : α} {lo n b off k m cap : Nat} {w : World} {xs : List α} (hk : k + m = xs.length) (hl : xs.length ≤ maxLen) (hb : lo ≤ b) (hbn : b < n) (hc : ∀ i : Nat, i < xs.length → w.cell? ⟨b, off + i, none⟩ = some (mk (xs[i]?.getD d))) :
    SlAt mk d lo n w (.slice (some ⟨b, off + k, none⟩) m cap) (xs.drop k) := by
  have e : (xs.drop k).length = m := by simp; omega
  refine ⟨_, cap, by rw [e], by omega, fun _ => ⟨b, off + k, rfl, hb, hbn, fun i hi => ?_⟩⟩
  rw [e] at hi
  rw [Nat.add_assoc, hc (k + i) (by omega), List.getElem?_drop]

/-- What putting a list into order answers. -/
def OrdRet (e : Ending) (w w' : World) (xs : List Int) : Prop :=
  ∃ v ys, e = .returned v ∧ Ord xs ys ∧ ys.length ≤ xs.length ∧ SlW mI 0 w.heap.size w'.heap.size w' v ys

/-- The same, in a row of its own. -/
def OrdOwn (e : Ending) (w w' : World) (xs : List Int) : Prop :=
  ∃ v ys, e = .returned v ∧ Ord xs ys ∧ ys.length ≤ xs.length ∧ w'.ownsRow w.heap.size 3 1 v ys.length (ys.map mI)

/-- One number more. -/
theorem ord_step {os : List Int} {u : Int} {w2 wr w3 : World} {tv v' : Value} {o : Obj} {q : Nat} (hown : wr.ownsRow w2.heap.size 3 1 tv os.length (os.map mI)) (hb : Below w2.heap.size w2 wr)
    (h1 : w3.ownsRow w2.heap.size 3 1 v' (os.length + 1) (os.map mI ++ [.int .i64 u])) (hg : ((wr.drewN q).alloc o).grownBy w3 tv.ownBlock) :
    w3.ownsRow w2.heap.size 3 1 v' (os ++ [u]).length ((os ++ [u]).map mI) ∧ Below w2.heap.size w2 w3 := by
  refine ⟨by rw [List.length_append, List.map_append]; exact h1, ((below_drewN hb q).alloc hb.size o).grown hg (by rw [sz_alloc]; exact Nat.le_succ_of_le hb.size) (fun k hk => (hown.lt k hk).1)⟩

set_option maxHeartbeats 10000000 in
set_option maxRecDepth 100000 in
theorem l3order_own (N : Nat) : ∀ (v : Value) (xs : List Int) (w : World), xs.length ≤ N → xs.length ≤ 1048576 → SlAt mI 0 0 w.heap.size w v xs → CapOk v →
    Calls Tryz.prog 31 #[v] w fun e w' => OrdOwn e w w' xs ∧ Below w.heap.size w w' := by
  induction N with
  | zero =>
    intro v xs w hN hl hv hcap
    have Hv := hide hv
    obtain ⟨a, cap, rfl, hml, hc⟩ := hv
    have h2 : xs.length < 2 := by omega
    have h2' : (xs.length : Int) < 2 := by omega
    clear hc
    go_enter Tryz.func31, Tryz.ntmps31
    go_wp2_with (at_builtin; refine app_ints_own rfl _ _ rfl rfl _ rfl xs (unhide Hv) hl ?_; intro v1 w1 hb1 hs1 ho1)
    go_ret
    exact ⟨⟨_, xs, rfl, Ord.small h2, Nat.le_refl _, hs1⟩, hb1⟩
  | succ N ih =>
    intro v xs w hN hl hv hcap
    obtain ⟨i0, hi, hz0, hz1, hz2⟩ := info_parts Tryz.zinInt
    have Hv := hide hv
    obtain ⟨a, cap, rfl, hml, hc⟩ := hv
    obtain ⟨hcp, hcm⟩ := hcap.le
    by_cases h2 : xs.length < 2
    · have h2' : (xs.length : Int) < 2 := by omega
      clear hc
      go_enter Tryz.func31, Tryz.ntmps31
      go_wp2_with (at_builtin; refine app_ints_own rfl _ _ rfl rfl _ rfl xs (unhide Hv) hl ?_; intro v1 w1 hb1 hs1 ho1)
      go_ret
      exact ⟨⟨_, xs, rfl, Ord.small h2, Nat.le_refl _, hs1⟩, hb1⟩
    · have h2' : ¬ (xs.length : Int) < 2 := by omega
      obtain ⟨b, off, rfl, -, hbn, hcell⟩ := hc (by omega)
      have hA : SlAt mI 0 0 w.heap.size w (.slice (some ⟨b, off, none⟩) (xs.length / 2) cap) (xs.take (xs.length / 2)) := SlAt.take (by omega) hml (Nat.zero_le _) hbn hcell
      have hB : SlAt mI 0 0 w.heap.size w (.slice (some ⟨b, off + xs.length / 2, none⟩) (xs.length - xs.length / 2) (cap - xs.length / 2)) (xs.drop (xs.length / 2)) := SlAt.drop (by omega) hml (Nat.zero_le _) hbn hcell
      have HA := hide hA
      have HB := hide hB
      clear hA hB hc hcell
      go_enter Tryz.func31, Tryz.ntmps31
      go_wp2_with fail
      refine (ih _ _ _ (by simp; omega) (by simp; omega) (unhide HA) (CapOk.mk (by omega) hcm)).mono ?_
      rintro e w1 ⟨⟨v1, x, rfl, ox, lx, sx0⟩, hb1⟩
      have sx := own_slw (lo := w.heap.size) sx0 (Nat.le_refl _) (by simp at lx; unfold maxLen; omega)
      clear sx0
      have hz1' := hb1.size
      obtain ⟨a1, c1, rfl, ml1, -⟩ := id sx
      have Sx := hide sx
      have HB1 := hide ((unhide HB).below hb1 (Nat.le_refl _))
      clear sx
      go_wp2_with fail
      refine (ih _ _ _ (by simp; omega) (by simp; omega) (unhide HB1) (CapOk.mk (by omega) (by omega))).mono ?_
      rintro e w2 ⟨⟨v2, y, rfl, oy, ly, sy0⟩, hb2⟩
      have sy := own_slw (lo := w1.heap.size) sy0 (Nat.le_refl _) (by simp at ly; unfold maxLen; omega)
      clear sy0
      have hz2' := hb2.size
      obtain ⟨a2, c2, rfl, ml2, -⟩ := id sy
      have Sy := hide sy
      clear sy
      have bx := fun wr (hb : Below w2.heap.size w2 wr) => (SlW.at (((unhide Sx).same (SameB.of_below hb2 (Nat.le_refl _))).same (SameB.of_below (lo := w.heap.size) (n := w1.heap.size) hb hz2')))
      have by' := fun wr (hb : Below w2.heap.size w2 wr) => (SlW.at ((unhide Sy).same (SameB.of_below (lo := w1.heap.size) (n := w2.heap.size) hb (Nat.le_refl _))))
      have Bx := hide bx
      have By := hide by'
      simp only [List.length_take, List.length_drop] at lx ly
      clear bx by' HA HB HB1 Hv
      unfold maxLen at ml1 ml2
      go_wp2_with fail
      go_loopw [6, 7, 8] (fun ov iv jv wr => ∃ (i j : Nat) (os : List Int), i ≤ x.length ∧ j ≤ y.length ∧ iv = .int .i64 i ∧ jv = .int .i64 j ∧ MInv x y os i j ∧ os.length ≤ i + j ∧ wr.ownsRow w2.heap.size 3 1 ov os.length (os.map mI) ∧ Below w2.heap.size w2 wr) (fun _ iv jv _ => x.length + y.length - ((intOf iv).toNat + (intOf jv).toNat))
      case atStart => exact ⟨0, 0, [], Nat.zero_le _, Nat.zero_le _, rfl, rfl, MInv.start x y, Nat.le_refl _, World.ownsRow_nil _ _ _ _, Below.refl _ _⟩
      case round =>
        obtain ⟨i, j, os, hix, hjy, rfl, rfl, hm, hol, hown, hb⟩ := hrel
        have hszr := hb.size
        have Hown := hide hown
        obtain ⟨oa, oc, rfl⟩ := own_is hown
        clear hown
        by_cases gj : j < y.length
        · have gj' : (j : Int) < (y.length : Int) := by omega
          have gjd : decide ((y.length : Int) ≤ (j : Int)) = false := decide_eq_false (by omega)
          have gje : decide (y.length ≤ j) = false := decide_eq_false (by omega)
          obtain ⟨_, _, e2, -, hcy⟩ := unhide By wr hb
          cases e2
          obtain ⟨b2, o2, rfl, -, hbn2, hcelly⟩ := hcy (by omega)
          have hy : wr.cell? ⟨b2, o2 + j, none⟩ = some (.int .i64 (y[j]?.getD 0)) := hcelly j gj
          clear hcelly hcy
          by_cases gi : i < x.length
          · have gi' : (i : Int) < (x.length : Int) := by omega
            obtain ⟨_, _, e1, -, hcx⟩ := unhide Bx wr hb
            cases e1
            obtain ⟨b1, o1, rfl, -, hbn1, hcellx⟩ := hcx (by omega)
            have hx : wr.cell? ⟨b1, o1 + i, none⟩ = some (.int .i64 (x[i]?.getD 0)) := hcellx i gi
            clear hcellx hcx
            by_cases hxy : x[i]?.getD 0 ≤ y[j]?.getD 0
            · have hle : j < y.length → x[i]?.getD 0 ≤ y[j]?.getD 0 := fun _ => hxy
              generalize hY : y[j]?.getD 0 = yv at *
              generalize hU : x[i]?.getD 0 = u at *
              have Hm := hide hm
              have HU := hide hU
              have HLE := hide (show j < y.length → x[i]?.getD 0 ≤ y[j]?.getD 0 from fun _ => by rw [hU, hY]; exact hxy)
              clear hm hU hle hY
              by_cases hos : os = []
              · subst hos
                have Hn := hide (MInv.next (unhide Hm) ox.asc oy.asc gi (by simp) (unhide HLE))
                rw [unhide HU] at Hn
                go_wp2_with fail
                go_quiet (fail)
                go_wp2_with (at_builtin; refine wpList_append_own _ rfl _ _ 41 rfl w2.heap.size 3 i0 (.int .i64 0) 1 8 Tryz.underlying41 hi hz0 hz1 hz2 rfl (by decide) _ _ _ rfl (World.ownsRow.alloc (w := wr.drewN nq) (unhide Hown) _) ⟨wr.heap.size, 0, none⟩ 1 1 [.int .i64 u] rfl rfl ?_ ?_ ?_ ?_ ?_ ?_)
                · refine cell_1 ?_
                  rw [World.cell?_alloc_at _ _ wr.heap.size _ (show wr.heap.size = (wr.drewN nq).heap.size from rfl)]
                  rfl
                · intro u' hu; simp at hu; subst hu; rfl
                · unfold maxLen; simp
                · simp
                · rw [sz_alloc]; show _ ≤ wr.heap.size + 1; omega
                intro v' w3 h5 hg5 _
                have hst := hide (ord_step (unhide Hown) hb h5 hg5)
                clear h5 hg5
                go_wp2
                go_roundw
                case rel => exact ⟨i + 1, j, _, by omega, by omega, by go_num, rfl, unhide Hn, by simp; omega, (unhide hst).1, (unhide hst).2⟩
                case measure => simp [intOf]; omega
              · have hp : 0 < os.length := List.length_pos_iff.2 hos
                have hp' : ((os.length : Int) == 0) = false := by simp; omega
                obtain ⟨g, oc', e, hcl⟩ := own_at (unhide Hown) hp
                cases e
                have hl0 : wr.cell? ⟨g, os.length - 1, none⟩ = some (.int .i64 (os[os.length - 1]?.getD 0)) := by
                  rw [hcl _ (by omega), List.getElem?_map, getD_of_lt (show os.length - 1 < os.length by omega)]
                  rfl
                clear hcl
                by_cases hne : os[os.length - 1]?.getD 0 = u
                · have Hn := hide (MInv.skip (unhide Hm) gi (by rw [unhide HU, ← hne]; exact mem_get.2 ⟨os.length - 1, by omega, rfl⟩))
                  rw [hne] at hl0
                  clear hne
                  have hidx : ((os.length : Int) - 1).toNat = os.length - 1 := by omega
                  go_wp2_with fail
                  go_quiet (fail)
                  go_wp2
                  go_roundw
                  case rel => exact ⟨i + 1, j, os, by omega, by omega, by go_num, rfl, unhide Hn, by omega, unhide Hown, below_drewN hb _⟩
                  case measure => simp [intOf]; omega
                · have Hn := hide (MInv.next (unhide Hm) ox.asc oy.asc gi (MInv.last (unhide Hm) (fun z hz => (unhide Hm).lx z hz i (Nat.le_refl _) gi) (by rw [unhide HU]; exact hne)) (unhide HLE))
                  rw [unhide HU] at Hn
                  generalize os[os.length - 1]?.getD 0 = lv at *
                  have hne' : (lv != u) = true := by simp [hne]
                  have hidx : ((os.length : Int) - 1).toNat = os.length - 1 := by omega
                  go_wp2_with fail
                  go_quiet (fail)
                  go_wp2_with (at_builtin; refine wpList_append_own _ rfl _ _ 41 rfl w2.heap.size 3 i0 (.int .i64 0) 1 8 Tryz.underlying41 hi hz0 hz1 hz2 rfl (by decide) _ _ _ rfl (World.ownsRow.alloc (w := wr.drewN nq) (unhide Hown) _) ⟨wr.heap.size, 0, none⟩ 1 1 [.int .i64 u] rfl rfl ?_ ?_ ?_ ?_ ?_ ?_)
                  · refine cell_1 ?_
                    rw [World.cell?_alloc_at _ _ wr.heap.size _ (show wr.heap.size = (wr.drewN nq).heap.size from rfl)]
                    rfl
                  · intro u' hu; simp at hu; subst hu; rfl
                  · unfold maxLen; omega
                  · omega
                  · rw [sz_alloc]; show _ ≤ wr.heap.size + 1; omega
                  intro v' w3 h5 hg5 _
                  have hst := hide (ord_step (unhide Hown) hb h5 hg5)
                  clear h5 hg5
                  go_wp2
                  go_roundw
                  case rel => exact ⟨i + 1, j, _, by omega, by omega, by go_num, rfl, unhide Hn, by simp; omega, (unhide hst).1, (unhide hst).2⟩
                  case measure => simp [intOf]; omega
            · have hle : i < x.length → y[j]?.getD 0 ≤ x[i]?.getD 0 := fun _ => by omega
              generalize hY : x[i]?.getD 0 = xv at *
              generalize hU : y[j]?.getD 0 = u at *
              have hxd : decide (xv ≤ u) = false := decide_eq_false hxy
              have Hm := hide hm
              have HU := hide hU
              have HLE := hide (show i < x.length → y[j]?.getD 0 ≤ x[i]?.getD 0 from fun _ => by rw [hU, hY]; omega)
              clear hm hU hle hY
              by_cases hos : os = []
              · subst hos
                have Hn := hide (MInv.swap (MInv.next (unhide Hm).swap oy.asc ox.asc gj (by simp) (unhide HLE)))
                rw [unhide HU] at Hn
                go_wp2_with fail
                go_quiet (fail)
                go_wp2_with (at_builtin; refine wpList_append_own _ rfl _ _ 41 rfl w2.heap.size 3 i0 (.int .i64 0) 1 8 Tryz.underlying41 hi hz0 hz1 hz2 rfl (by decide) _ _ _ rfl (World.ownsRow.alloc (w := wr.drewN nq) (unhide Hown) _) ⟨wr.heap.size, 0, none⟩ 1 1 [.int .i64 u] rfl rfl ?_ ?_ ?_ ?_ ?_ ?_)
                · refine cell_1 ?_
                  rw [World.cell?_alloc_at _ _ wr.heap.size _ (show wr.heap.size = (wr.drewN nq).heap.size from rfl)]
                  rfl
                · intro u' hu; simp at hu; subst hu; rfl
                · unfold maxLen; simp
                · simp
                · rw [sz_alloc]; show _ ≤ wr.heap.size + 1; omega
                intro v' w3 h5 hg5 _
                have hst := hide (ord_step (unhide Hown) hb h5 hg5)
                clear h5 hg5
                go_wp2
                go_roundw
                case rel => exact ⟨i, j + 1, _, by omega, by omega, rfl, by go_num, unhide Hn, by simp; omega, (unhide hst).1, (unhide hst).2⟩
                case measure => simp [intOf]; omega
              · have hp : 0 < os.length := List.length_pos_iff.2 hos
                have hp' : ((os.length : Int) == 0) = false := by simp; omega
                obtain ⟨g, oc', e, hcl⟩ := own_at (unhide Hown) hp
                cases e
                have hl0 : wr.cell? ⟨g, os.length - 1, none⟩ = some (.int .i64 (os[os.length - 1]?.getD 0)) := by
                  rw [hcl _ (by omega), List.getElem?_map, getD_of_lt (show os.length - 1 < os.length by omega)]
                  rfl
                clear hcl
                by_cases hne : os[os.length - 1]?.getD 0 = u
                · have Hn := hide (MInv.swap (MInv.skip (unhide Hm).swap gj (by rw [unhide HU, ← hne]; exact mem_get.2 ⟨os.length - 1, by omega, rfl⟩)))
                  rw [hne] at hl0
                  clear hne
                  have hidx : ((os.length : Int) - 1).toNat = os.length - 1 := by omega
                  go_wp2_with fail
                  go_quiet (fail)
                  go_wp2
                  go_roundw
                  case rel => exact ⟨i, j + 1, os, by omega, by omega, rfl, by go_num, unhide Hn, by omega, unhide Hown, below_drewN hb _⟩
                  case measure => simp [intOf]; omega
                · have Hn := hide (MInv.swap (MInv.next (unhide Hm).swap oy.asc ox.asc gj (MInv.last (unhide Hm).swap (fun z hz => (unhide Hm).swap.lx z hz j (Nat.le_refl _) gj) (by rw [unhide HU]; exact hne)) (unhide HLE)))
                  rw [unhide HU] at Hn
                  generalize os[os.length - 1]?.getD 0 = lv at *
                  have hne' : (lv != u) = true := by simp [hne]
                  have hidx : ((os.length : Int) - 1).toNat = os.length - 1 := by omega
                  go_wp2_with fail
                  go_quiet (fail)
                  go_wp2_with (at_builtin; refine wpList_append_own _ rfl _ _ 41 rfl w2.heap.size 3 i0 (.int .i64 0) 1 8 Tryz.underlying41 hi hz0 hz1 hz2 rfl (by decide) _ _ _ rfl (World.ownsRow.alloc (w := wr.drewN nq) (unhide Hown) _) ⟨wr.heap.size, 0, none⟩ 1 1 [.int .i64 u] rfl rfl ?_ ?_ ?_ ?_ ?_ ?_)
                  · refine cell_1 ?_
                    rw [World.cell?_alloc_at _ _ wr.heap.size _ (show wr.heap.size = (wr.drewN nq).heap.size from rfl)]
                    rfl
                  · intro u' hu; simp at hu; subst hu; rfl
                  · unfold maxLen; omega
                  · omega
                  · rw [sz_alloc]; show _ ≤ wr.heap.size + 1; omega
                  intro v' w3 h5 hg5 _
                  have hst := hide (ord_step (unhide Hown) hb h5 hg5)
                  clear h5 hg5
                  go_wp2
                  go_roundw
                  case rel => exact ⟨i, j + 1, _, by omega, by omega, rfl, by go_num, unhide Hn, by simp; omega, (unhide hst).1, (unhide hst).2⟩
                  case measure => simp [intOf]; omega
          · obtain rfl : i = x.length := by omega
            have hle : x.length < x.length → y[j]?.getD 0 ≤ x[x.length]?.getD 0 := fun h => absurd h gi
            generalize hU : y[j]?.getD 0 = u at *
            have Hm := hide hm
            have HU := hide hU
            have HLE := hide (show x.length < x.length → y[j]?.getD 0 ≤ x[x.length]?.getD 0 from fun h => absurd h gi)
            clear hm hU hle
            by_cases hos : os = []
            · subst hos
              have Hn := hide (MInv.swap (MInv.next (unhide Hm).swap oy.asc ox.asc gj (by simp) (unhide HLE)))
              rw [unhide HU] at Hn
              go_wp2_with fail
              go_quiet (fail)
              go_wp2_with (at_builtin; refine wpList_append_own _ rfl _ _ 41 rfl w2.heap.size 3 i0 (.int .i64 0) 1 8 Tryz.underlying41 hi hz0 hz1 hz2 rfl (by decide) _ _ _ rfl (World.ownsRow.alloc (w := wr.drewN nq) (unhide Hown) _) ⟨wr.heap.size, 0, none⟩ 1 1 [.int .i64 u] rfl rfl ?_ ?_ ?_ ?_ ?_ ?_)
              · refine cell_1 ?_
                rw [World.cell?_alloc_at _ _ wr.heap.size _ (show wr.heap.size = (wr.drewN nq).heap.size from rfl)]
                rfl
              · intro u' hu; simp at hu; subst hu; rfl
              · unfold maxLen; simp
              · simp
              · rw [sz_alloc]; show _ ≤ wr.heap.size + 1; omega
              intro v' w3 h5 hg5 _
              have hst := hide (ord_step (unhide Hown) hb h5 hg5)
              clear h5 hg5
              go_wp2
              go_roundw
              case rel => exact ⟨x.length, j + 1, _, by omega, by omega, rfl, by go_num, unhide Hn, by simp; omega, (unhide hst).1, (unhide hst).2⟩
              case measure => simp [intOf]; omega
            · have hp : 0 < os.length := List.length_pos_iff.2 hos
              have hp' : ((os.length : Int) == 0) = false := by simp; omega
              obtain ⟨g, oc', e, hcl⟩ := own_at (unhide Hown) hp
              cases e
              have hl0 : wr.cell? ⟨g, os.length - 1, none⟩ = some (.int .i64 (os[os.length - 1]?.getD 0)) := by
                rw [hcl _ (by omega), List.getElem?_map, getD_of_lt (show os.length - 1 < os.length by omega)]
                rfl
              clear hcl
              by_cases hne : os[os.length - 1]?.getD 0 = u
              · have Hn := hide (MInv.swap (MInv.skip (unhide Hm).swap gj (by rw [unhide HU, ← hne]; exact mem_get.2 ⟨os.length - 1, by omega, rfl⟩)))
                rw [hne] at hl0
                clear hne
                have hidx : ((os.length : Int) - 1).toNat = os.length - 1 := by omega
                go_wp2_with fail
                go_quiet (fail)
                go_wp2
                go_roundw
                case rel => exact ⟨x.length, j + 1, os, by omega, by omega, rfl, by go_num, unhide Hn, by omega, unhide Hown, below_drewN hb _⟩
                case measure => simp [intOf]; omega
              · have Hn := hide (MInv.swap (MInv.next (unhide Hm).swap oy.asc ox.asc gj (MInv.last (unhide Hm).swap (fun z hz => (unhide Hm).swap.lx z hz j (Nat.le_refl _) gj) (by rw [unhide HU]; exact hne)) (unhide HLE)))
                rw [unhide HU] at Hn
                generalize os[os.length - 1]?.getD 0 = lv at *
                have hne' : (lv != u) = true := by simp [hne]
                have hidx : ((os.length : Int) - 1).toNat = os.length - 1 := by omega
                go_wp2_with fail
                go_quiet (fail)
                go_wp2_with (at_builtin; refine wpList_append_own _ rfl _ _ 41 rfl w2.heap.size 3 i0 (.int .i64 0) 1 8 Tryz.underlying41 hi hz0 hz1 hz2 rfl (by decide) _ _ _ rfl (World.ownsRow.alloc (w := wr.drewN nq) (unhide Hown) _) ⟨wr.heap.size, 0, none⟩ 1 1 [.int .i64 u] rfl rfl ?_ ?_ ?_ ?_ ?_ ?_)
                · refine cell_1 ?_
                  rw [World.cell?_alloc_at _ _ wr.heap.size _ (show wr.heap.size = (wr.drewN nq).heap.size from rfl)]
                  rfl
                · intro u' hu; simp at hu; subst hu; rfl
                · unfold maxLen; omega
                · omega
                · rw [sz_alloc]; show _ ≤ wr.heap.size + 1; omega
                intro v' w3 h5 hg5 _
                have hst := hide (ord_step (unhide Hown) hb h5 hg5)
                clear h5 hg5
                go_wp2
                go_roundw
                case rel => exact ⟨x.length, j + 1, _, by omega, by omega, rfl, by go_num, unhide Hn, by simp; omega, (unhide hst).1, (unhide hst).2⟩
                case measure => simp [intOf]; omega
        · obtain rfl : j = y.length := by omega
          by_cases gi : i < x.length
          · have gi' : (i : Int) < (x.length : Int) := by omega
            obtain ⟨_, _, e1, -, hcx⟩ := unhide Bx wr hb
            cases e1
            obtain ⟨b1, o1, rfl, -, hbn1, hcellx⟩ := hcx (by omega)
            have hx : wr.cell? ⟨b1, o1 + i, none⟩ = some (.int .i64 (x[i]?.getD 0)) := hcellx i gi
            clear hcellx hcx
            have hle : y.length < y.length → x[i]?.getD 0 ≤ y[y.length]?.getD 0 := fun h => absurd h gj
            generalize hU : x[i]?.getD 0 = u at *
            have Hm := hide hm
            have HU := hide hU
            have HLE := hide (show y.length < y.length → x[i]?.getD 0 ≤ y[y.length]?.getD 0 from fun h => absurd h gj)
            clear hm hU hle
            by_cases hos : os = []
            · subst hos
              have Hn := hide (MInv.next (unhide Hm) ox.asc oy.asc gi (by simp) (unhide HLE))
              rw [unhide HU] at Hn
              go_wp2_with fail
              go_quiet (fail)
              go_wp2_with (at_builtin; refine wpList_append_own _ rfl _ _ 41 rfl w2.heap.size 3 i0 (.int .i64 0) 1 8 Tryz.underlying41 hi hz0 hz1 hz2 rfl (by decide) _ _ _ rfl (World.ownsRow.alloc (w := wr.drewN nq) (unhide Hown) _) ⟨wr.heap.size, 0, none⟩ 1 1 [.int .i64 u] rfl rfl ?_ ?_ ?_ ?_ ?_ ?_)
              · refine cell_1 ?_
                rw [World.cell?_alloc_at _ _ wr.heap.size _ (show wr.heap.size = (wr.drewN nq).heap.size from rfl)]
                rfl
              · intro u' hu; simp at hu; subst hu; rfl
              · unfold maxLen; simp
              · simp
              · rw [sz_alloc]; show _ ≤ wr.heap.size + 1; omega
              intro v' w3 h5 hg5 _
              have hst := hide (ord_step (unhide Hown) hb h5 hg5)
              clear h5 hg5
              go_wp2
              go_roundw
              case rel => exact ⟨i + 1, y.length, _, by omega, by omega, by go_num, rfl, unhide Hn, by simp; omega, (unhide hst).1, (unhide hst).2⟩
              case measure => simp [intOf]; omega
            · have hp : 0 < os.length := List.length_pos_iff.2 hos
              have hp' : ((os.length : Int) == 0) = false := by simp; omega
              obtain ⟨g, oc', e, hcl⟩ := own_at (unhide Hown) hp
              cases e
              have hl0 : wr.cell? ⟨g, os.length - 1, none⟩ = some (.int .i64 (os[os.length - 1]?.getD 0)) := by
                rw [hcl _ (by omega), List.getElem?_map, getD_of_lt (show os.length - 1 < os.length by omega)]
                rfl
              clear hcl
              by_cases hne : os[os.length - 1]?.getD 0 = u
              · have Hn := hide (MInv.skip (unhide Hm) gi (by rw [unhide HU, ← hne]; exact mem_get.2 ⟨os.length - 1, by omega, rfl⟩))
                rw [hne] at hl0
                clear hne
                have hidx : ((os.length : Int) - 1).toNat = os.length - 1 := by omega
                go_wp2_with fail
                go_quiet (fail)
                go_wp2
                go_roundw
                case rel => exact ⟨i + 1, y.length, os, by omega, by omega, by go_num, rfl, unhide Hn, by omega, unhide Hown, below_drewN hb _⟩
                case measure => simp [intOf]; omega
              · have Hn := hide (MInv.next (unhide Hm) ox.asc oy.asc gi (MInv.last (unhide Hm) (fun z hz => (unhide Hm).lx z hz i (Nat.le_refl _) gi) (by rw [unhide HU]; exact hne)) (unhide HLE))
                rw [unhide HU] at Hn
                generalize os[os.length - 1]?.getD 0 = lv at *
                have hne' : (lv != u) = true := by simp [hne]
                have hidx : ((os.length : Int) - 1).toNat = os.length - 1 := by omega
                go_wp2_with fail
                go_quiet (fail)
                go_wp2_with (at_builtin; refine wpList_append_own _ rfl _ _ 41 rfl w2.heap.size 3 i0 (.int .i64 0) 1 8 Tryz.underlying41 hi hz0 hz1 hz2 rfl (by decide) _ _ _ rfl (World.ownsRow.alloc (w := wr.drewN nq) (unhide Hown) _) ⟨wr.heap.size, 0, none⟩ 1 1 [.int .i64 u] rfl rfl ?_ ?_ ?_ ?_ ?_ ?_)
                · refine cell_1 ?_
                  rw [World.cell?_alloc_at _ _ wr.heap.size _ (show wr.heap.size = (wr.drewN nq).heap.size from rfl)]
                  rfl
                · intro u' hu; simp at hu; subst hu; rfl
                · unfold maxLen; omega
                · omega
                · rw [sz_alloc]; show _ ≤ wr.heap.size + 1; omega
                intro v' w3 h5 hg5 _
                have hst := hide (ord_step (unhide Hown) hb h5 hg5)
                clear h5 hg5
                go_wp2
                go_roundw
                case rel => exact ⟨i + 1, y.length, _, by omega, by omega, by go_num, rfl, unhide Hn, by simp; omega, (unhide hst).1, (unhide hst).2⟩
                case measure => simp [intOf]; omega
          · obtain rfl : i = x.length := by omega
            have Hm := hide hm
            clear hm
            go_wp2
            go_ret
            refine ⟨⟨_, os, rfl, (unhide Hm).done (fun z => ?_), by omega, own_low (unhide Hown) (by omega)⟩, ?_⟩
            · rw [ox.mem z, oy.mem z, ← List.mem_append, List.take_append_drop]
            · exact hb1.trans ((hb2.trans (hb.mono hb2.size)).mono hb1.size)

theorem l3order_any (N : Nat) (v : Value) (xs : List Int) (w : World) (hN : xs.length ≤ N) (hl : xs.length ≤ 1048576) (hv : SlAt mI 0 0 w.heap.size w v xs) (hc : CapOk v) :
    Calls Tryz.prog 31 #[v] w fun e w' => OrdRet e w w' xs ∧ Below w.heap.size w w' :=
  (l3order_own N v xs w hN hl hv hc).mono (fun _ _ ⟨⟨v1, ys, h1, h2, h3, h4⟩, hb⟩ => ⟨⟨v1, ys, h1, h2, h3, own_slw h4 (Nat.le_refl _) (by unfold maxLen; omega)⟩, hb⟩)

end Go.Proofs.YtjefklagedidmaaGreat

namespace Go.Proofs.YtjefklagedidmaaGreat
open Go.RowKit

/-- The number of the three bytes from k on. -/
def tri3 (bs : List Int) (k : Nat) : Int := bs[k]?.getD 0 * 65536 + bs[k + 1]?.getD 0 * 256 + bs[k + 2]?.getD 0
def tris (bs : List Int) (n : Nat) : List Int := (List.range n).map (tri3 bs)
theorem tris_len (bs : List Int) (n : Nat) : (tris bs n).length = n := by simp [tris]
theorem tris_succ (bs : List Int) (n : Nat) : tris bs (n + 1) = tris bs n ++ [tri3 bs n] := by simp [tris, List.range_succ]

theorem run_l3num (x y z : Value) (w : World) : Sem.run Tryz.prog (callFunc 15 #[x, y, z]) w = .ok (.enter 15 #[x, y, z]) w := by kernel_rfl
theorem l3num_any (x y z : Int) (w : World) (hx : 0 ≤ x ∧ x ≤ 255) (hy : 0 ≤ y ∧ y ≤ 255) (hz : 0 ≤ z ∧ z ≤ 255) :
    Calls Tryz.prog 15 #[.int .i64 x, .int .i64 y, .int .i64 z] w fun e w' => e = .returned (.int .i64 (x * 65536 + y * 256 + z)) ∧ w' = w := by
  have y1 : wrap64 (x * 65536) = x * 65536 := by unfold wrap64; omega
  have y2 : wrap64 (y * 256) = y * 256 := by unfold wrap64; omega
  have y3 : wrap64 (x * 65536 + y * 256) = x * 65536 + y * 256 := by unfold wrap64; omega
  have y4 : wrap64 (x * 65536 + y * 256 + z) = x * 65536 + y * 256 + z := by unfold wrap64; omega
  go_enter Tryz.func15, Tryz.ntmps15
  go_wp2
  go_ret
  exact ⟨rfl, rfl⟩

end Go.Proofs.YtjefklagedidmaaGreat

namespace Go.Proofs.YtjefklagedidmaaGreat
open Go.RowKit

/-- A Gap stands among the three from k on. -/
def gap3 (bs : List Int) (k : Nat) : Prop := bs[k]?.getD 0 = 256 ∨ bs[k + 1]?.getD 0 = 256 ∨ bs[k + 2]?.getD 0 = 256
/-- The numbers of the first n windows that hold no Gap. -/
def gtr (bs : List Int) : Nat → List Int
  | 0 => []
  | n + 1 => if bs[n]?.getD 0 = 256 ∨ bs[n + 1]?.getD 0 = 256 ∨ bs[n + 2]?.getD 0 = 256 then gtr bs n else gtr bs n ++ [tri3 bs n]
theorem gtr_yes {bs : List Int} {n : Nat} (h : ¬ gap3 bs n) : gtr bs (n + 1) = gtr bs n ++ [tri3 bs n] := if_neg h
theorem gtr_no {bs : List Int} {n : Nat} (h : gap3 bs n) : gtr bs (n + 1) = gtr bs n := if_pos h
theorem gtr_len (bs : List Int) : ∀ n : Nat, (gtr bs n).length ≤ n
  | 0 => by simp [gtr]
  | n + 1 => by
    have := gtr_len bs n
    by_cases h : gap3 bs n
    · rw [gtr_no h]; omega
    · rw [gtr_yes h, List.length_append, List.length_singleton]; omega
theorem sym_get {x : List Int} (h : ∀ b ∈ x, 0 ≤ b ∧ b ≤ 256) (i : Nat) : 0 ≤ x[i]?.getD 0 ∧ x[i]?.getD 0 ≤ 256 := by
  by_cases hi : i < x.length
  · rw [List.getElem?_eq_getElem hi]; exact h _ (List.getElem_mem hi)
  · rw [List.getElem?_eq_none (by omega)]; exact ⟨by decide, by decide⟩
theorem gtr_bd {bs : List Int} (h : ∀ b ∈ bs, 0 ≤ b ∧ b ≤ 256) : ∀ n : Nat, ∀ z ∈ gtr bs n, 0 ≤ z ∧ z ≤ 16777215
  | 0, z, hz => by cases hz
  | n + 1, z, hz => by
    by_cases g : gap3 bs n
    · rw [gtr_no g] at hz; exact gtr_bd h n z hz
    · rw [gtr_yes g] at hz
      rcases List.mem_append.1 hz with hz | hz
      · exact gtr_bd h n z hz
      · rw [List.mem_singleton.1 hz]
        have h0 := sym_get h n
        have h1 := sym_get h (n + 1)
        have h2 := sym_get h (n + 2)
        unfold gap3 at g
        unfold tri3
        omega

end Go.Proofs.YtjefklagedidmaaGreat

namespace Go.Proofs.YtjefklagedidmaaGreat
open Go.Shelf
def Tryz.laysSort_ren : Go.Shelf.Ren := ⟨fun | 189 => 77 | 125 => 80 | 257 => 96 | 128 => 105 | 129 => 106 | 294 => 115 | 295 => 116 | 296 => 117 | 297 => 118 | 298 => 119 | 299 => 120 | 216 => 121 | 300 => 122 | 301 => 123 | 328 => 131 | 329 => 125 | 330 => 126 | 331 => 132 | 332 => 133 | 215 => 107 | 343 => 136 | n => n, fun | 28 => 41 | 3 => 3 | 46 => 114 | 0 => 0 | 51 => 138 | 53 => 96 | 4 => 4 | 183 => 132 | 182 => 131 | 131 => 123 | 5 => 5 | 9 => 9 | 218 => 148 | 222 => 152 | 228 => 157 | 229 => 158 | n => n, fun | n => n⟩
theorem Tryz.laysSort : Go.Proofs.Lays.n189 Tryz.prog Tryz.laysSort_ren := {
  mixed := by kernel_rfl
  f125 := Tryz.func80.trans (congrArg some (by kernel_rfl))
  f128 := Tryz.func105.trans (congrArg some (by kernel_rfl))
  f129 := Tryz.func106.trans (congrArg some (by kernel_rfl))
  f189 := Tryz.func77.trans (congrArg some (by kernel_rfl))
  f215 := Tryz.func107.trans (congrArg some (by kernel_rfl))
  f216 := Tryz.func121.trans (congrArg some (by kernel_rfl))
  f257 := Tryz.func96.trans (congrArg some (by kernel_rfl))
  f294 := Tryz.func115.trans (congrArg some (by kernel_rfl))
  f295 := Tryz.func116.trans (congrArg some (by kernel_rfl))
  f296 := Tryz.func117.trans (congrArg some (by kernel_rfl))
  f297 := Tryz.func118.trans (congrArg some (by kernel_rfl))
  f298 := Tryz.func119.trans (congrArg some (by kernel_rfl))
  f299 := Tryz.func120.trans (congrArg some (by kernel_rfl))
  f300 := Tryz.func122.trans (congrArg some (by kernel_rfl))
  f301 := Tryz.func123.trans (congrArg some (by kernel_rfl))
  f328 := Tryz.func131.trans (congrArg some (by kernel_rfl))
  f329 := Tryz.func125.trans (congrArg some (by kernel_rfl))
  f330 := Tryz.func126.trans (congrArg some (by kernel_rfl))
  f331 := Tryz.func132.trans (congrArg some (by kernel_rfl))
  f332 := Tryz.func133.trans (congrArg some (by kernel_rfl))
  f343 := Tryz.func136.trans (congrArg some (by kernel_rfl))
  t0 := Tryz.underlying0
  a0 := Tryz.isAgg0
  z0 := Tryz.sizeOf0
  v0 := Tryz.zeroValue0
  t3 := Tryz.underlying3
  a3 := Tryz.isAgg3
  z3 := Tryz.sizeOf3
  v3 := Tryz.zeroValue3
  t4 := Tryz.underlying4
  a4 := Tryz.isAgg4
  z4 := Tryz.sizeOf4
  v4 := Tryz.zeroValue4
  t5 := Tryz.underlying5
  a5 := Tryz.isAgg5
  z5 := Tryz.sizeOf5
  v5 := Tryz.zeroValue5
  t9 := Tryz.underlying9
  a9 := Tryz.isAgg9
  z9 := Tryz.sizeOf9
  v9 := Tryz.zeroValue9
  t28 := Tryz.underlying41
  a28 := Tryz.isAgg41
  z28 := Tryz.sizeOf41
  v28 := Tryz.zeroValue41
  t46 := Tryz.underlying114
  a46 := Tryz.isAgg114
  z46 := Tryz.sizeOf114
  v46 := Tryz.zeroValue114
  t51 := Tryz.underlying138
  a51 := Tryz.isAgg138
  z51 := Tryz.sizeOf138
  v51 := Tryz.zeroValue138
  t53 := Tryz.underlying96
  a53 := Tryz.isAgg96
  z53 := Tryz.sizeOf96
  v53 := Tryz.zeroValue96
  t131 := Tryz.underlying123
  a131 := Tryz.isAgg123
  z131 := Tryz.sizeOf123
  v131 := Tryz.zeroValue123
  t182 := Tryz.underlying131
  a182 := Tryz.isAgg131
  z182 := Tryz.sizeOf131
  v182 := Tryz.zeroValue131
  t183 := Tryz.underlying132
  a183 := Tryz.isAgg132
  z183 := Tryz.sizeOf132
  v183 := Tryz.zeroValue132
  t218 := Tryz.underlying148
  a218 := Tryz.isAgg148
  z218 := Tryz.sizeOf148
  v218 := Tryz.zeroValue148
  t222 := Tryz.underlying152
  a222 := Tryz.isAgg152
  z222 := Tryz.sizeOf152
  v222 := Tryz.zeroValue152
  t228 := Tryz.underlying157
  a228 := Tryz.isAgg157
  z228 := Tryz.sizeOf157
  v228 := Tryz.zeroValue157
  t229 := Tryz.underlying158
  a229 := Tryz.isAgg158
  z229 := Tryz.sizeOf158
  v229 := Tryz.zeroValue158 }
def Tryz.laysClone_ren : Go.Shelf.Ren := ⟨fun | 15 => 40 | n => n, fun | 22 => 41 | 3 => 3 | 4 => 4 | n => n, fun | n => n⟩
theorem Tryz.laysClone : Go.Proofs.Lays2.n15 Tryz.prog Tryz.laysClone_ren := {
  mixed := by kernel_rfl
  f15 := Tryz.func40.trans (congrArg some (by kernel_rfl))
  t3 := Tryz.underlying3
  a3 := Tryz.isAgg3
  z3 := Tryz.sizeOf3
  v3 := Tryz.zeroValue3
  t4 := Tryz.underlying4
  a4 := Tryz.isAgg4
  z4 := Tryz.sizeOf4
  v4 := Tryz.zeroValue4
  t22 := Tryz.underlying41
  a22 := Tryz.isAgg41
  z22 := Tryz.sizeOf41
  v22 := Tryz.zeroValue41
  i3 := by kernel_rfl }
def Tryz.laysCompact_ren : Go.Shelf.Ren := ⟨fun | 20 => 78 | n => n, fun | 22 => 41 | 3 => 3 | 4 => 4 | 0 => 0 | n => n, fun | n => n⟩
theorem Tryz.laysCompact : Go.Proofs.Lays2.n20 Tryz.prog Tryz.laysCompact_ren := {
  mixed := by kernel_rfl
  f20 := Tryz.func78.trans (congrArg some (by kernel_rfl))
  t0 := Tryz.underlying0
  a0 := Tryz.isAgg0
  z0 := Tryz.sizeOf0
  v0 := Tryz.zeroValue0
  t3 := Tryz.underlying3
  a3 := Tryz.isAgg3
  z3 := Tryz.sizeOf3
  v3 := Tryz.zeroValue3
  t4 := Tryz.underlying4
  a4 := Tryz.isAgg4
  z4 := Tryz.sizeOf4
  v4 := Tryz.zeroValue4
  t22 := Tryz.underlying41
  a22 := Tryz.isAgg41
  z22 := Tryz.sizeOf41
  v22 := Tryz.zeroValue41
  i3 := by kernel_rfl }
end Go.Proofs.YtjefklagedidmaaGreat
