import Derived.Test.YtinhliecfjlocaaGreatPk2
import Derived.OwnWalk
import Derived.Maps.AppendAt
import Derived.Laws.AppendOwnNone
import Derived.Deep.AppendLies
import Derived.Deep.RegionLaw
import Derived.BigRegion
import Derived.Test.YtinhliecfjlocaaGreatPk3
namespace Go.Proofs.YtinhliecfjlocaaGreat
open Go.RowKit
def Free (w : World) (b : Nat) : Prop := ∃ c t, w.heap[b]? = some (.cells c t (0, 0))
theorem Free.same {w w' : World} {b : Nat} (h : Free w b) (e : w'.heap[b]? = w.heap[b]?) : Free w' b := by
  obtain ⟨c, t, hb⟩ := h
  exact ⟨c, t, e.trans hb⟩
theorem Free.put {w : World} {b b' o : Nat} {u : Value} (h : Free w b) : Free (w.setCell ⟨b', o, none⟩ u) b := by
  by_cases e : b = b'
  · subst e; exact own_put h
  · exact h.same (Below.heap_setCell _ _ _ _ (by exact e))
def Rng (lo n : Nat) (k : Nat) : Prop := lo ≤ k ∧ k < n
structure ChgF (S : Nat → Prop) (w w' : World) : Prop where
  os : w'.os = w.os
  tape : w'.tape = w.tape
  output : w'.output = w.output
  size : w'.heap.size = w.heap.size
  block : ∀ k, ¬ S k → w'.heap[k]? = w.heap[k]?
theorem ChgF.refl (S : Nat → Prop) (w : World) : ChgF S w w := ⟨rfl, rfl, rfl, rfl, fun _ _ => rfl⟩
theorem ChgF.trans {S : Nat → Prop} {a b c : World} (h : ChgF S a b) (k : ChgF S b c) : ChgF S a c :=
  ⟨k.os.trans h.os, k.tape.trans h.tape, k.output.trans h.output, k.size.trans h.size, fun i hi => (k.block i hi).trans (h.block i hi)⟩
theorem ChgF.mono {S T : Nat → Prop} {a b : World} (h : ChgF S a b) (hs : ∀ k, S k → T k) : ChgF T a b := ⟨h.os, h.tape, h.output, h.size, fun k hk => h.block k (fun q => hk (hs k q))⟩
theorem Chg.foot {lo n : Nat} {S : Nat → Prop} {a b : World} (h : Chg lo n a b) (hs : ∀ k, lo ≤ k → k < n → S k) : ChgF S a b := ⟨h.os, h.tape, h.output, h.size, fun k hk => h.block k (by
  by_cases e : lo ≤ k ∧ k < n
  · exact absurd (hs k e.1 e.2) hk
  · omega)⟩
theorem ChgF.below {S : Nat → Prop} {lo : Nat} {w w' : World} (h : ChgF S w w') (hs : ∀ k, S k → lo ≤ k) : Below lo w w' := ⟨h.os, h.tape, h.output, by rw [h.size]; exact Nat.le_refl _, fun k hk => h.block k (fun q => by have := hs k q; omega)⟩
theorem ChgF.put {S : Nat → Prop} {a w : World} (h : ChgF S a w) {b o : Nat} (h1 : S b) (u : Value) : ChgF S a (w.setCell ⟨b, o, none⟩ u) :=
  h.trans ⟨rfl, rfl, rfl, by simp [World.setCell], fun k hk => Below.heap_setCell _ _ _ _ (by show k ≠ b; intro e; subst e; exact hk h1)⟩
def SlF {α : Type} (mk : α → Value) (d : α) (S : Nat → Prop) (w : World) (v : Value) (xs : List α) : Prop :=
  ∃ lo n, SlW mk d lo n w v xs ∧ ∀ k, lo ≤ k → k < n → S k
theorem SlW.foot {α : Type} {mk : α → Value} {d : α} {lo n : Nat} {w : World} {v : Value} {xs : List α} (h : SlW mk d lo n w v xs) : SlF mk d (Rng lo n) w v xs := ⟨lo, n, h, fun _ h1 h2 => ⟨h1, h2⟩⟩
theorem SlF.same {α : Type} {mk : α → Value} {d : α} {S : Nat → Prop} {w w' : World} {v : Value} {xs : List α} (h : SlF mk d S w v xs) (hs : ∀ k, S k → w'.heap[k]? = w.heap[k]?) : SlF mk d S w' v xs := by
  obtain ⟨lo, n, h1, h2⟩ := h
  exact ⟨lo, n, h1.same (fun k k1 k2 => hs k (h2 k k1 k2)), h2⟩
theorem SlF.mono {α : Type} {mk : α → Value} {d : α} {S T : Nat → Prop} {w : World} {v : Value} {xs : List α} (h : SlF mk d S w v xs) (hs : ∀ k, S k → T k) : SlF mk d T w v xs := by
  obtain ⟨lo, n, h1, h2⟩ := h
  exact ⟨lo, n, h1, fun k k1 k2 => hs k (h2 k k1 k2)⟩
theorem SlF.at {α : Type} {mk : α → Value} {d : α} {S : Nat → Prop} {N : Nat} {w : World} {v : Value} {xs : List α} (h : SlF mk d S w v xs) (hs : ∀ k, S k → k < N) : SlAt mk d 0 N w v xs := by
  obtain ⟨lo, n, ⟨a, cap, rfl, hl, hc⟩, h2⟩ := h
  refine ⟨a, cap, rfl, hl, fun hp => ?_⟩
  obtain ⟨b, off, rfl, h3, h4, h5, hcell⟩ := hc hp
  exact ⟨b, off, rfl, Nat.zero_le _, hs b (h2 b h3 h4), hcell⟩
theorem SlF.val {α : Type} {mk : α → Value} {d : α} {S : Nat → Prop} {w : World} {v : Value} {xs : List α} (h : SlF mk d S w v xs) : ∃ a cap, v = .slice a xs.length cap := by
  obtain ⟨lo, n, ⟨a, cap, e, -⟩, -⟩ := h
  exact ⟨a, cap, e⟩
def SsAt {α : Type} (mk : α → Value) (d : α) (N : Nat) (w : World) (v : Value) (xss : List (List α)) : Prop :=
  ∃ a cap, v = .slice a xss.length cap ∧ (xss.length ≤ cap ∧ cap ≤ maxLen) ∧
    (0 < xss.length → ∃ b off, a = some ⟨b, off, none⟩ ∧ b < N ∧ ∀ i : Nat, i < xss.length → ∃ s, w.cell? ⟨b, off + i, none⟩ = some s ∧ SlAt mk d 0 N w s (xss[i]?.getD []) ∧ CapOk s)
theorem SsAt.below {α : Type} {mk : α → Value} {d : α} {m : Nat} {w w' : World} {v : Value} {xss : List (List α)} (h : SsAt mk d w.heap.size w v xss) (hb : Below m w w') (hm : w.heap.size ≤ m) : SsAt mk d w'.heap.size w' v xss := by
  obtain ⟨a, cap, rfl, hl, hc⟩ := h
  refine ⟨a, cap, rfl, hl, fun hp => ?_⟩
  obtain ⟨b, off, rfl, h1, h2⟩ := hc hp
  refine ⟨b, off, rfl, by have := hb.size; omega, fun i hi => ?_⟩
  obtain ⟨s, h3, h4, h5⟩ := h2 i hi
  exact ⟨s, by rw [hb.cell (p := ⟨b, off + i, none⟩) (by show b < m; omega)]; exact h3, h4.below hb hm, h5⟩
theorem SsAt.drewN {α : Type} {mk : α → Value} {d : α} {n : Nat} {w : World} {v : Value} {xss : List (List α)} (h : SsAt mk d n w v xss) (q : Nat) : SsAt mk d n (w.drewN q) v xss := h
def SsF {α : Type} (mk : α → Value) (d : α) (S : Nat → Prop) (w : World) (v : Value) (xss : List (List α)) : Prop :=
  ∃ a cap, v = .slice a xss.length cap ∧ (xss.length ≤ cap ∧ cap ≤ maxLen) ∧ (0 < xss.length → ∃ (b off : Nat) (sv : Nat → Value) (T : Nat → Nat → Prop), a = some ⟨b, off, none⟩ ∧ S b ∧ Free w b ∧
    (∀ i : Nat, i < xss.length → w.cell? ⟨b, off + i, none⟩ = some (sv i)) ∧ (∀ i : Nat, i < xss.length → SlF mk d (T i) w (sv i) (xss[i]?.getD []) ∧ CapOk (sv i)) ∧
    (∀ i : Nat, i < xss.length → ∀ k, T i k → S k ∧ k ≠ b) ∧ ∀ i j : Nat, i < xss.length → j < xss.length → i ≠ j → ∀ k, T i k → ¬ T j k)
theorem SsF.same {α : Type} {mk : α → Value} {d : α} {S : Nat → Prop} {w w' : World} {v : Value} {xss : List (List α)} (h : SsF mk d S w v xss) (hs : ∀ k, S k → w'.heap[k]? = w.heap[k]?) : SsF mk d S w' v xss := by
  obtain ⟨a, cap, rfl, hl, hc⟩ := h
  refine ⟨a, cap, rfl, hl, fun hp => ?_⟩
  obtain ⟨b, off, sv, T, e, h1, h2, h3, h4, h5, h6⟩ := hc hp
  exact ⟨b, off, sv, T, e, h1, h2.same (hs b h1), fun i hi => by rw [World.cell?_of_block (w := w) (a := ⟨b, off + i, none⟩) (hs b h1)]; exact h3 i hi, fun i hi => ⟨(h4 i hi).1.same (fun k hk => hs k (h5 i hi k hk).1), (h4 i hi).2⟩, h5, h6⟩
theorem SsF.mono {α : Type} {mk : α → Value} {d : α} {S S' : Nat → Prop} {w : World} {v : Value} {xss : List (List α)} (h : SsF mk d S w v xss) (hs : ∀ k, S k → S' k) : SsF mk d S' w v xss := by
  obtain ⟨a, cap, rfl, hl, hc⟩ := h
  refine ⟨a, cap, rfl, hl, fun hp => ?_⟩
  obtain ⟨b, off, sv, T, e, h1, h2, h3, h4, h5, h6⟩ := hc hp
  exact ⟨b, off, sv, T, e, hs b h1, h2, h3, h4, fun i hi k hk => ⟨hs k (h5 i hi k hk).1, (h5 i hi k hk).2⟩, h6⟩
theorem SsF.at {α : Type} {mk : α → Value} {d : α} {S : Nat → Prop} {N : Nat} {w : World} {v : Value} {xss : List (List α)} (h : SsF mk d S w v xss) (hs : ∀ k, S k → k < N) : SsAt mk d N w v xss := by
  obtain ⟨a, cap, rfl, hl, hc⟩ := h
  refine ⟨a, cap, rfl, hl, fun hp => ?_⟩
  obtain ⟨b, off, sv, T, e, h1, h2, h3, h4, h5, h6⟩ := hc hp
  exact ⟨b, off, e, hs b h1, fun i hi => ⟨sv i, h3 i hi, (h4 i hi).1.at (fun k hk => hs k (h5 i hi k hk).1), (h4 i hi).2⟩⟩
theorem SsF.keep {α : Type} {mk : α → Value} {d : α} {lo n m : Nat} {w w' : World} {v : Value} {xss : List (List α)} (h : SsF mk d (Rng lo n) w v xss) (hb : Below m w w') (hn : n ≤ m) : SsF mk d (Rng lo n) w' v xss := h.same (fun k hk => hb.block k (by unfold Rng at hk; omega))
theorem SsF.all {α : Type} {mk : α → Value} {d : α} {lo n : Nat} {w : World} {v : Value} {xss : List (List α)} (h : SsF mk d (Rng lo n) w v xss) (hn : n ≤ w.heap.size) : SsAt mk d w.heap.size w v xss := h.at (fun k hk => by unfold Rng at hk; omega)
theorem SsF.nil {α : Type} (mk : α → Value) (d : α) (S : Nat → Prop) (w : World) (a : Option Addr) (cap : Nat) (hc : cap ≤ maxLen) : SsF mk d S w (.slice a 0 cap) ([] : List (List α)) := ⟨a, cap, rfl, ⟨Nat.zero_le _, hc⟩, fun h => absurd h (by simp)⟩
def tot {α : Type} : List (List α) → Nat
  | [] => 0
  | x :: r => x.length + tot r
theorem tot_step {α : Type} (xss : List (List α)) (i : Nat) (h : i < xss.length) : tot (xss.take (i + 1)) = tot (xss.take i) + (xss[i]?.getD []).length := by
  induction xss generalizing i with
  | nil => simp at h
  | cons x r ih =>
    cases i with
    | zero => simp [tot]
    | succ i => simp only [List.take_succ_cons, tot, List.getElem?_cons_succ]; rw [ih i (by simpa using h)]; omega
theorem tot_take {α : Type} (xss : List (List α)) (i : Nat) : tot (xss.take i) ≤ tot xss := by
  induction xss generalizing i with
  | nil => simp [tot]
  | cons x r ih => cases i with
    | zero => simp [tot]
    | succ i => have := ih i; simp only [List.take_succ_cons, tot]; omega
theorem tot_get {α : Type} (xss : List (List α)) (i : Nat) : (xss[i]?.getD []).length ≤ tot xss := by
  by_cases h : i < xss.length
  · have h1 := tot_step xss i h
    have h2 := tot_take xss (i + 1)
    omega
  · rw [List.getElem?_eq_none (by omega)]; simp
theorem SsAt.take {α : Type} {mk : α → Value} {d : α} {N k cap b off : Nat} {w : World} {xss : List (List α)} (hk : k ≤ xss.length) (hl : xss.length ≤ cap ∧ cap ≤ maxLen) (hb : b < N)
    (hc : ∀ i : Nat, i < xss.length → ∃ s, w.cell? ⟨b, off + i, none⟩ = some s ∧ SlAt mk d 0 N w s (xss[i]?.getD []) ∧ CapOk s) : SsAt mk d N w (.slice (some ⟨b, off, none⟩) k cap) (xss.take k) := by
  have e : (xss.take k).length = k := by simp; omega
  refine ⟨_, cap, by rw [e], ⟨by omega, hl.2⟩, fun _ => ⟨b, off, rfl, hb, fun i hi => ?_⟩⟩
  rw [e] at hi
  obtain ⟨s, h1, h2⟩ := hc i (by omega)
  exact ⟨s, h1, by rw [List.getElem?_take, if_pos hi]; exact h2⟩
theorem SsAt.drop {α : Type} {mk : α → Value} {d : α} {N k m cap b off : Nat} {w : World} {xss : List (List α)} (hk : k + m = xss.length) (hl : m ≤ cap ∧ cap ≤ maxLen) (hb : b < N)
    (hc : ∀ i : Nat, i < xss.length → ∃ s, w.cell? ⟨b, off + i, none⟩ = some s ∧ SlAt mk d 0 N w s (xss[i]?.getD []) ∧ CapOk s) : SsAt mk d N w (.slice (some ⟨b, off + k, none⟩) m cap) (xss.drop k) := by
  have e : (xss.drop k).length = m := by simp; omega
  refine ⟨_, cap, by rw [e], ⟨by omega, hl.2⟩, fun _ => ⟨b, off + k, rfl, hb, fun i hi => ?_⟩⟩
  rw [e] at hi
  obtain ⟨s, h1, h2⟩ := hc (k + i) (by omega)
  exact ⟨s, by rw [Nat.add_assoc]; exact h1, by rw [List.getElem?_drop]; exact h2⟩
theorem tot_drop {α : Type} (xss : List (List α)) (i : Nat) : tot (xss.drop i) ≤ tot xss := by
  induction xss generalizing i with
  | nil => simp [tot]
  | cons x r ih => cases i with
    | zero => simp
    | succ i => have := ih i; simp only [List.drop_succ_cons, tot]; omega
theorem own_slw {base lo n : Nat} {w : World} {v : Value} {xs : List Int} (h : w.ownsRow base 3 1 v n (xs.map mI)) (hlo : lo ≤ base) (hn : n ≤ maxLen) : SlW mI 0 lo w.heap.size w v xs := by
  have hlen := h.1
  rw [List.length_map, Nat.mul_one] at hlen
  rcases h.2 with ⟨rfl, hz⟩ | ⟨g, cap, cur, rfl, hbg, hg, hnc, hcm, hcs, htake⟩
  · exact ⟨none, 0, by rw [hlen, hz], by omega, fun hp => by omega⟩
  · refine ⟨_, cap, by rw [hlen], by omega, fun hp => ⟨g, 0, rfl, by omega, (h.lt g rfl).2, ⟨cur, _, hg⟩, fun i hi => ?_⟩⟩
    rw [Nat.zero_add, h.cellAt i (by omega), List.getElem?_map, List.getElem?_eq_getElem hi]
    rfl
theorem cell_1 {W : World} {N : Nat} {u : Value} (h : W.cell? ⟨N, 0, none⟩ = some u) : ∀ (j : Nat) (y : Value), [u][j]? = some y → W.cell? ((⟨N, 0, none⟩ : Addr).add j) = some y := by
  intro j y hj
  match j, hj with
  | 0, hj => simp at hj; subst hj; exact h
theorem own_at {base n : Nat} {w : World} {v : Value} {xs : List Value} (h : w.ownsRow base 3 1 v n xs) (hp : 0 < n) : ∃ g cap, v = .slice (some ⟨g, 0, none⟩) n cap ∧ ∀ j : Nat, j < n → w.cell? ⟨g, j, none⟩ = xs[j]? := by
  rcases h.2 with ⟨rfl, hz⟩ | ⟨g, cap, cur, rfl, hbg, hg, hnc, hcm, hcs, htake⟩
  · omega
  · exact ⟨g, cap, rfl, fun j hj => h.cellAt j (by omega)⟩
theorem getD_of_lt {xs : List Int} {i : Nat} (h : i < xs.length) : xs[i]? = some (xs[i]?.getD 0) := by rw [List.getElem?_eq_getElem h]; rfl
theorem own_keep {base n m e size : Nat} {w w' : World} {v : Value} {xs : List Value} (h : w.ownsRow base e size v n xs) (hb : Below m w w') (hm : w.heap.size ≤ m) : w'.ownsRow base e size v n xs :=
  h.kept (show w.grownBy w' none from ⟨hb.os, hb.tape, hb.output, hb.size, fun k hk _ => hb.block k (by omega)⟩) (by cases v.ownBlock <;> simp)
theorem own_is {base n e size : Nat} {w : World} {v : Value} {xs : List Value} (h : w.ownsRow base e size v n xs) : ∃ oa oc, v = .slice oa n oc := by
  rcases h.2 with ⟨rfl, hz⟩ | ⟨q, cap, cur, rfl, -⟩
  · exact ⟨none, 0, by rw [hz]⟩
  · exact ⟨_, _, rfl⟩
theorem run_append_none_c {P : Program} {w : World} (base : Nat) (t ty e : TypeId) (i : TypeInfo) (size : Nat) (ht : P.underlying t = some (.slice e)) (hi : P.info? e = some i)
    (v : Value) (n : Nat) (xs : List Value) (hown : w.ownsRow base e size v n xs) (c : Nat) : (Builtin.append_ #[t, t] ty #[v, .slice none 0 c]).run P w = .ok v w := by
  rcases hown.2 with ⟨rfl, rfl⟩ | ⟨g, cap, cur, rfl, _, _, hnc, _⟩
  · simp [Builtin.append_, run_underlying ht, sizeOf, typeInfo, hi, Builtin.lenOf, Builtin.firstCells]
  · simp [Builtin.append_, run_underlying ht, sizeOf, typeInfo, hi, Builtin.lenOf, Builtin.firstCells, hnc, storeCells]
theorem wpList_append_none_c {P : Program} {w : World} {ops : Array Oper} {rest : List Oper} {o : Oper} {a : Act} {Q : Exit → Act → World → Prop} (hgd : o.guard = none) (s x : Operand) (t : TypeId)
    (ho : o.op = .call { callee := .builtin .append, args := #[s, x], argTypes := #[t, t] })
    (base : Nat) (e : TypeId) (i : TypeInfo) (size : Nat) (ht : P.underlying t = some (.slice e)) (hi : P.info? e = some i)
    (v : Value) (n : Nat) (xs : List Value) (hs : a.eval s = v) (hown : w.ownsRow base e size v n xs) (c : Nat) (hx : a.eval x = .slice none 0 c)
    (h : wpList P ops Q rest (a.put o.dst v) w) : wpList P ops Q (o :: rest) a w := by
  refine wpList_plain hgd fun K hK => ?_
  have hrun := run_append_none_c (P := P) (w := w) base t o.type e i size ht hi v n xs hown c
  unfold Oper.wp
  simp [execOp, ho, resolve, invoke, builtin, hs, hx, hrun, Result.andThen]
  exact hK _ _ h
theorem app_ints {w : World} {ops : Array Oper} {rest : List Oper} {o : Oper} {a : Act} {Q : Exit → Act → World → Prop} (hgd : o.guard = none) (s x : Operand)
    (ho : o.op = .call { callee := .builtin .append, args := #[s, x], argTypes := #[34, 34] }) (hs : a.eval s = .slice none 0 0) (sv : Value) (hx : a.eval x = sv) (xs : List Int) (hv : SlAt mI 0 0 w.heap.size w sv xs) (hlen : xs.length ≤ 1048576)
    (h : ∀ v' w', Below w.heap.size w w' → SlW mI 0 w.heap.size w'.heap.size w' v' xs → v'.oneCell' = true → wpList Tryz.prog ops Q rest (a.put o.dst v') w') : wpList Tryz.prog ops Q (o :: rest) a w := by
  obtain ⟨i0, hi, hz0, hz1, hz2⟩ := info_parts Tryz.zinInt
  obtain ⟨sa, sc, rfl, hl, hc⟩ := hv
  cases sa with
  | none =>
    have h0 : xs.length = 0 := by
      by_cases q : 0 < xs.length
      · obtain ⟨b, off, e, -⟩ := hc q; simp at e
      · omega
    rw [h0] at hx
    exact wpList_append_none_c hgd s x 34 ho w.heap.size 3 i0 1 Tryz.underlying34 hi _ 0 [] hs (World.ownsRow_nil _ _ _ _) sc hx (h _ w (Below.refl _ _) ⟨none, 0, by rw [h0], hl, fun q => absurd q (by omega)⟩ rfl)
  | some ad =>
    refine wpList_append_own_at w hgd s x 34 ho w.heap.size 3 i0 (.int .i64 0) 1 8 Tryz.underlying34 hi hz0 hz1 hz2 rfl (by decide) _ 0 [] hs (World.ownsRow_nil _ _ _ _) ad xs.length sc (xs.map mI) hx (by simp) ?_ ?_ (by rw [Nat.zero_add]; exact hl) (by omega) (Nat.le_refl _) ?_
    · intro j u hu
      have hj : j < xs.length := by
        have := (List.getElem?_eq_some_iff.1 hu).1
        simpa using this
      obtain ⟨b, off, e, -, -, hcell⟩ := hc (by omega)
      simp only [Option.some.injEq] at e
      subst e
      rw [List.getElem?_map, getD_of_lt hj] at hu
      simp only [Option.map_some, Option.some.injEq] at hu
      subst hu
      have e3 : (⟨b, off, none⟩ : Addr).add j = ⟨b, off + j, none⟩ := by cases j <;> rfl
      rw [e3]
      exact hcell j hj
    · intro u hu
      obtain ⟨y, -, rfl⟩ := List.mem_map.1 hu
      rfl
    · intro v' w' h1 hg _ _
      rw [Nat.zero_add, List.nil_append] at h1
      obtain ⟨oa, oc, rfl⟩ := own_is h1
      exact h _ w' ((Below.refl _ _).grown hg (Nat.le_refl _) (fun k hk => by cases hk)) (own_slw h1 (Nat.le_refl _) hl) rfl
theorem app_ints_own {w : World} {ops : Array Oper} {rest : List Oper} {o : Oper} {a : Act} {Q : Exit → Act → World → Prop} (hgd : o.guard = none) (s x : Operand)
    (ho : o.op = .call { callee := .builtin .append, args := #[s, x], argTypes := #[34, 34] }) (hs : a.eval s = .slice none 0 0) (sv : Value) (hx : a.eval x = sv) (xs : List Int) (hv : SlAt mI 0 0 w.heap.size w sv xs) (hlen : xs.length ≤ 1048576)
    (h : ∀ v' w', Below w.heap.size w w' → w'.ownsRow w.heap.size 3 1 v' xs.length (xs.map mI) → v'.oneCell' = true → wpList Tryz.prog ops Q rest (a.put o.dst v') w') : wpList Tryz.prog ops Q (o :: rest) a w := by
  obtain ⟨i0, hi, hz0, hz1, hz2⟩ := info_parts Tryz.zinInt
  obtain ⟨sa, sc, rfl, hl, hc⟩ := hv
  cases sa with
  | none =>
    have h0 : xs.length = 0 := by
      by_cases q : 0 < xs.length
      · obtain ⟨b, off, e, -⟩ := hc q; simp at e
      · omega
    rw [h0] at hx
    exact wpList_append_none_c hgd s x 34 ho w.heap.size 3 i0 1 Tryz.underlying34 hi _ 0 [] hs (World.ownsRow_nil _ _ _ _) sc hx (h _ w (Below.refl _ _) (by rw [List.eq_nil_of_length_eq_zero h0]; exact World.ownsRow_nil _ _ _ _) rfl)
  | some ad =>
    refine wpList_append_own_at w hgd s x 34 ho w.heap.size 3 i0 (.int .i64 0) 1 8 Tryz.underlying34 hi hz0 hz1 hz2 rfl (by decide) _ 0 [] hs (World.ownsRow_nil _ _ _ _) ad xs.length sc (xs.map mI) hx (by simp) ?_ ?_ (by rw [Nat.zero_add]; exact hl) (by omega) (Nat.le_refl _) ?_
    · intro j u hu
      have hj : j < xs.length := by
        have := (List.getElem?_eq_some_iff.1 hu).1
        simpa using this
      obtain ⟨b, off, e, -, -, hcell⟩ := hc (by omega)
      simp only [Option.some.injEq] at e
      subst e
      rw [List.getElem?_map, getD_of_lt hj] at hu
      simp only [Option.map_some, Option.some.injEq] at hu
      subst hu
      have e3 : (⟨b, off, none⟩ : Addr).add j = ⟨b, off + j, none⟩ := by cases j <;> rfl
      rw [e3]
      exact hcell j hj
    · intro u hu
      obtain ⟨y, -, rfl⟩ := List.mem_map.1 hu
      rfl
    · intro v' w' h1 hg _ _
      rw [Nat.zero_add, List.nil_append] at h1
      obtain ⟨oa, oc, rfl⟩ := own_is h1
      exact h _ w' ((Below.refl _ _).grown hg (Nat.le_refl _) (fun k hk => by cases hk)) h1 rfl
structure Pushd (w W : World) (o : Obj) : Prop where
  os : W.os = w.os
  tape : W.tape = w.tape
  output : W.output = w.output
  heap : W.heap = w.heap.push o
theorem Pushd.size {w W : World} {o : Obj} (h : Pushd w W o) : W.heap.size = w.heap.size + 1 := by rw [h.heap, Array.size_push]
theorem Pushd.old {w W : World} {o : Obj} (h : Pushd w W o) {k : Nat} (hk : k < w.heap.size) : W.heap[k]? = w.heap[k]? := by rw [h.heap, Array.getElem?_push_lt hk, Array.getElem?_eq_getElem hk]
theorem Pushd.new {w W : World} {o : Obj} (h : Pushd w W o) : W.heap[w.heap.size]? = some o := by rw [h.heap]; simp
theorem Pushd.below {w W : World} {o : Obj} (h : Pushd w W o) : Below w.heap.size w W := ⟨h.os, h.tape, h.output, by rw [h.size]; omega, fun k hk => h.old hk⟩
theorem Pushd.own {w W : World} {o : Obj} (h : Pushd w W o) {base n e size : Nat} {v : Value} {xs : List Value} (k : w.ownsRow base e size v n xs) : W.ownsRow base e size v n xs := own_keep k h.below (Nat.le_refl _)
theorem Pushd.news {w W : World} {cs : Array Value} {t : TypeId} (h : Pushd w W (.cells cs t)) : ∀ (j : Nat) (u : Value), cs.toList[j]? = some u → W.cell? ((⟨w.heap.size, 0, none⟩ : Addr).add j) = some u := World.news_of_block h.new
theorem step_call {w : World} {ops : Array Oper} {o : Oper} {a : Act} {K : Act → World → Prop} {Q : Exit → Act → World → Prop} {E : Prop} (F : FuncId) (vals : Array Value) (hgd : o.guard = none) (hex : (execOp a.eval o).run Tryz.prog w = .ok (.enter F vals) w)
    {Post : Ending → World → Prop} (h : Calls Tryz.prog F vals w Post) (hK : ∀ e w', Post e w' → ∃ v, e = .returned v ∧ K (a.put o.dst v) w') : if Region.wanted o (yielded ops a.tmps) = true then Oper.wp Tryz.prog o a w K Q else E := by
  have hw : Region.wanted o (yielded ops a.tmps) = true := by simp [Region.wanted, hgd]
  rw [if_pos hw]
  unfold Oper.wp
  rw [hex, Oper.upon_enter]
  refine h.mono ?_
  intro e w' hP
  obtain ⟨v, rfl, hk⟩ := hK e w' hP
  exact hk
theorem step_call_o {w : World} {ops : Array Oper} {o : Oper} {a : Act} {K : Act → World → Prop} {Q : Exit → Act → World → Prop} {E : Prop} (F : FuncId) (cargs : Array Operand) (ts : Array TypeId) (ho : o.op = .call { callee := .value (.func F), args := cargs, argTypes := ts }) (vals : Array Value) (hgd : o.guard = none) (hev : cargs.map a.eval = vals)
    (hf : ∀ w, Sem.run Tryz.prog (callFunc F vals) w = .ok (.enter F vals) w)
    {Post : Ending → World → Prop} (h : Calls Tryz.prog F vals w Post) (hK : ∀ e w', Post e w' → ∃ v, e = .returned v ∧ K (a.put o.dst v) w') : if Region.wanted o (yielded ops a.tmps) = true then Oper.wp Tryz.prog o a w K Q else E := by
  refine step_call F vals hgd ?_ h hK
  have e1 : a.eval (.func F) = .func (.func F) #[] #[] := rfl
  simp [execOp, ho, resolve, hev, e1, Deferred.ofValue, invoke, hf]
theorem own_cap {base n e size : Nat} {w : World} {v : Value} {xs : List Value} (h : w.ownsRow base e size v n xs) : CapOk v := by
  rcases h.2 with ⟨rfl, _⟩ | ⟨g, cap, cur, rfl, _, _, hnc, hcm, _⟩
  · exact CapOk.mk (Nat.le_refl _) (Nat.zero_le _)
  · exact CapOk.mk hnc hcm
theorem w64i {n : Int} (h0 : -9223372036854775808 ≤ n) (h1 : n ≤ 9223372036854775807) : wrap64 n = n := by unfold wrap64; omega
theorem k64i {n : Int} (h0 : -9223372036854775808 ≤ n) (h1 : n ≤ 9223372036854775807) : IntKind.i64.wrap n = n := by rw [IntKind.wrap_i64]; omega
theorem drew2 (w : World) (a b : Nat) : (w.drewN a).drewN b = w.drewN (a + b) := by simp
theorem own_low {b b' e size n : Nat} {w : World} {v : Value} {xs : List Value} (h : w.ownsRow b e size v n xs) (hb : b' ≤ b) : w.ownsRow b' e size v n xs := ⟨h.1, h.2.imp id (fun ⟨g, cap, cur, q1, q2, q3⟩ => ⟨g, cap, cur, q1, Nat.le_trans hb q2, q3⟩)⟩
theorem grow_int {base : Nat} {wr W w' : World} {v v' : Value} {os : List Int} {u : Int} {o : Obj} (hown : wr.ownsRow base 3 1 v os.length (os.map mI)) (hbase : base ≤ wr.heap.size) (hP : Pushd wr W o)
    (h1 : w'.ownsRow base 3 1 v' (os.length + 1) (os.map mI ++ [.int .i64 u])) (hg : W.grownBy w' v.ownBlock) :
    w'.ownsRow base 3 1 v' (os ++ [u]).length ((os ++ [u]).map mI) ∧ Below base wr w' := by
  refine ⟨by rw [List.length_append, List.map_append]; exact h1, (hP.below.mono hbase).grown hg (by rw [hP.size]; omega) (fun k hk => (hown.lt k hk).1)⟩
def top (xs : List Int) : Nat → Int
  | 0 => -1
  | b + 1 => if top xs b < xs[b]?.getD 0 then xs[b]?.getD 0 else top xs b
structure TabOk (xs ys : List Int) (zs : List Bool) (nc : Int) : Prop where
  st : 1 ≤ zs.length ∧ zs.length ≤ 1024
  hn : 1 ≤ nc ∧ nc ≤ 256
  cl : xs.length = 256
  up : ∀ b : Nat, b < 256 → 0 ≤ xs[b]?.getD 0 ∧ xs[b]?.getD 0 ≤ top xs b + 1
  tp : top xs 256 = nc - 1
  nx : (ys.length : Int) = zs.length * nc
  to : ∀ i : Nat, i < ys.length → 0 ≤ ys[i]?.getD 0 ∧ ys[i]?.getD 0 < zs.length
theorem top_mono (xs : List Int) (a : Nat) : ∀ b : Nat, a ≤ b → top xs a ≤ top xs b := by
  intro b
  induction b with
  | zero => intro h; obtain rfl : a = 0 := by omega
            exact Int.le_refl _
  | succ b ih =>
    intro h
    by_cases e : a = b + 1
    · subst e; exact Int.le_refl _
    · have h1 := ih (by omega)
      simp only [top]
      split <;> omega
theorem top_ge (xs : List Int) (b : Nat) : xs[b]?.getD 0 ≤ top xs (b + 1) := by simp only [top]; split <;> omega
theorem TabOk.cls {xs ys : List Int} {zs : List Bool} {nc : Int} (h : TabOk xs ys zs nc) {b : Nat} (hb : b < 256) : 0 ≤ xs[b]?.getD 0 ∧ xs[b]?.getD 0 < nc := by
  have h1 := top_ge xs b
  have h2 := top_mono xs (b + 1) 256 (by omega)
  have h3 := h.tp
  have h4 := h.up b hb
  omega
def Unf (w : World) (b : Nat) : Prop := ∃ c t, w.heap[b]? = some (.cells c t (0, 0))
theorem Unf.same {w w' : World} {b : Nat} (h : Unf w b) (e : w'.heap[b]? = w.heap[b]?) : Unf w' b := by
  obtain ⟨c, t, hb⟩ := h
  exact ⟨c, t, e.trans hb⟩
def El4 (w : World) (b o : Nat) (x : El) (sv : Value) : Prop :=
  w.cell? ⟨b, o, none⟩ = some (.int .i64 x.kind) ∧ w.cell? ⟨b, o + 1, none⟩ = some sv ∧ w.cell? ⟨b, o + 2, none⟩ = some (.int .i64 x.mn) ∧ w.cell? ⟨b, o + 3, none⟩ = some (.int .i64 x.mx)
theorem El4.same {w w' : World} {b o : Nat} {x : El} {sv : Value} (h : El4 w b o x sv) (e : w'.heap[b]? = w.heap[b]?) : El4 w' b o x sv := by
  obtain ⟨h0, h1, h2, h3⟩ := h
  refine ⟨?_, ?_, ?_, ?_⟩ <;> rw [World.cell?_of_block (w := w) (by exact e)] <;> assumption
theorem El4.put {w : World} {b o o' : Nat} {x : El} {sv u : Value} (h : El4 w b o x sv) (hne : o' < o ∨ o + 3 < o') : El4 (w.setCell ⟨b, o', none⟩ u) b o x sv := by
  obtain ⟨h0, h1, h2, h3⟩ := h
  refine ⟨?_, ?_, ?_, ?_⟩ <;> rw [put_other (Or.inr (by omega))] <;> assumption
def ElsW (lo n : Nat) (w : World) (v : Value) (xs : List El) : Prop :=
  ∃ a cap, v = .slice a xs.length cap ∧ (xs.length ≤ cap ∧ cap ≤ maxLen) ∧ (0 < xs.length → ∃ (b off : Nat) (sv : Nat → Value) (sb : Nat → Nat), a = some ⟨b, off, none⟩ ∧ lo ≤ b ∧ b < n ∧ Unf w b ∧
    (∀ i : Nat, i < xs.length → El4 w b (off + i * 4) (xs[i]?.getD dE) (sv i)) ∧ (∀ i : Nat, i < xs.length → lo ≤ sb i ∧ sb i < n ∧ sb i ≠ b) ∧
    (∀ i j : Nat, i < xs.length → j < xs.length → i ≠ j → sb i ≠ sb j) ∧ ∀ i : Nat, i < xs.length → SlW mI 0 (sb i) (sb i + 1) w (sv i) (xs[i]?.getD dE).set)
theorem ElsW.same {lo n : Nat} {w w' : World} {v : Value} {xs : List El} (h : ElsW lo n w v xs) (hs : SameB lo n w w') : ElsW lo n w' v xs := by
  obtain ⟨a, cap, rfl, hl, hc⟩ := h
  refine ⟨a, cap, rfl, hl, fun hp => ?_⟩
  obtain ⟨b, off, sv, sb, e, h1, h2, h3, h4, h5, h6, h7⟩ := hc hp
  exact ⟨b, off, sv, sb, e, h1, h2, h3.same (hs b h1 h2), fun i hi => (h4 i hi).same (hs b h1 h2), h5, h6, fun i hi => (h7 i hi).same (fun k k1 k2 => hs k (by have := h5 i hi; omega) (by have := h5 i hi; omega))⟩
theorem ElsW.mono {lo n lo' n' : Nat} {w : World} {v : Value} {xs : List El} (h : ElsW lo n w v xs) (k1 : lo' ≤ lo) (k2 : n ≤ n') : ElsW lo' n' w v xs := by
  obtain ⟨a, cap, rfl, hl, hc⟩ := h
  refine ⟨a, cap, rfl, hl, fun hp => ?_⟩
  obtain ⟨b, off, sv, sb, e, h1, h2, h3, h4, h5, h6, h7⟩ := hc hp
  exact ⟨b, off, sv, sb, e, by omega, by omega, h3, h4, fun i hi => by have := h5 i hi; omega, h6, h7⟩
theorem ElsW.at {lo n : Nat} {w : World} {v : Value} {xs : List El} (h : ElsW lo n w v xs) (hr : ∀ i : Nat, i < xs.length → In64 (xs[i]?.getD dE).kind ∧ In64 (xs[i]?.getD dE).mn ∧ In64 (xs[i]?.getD dE).mx ∧ ∀ j : Nat, In64 ((xs[i]?.getD dE).set[j]?.getD 0)) : ElsAt lo n w v xs := by
  obtain ⟨a, cap, rfl, hl, hc⟩ := h
  refine ⟨a, cap, rfl, hl, fun hp => ?_⟩
  obtain ⟨b, off, sv, sb, e, h1, h2, h3, h4, h5, h6, h7⟩ := hc hp
  refine ⟨b, off, e, h1, h2, fun i hi => ?_⟩
  obtain ⟨r1, r2, r3, r4⟩ := hr i hi
  obtain ⟨q0, q1, q2, q3⟩ := h4 i hi
  refine ⟨r1, r2, r3, sv i, q0, q1, q2, q3, ?_⟩
  obtain ⟨a', cap', e', hl', hc'⟩ := h7 i hi
  refine ⟨a', cap', e', hl', r4, fun hp' => ?_⟩
  obtain ⟨b', off', e2, k1, k2, -, k4⟩ := hc' hp'
  exact ⟨b', off', e2, by have := h5 i hi; omega, by have := h5 i hi; omega, k4⟩
theorem ints_sl {lo n : Nat} {w : World} {v : Value} {xs : List Int} (h : IntsAt lo n w v xs) : SlAt mI 0 lo n w v xs := by
  obtain ⟨a, cap, rfl, hl, hr, hc⟩ := h
  exact ⟨a, cap, rfl, hl, hc⟩
theorem El4.putK {w : World} {b o : Nat} {x : El} {sv : Value} (h : El4 w b o x sv) (k : Int) : El4 (w.setCell ⟨b, o, none⟩ (.int .i64 k)) b o ⟨k, x.set, x.mn, x.mx⟩ sv := by
  obtain ⟨h0, h1, h2, h3⟩ := h
  exact ⟨put_same h0, by rw [put_other (Or.inr (by omega))]; exact h1, by rw [put_other (Or.inr (by omega))]; exact h2, by rw [put_other (Or.inr (by omega))]; exact h3⟩
theorem El4.putM {w : World} {b o : Nat} {x : El} {sv : Value} (h : El4 w b o x sv) (k : Int) : El4 (w.setCell ⟨b, o + 2, none⟩ (.int .i64 k)) b o ⟨x.kind, x.set, k, x.mx⟩ sv := by
  obtain ⟨h0, h1, h2, h3⟩ := h
  exact ⟨by rw [put_other (Or.inr (by omega))]; exact h0, by rw [put_other (Or.inr (by omega))]; exact h1, put_same h2, by rw [put_other (Or.inr (by omega))]; exact h3⟩
theorem El4.putX {w : World} {b o : Nat} {x : El} {sv : Value} (h : El4 w b o x sv) (k : Int) : El4 (w.setCell ⟨b, o + 3, none⟩ (.int .i64 k)) b o ⟨x.kind, x.set, x.mn, k⟩ sv := by
  obtain ⟨h0, h1, h2, h3⟩ := h
  exact ⟨by rw [put_other (Or.inr (by omega))]; exact h0, by rw [put_other (Or.inr (by omega))]; exact h1, by rw [put_other (Or.inr (by omega))]; exact h2, put_same h3⟩
theorem Unf.put {w : World} {b b' o : Nat} {u : Value} (h : Unf w b) : Unf (w.setCell ⟨b', o, none⟩ u) b := by
  by_cases e : b = b'
  · subst e; exact own_put h
  · exact h.same (Below.heap_setCell _ _ _ _ (by exact e))
def ElsF (S : Nat → Prop) (w : World) (v : Value) (xs : List El) : Prop :=
  ∃ a cap, v = .slice a xs.length cap ∧ (xs.length ≤ cap ∧ cap ≤ maxLen) ∧ (0 < xs.length → ∃ (b off : Nat) (sv : Nat → Value) (T : Nat → Nat → Prop), a = some ⟨b, off, none⟩ ∧ S b ∧ Free w b ∧
    (∀ i : Nat, i < xs.length → El4 w b (off + i * 4) (xs[i]?.getD dE) (sv i)) ∧ (∀ i : Nat, i < xs.length → SlF mI 0 (T i) w (sv i) (xs[i]?.getD dE).set) ∧
    (∀ i : Nat, i < xs.length → ∀ k, T i k → S k ∧ k ≠ b) ∧ ∀ i j : Nat, i < xs.length → j < xs.length → i ≠ j → ∀ k, T i k → ¬ T j k)
theorem ElsW.foot {lo n : Nat} {w : World} {v : Value} {xs : List El} (h : ElsW lo n w v xs) : ElsF (Rng lo n) w v xs := by
  obtain ⟨a, cap, rfl, hl, hc⟩ := h
  refine ⟨a, cap, rfl, hl, fun hp => ?_⟩
  obtain ⟨b, off, sv, sb, e, h1, h2, h3, h4, h5, h6, h7⟩ := hc hp
  exact ⟨b, off, sv, fun i => Rng (sb i) (sb i + 1), e, ⟨h1, h2⟩, h3, h4, fun i hi => (h7 i hi).foot, fun i hi k hk => by have := h5 i hi; unfold Rng at *; omega,
    fun i j hi hj hne k hk hk' => by have := h6 i j hi hj hne; unfold Rng at *; omega⟩
theorem ElsF.same {S : Nat → Prop} {w w' : World} {v : Value} {xs : List El} (h : ElsF S w v xs) (hs : ∀ k, S k → w'.heap[k]? = w.heap[k]?) : ElsF S w' v xs := by
  obtain ⟨a, cap, rfl, hl, hc⟩ := h
  refine ⟨a, cap, rfl, hl, fun hp => ?_⟩
  obtain ⟨b, off, sv, T, e, h1, h2, h3, h4, h5, h6⟩ := hc hp
  exact ⟨b, off, sv, T, e, h1, h2.same (hs b h1), fun i hi => (h3 i hi).same (hs b h1), fun i hi => (h4 i hi).same (fun k hk => hs k (h5 i hi k hk).1), h5, h6⟩
theorem ElsF.mono {S S' : Nat → Prop} {w : World} {v : Value} {xs : List El} (h : ElsF S w v xs) (hs : ∀ k, S k → S' k) : ElsF S' w v xs := by
  obtain ⟨a, cap, rfl, hl, hc⟩ := h
  refine ⟨a, cap, rfl, hl, fun hp => ?_⟩
  obtain ⟨b, off, sv, T, e, h1, h2, h3, h4, h5, h6⟩ := hc hp
  exact ⟨b, off, sv, T, e, hs b h1, h2, h3, h4, fun i hi k hk => ⟨hs k (h5 i hi k hk).1, (h5 i hi k hk).2⟩, h6⟩
def Num (xs : List El) : Prop := ∀ i : Nat, In64 (xs[i]?.getD dE).kind ∧ In64 (xs[i]?.getD dE).mn ∧ In64 (xs[i]?.getD dE).mx ∧ ∀ j : Nat, In64 ((xs[i]?.getD dE).set[j]?.getD 0)
theorem ElsF.at {S : Nat → Prop} {N : Nat} {w : World} {v : Value} {xs : List El} (h : ElsF S w v xs) (hs : ∀ k, S k → k < N) (hr : Num xs) : ElsAt 0 N w v xs := by
  obtain ⟨a, cap, rfl, hl, hc⟩ := h
  refine ⟨a, cap, rfl, hl, fun hp => ?_⟩
  obtain ⟨b, off, sv, T, e, h1, h2, h3, h4, h5, h6⟩ := hc hp
  refine ⟨b, off, e, Nat.zero_le _, hs b h1, fun i hi => ?_⟩
  obtain ⟨r1, r2, r3, r4⟩ := hr i
  obtain ⟨q0, q1, q2, q3⟩ := h3 i hi
  refine ⟨r1, r2, r3, sv i, q0, q1, q2, q3, ?_⟩
  obtain ⟨a', cap', e', hl', hc'⟩ := (h4 i hi).at (N := N) (fun k hk => hs k (h5 i hi k hk).1)
  refine ⟨a', cap', e', hl', r4, fun hp' => ?_⟩
  obtain ⟨b', off', e2, k1, k2, k4⟩ := hc' hp'
  exact ⟨b', off', e2, k1, k2, k4⟩
structure Pc where
  x : El
  s : Value
  T : Nat → Prop
def cell4 (x : El) (s : Value) : List Value := [.int .i64 x.kind, s, .int .i64 x.mn, .int .i64 x.mx]
def cellsP : List Pc → List Value
  | [] => []
  | p :: r => cell4 p.x p.s ++ cellsP r
theorem cellsP_append (a b : List Pc) : cellsP (a ++ b) = cellsP a ++ cellsP b := by
  induction a with
  | nil => rfl
  | cons p r ih => simp [cellsP, ih]
theorem cellsP_len (a : List Pc) : (cellsP a).length = a.length * 4 := by
  induction a with
  | nil => rfl
  | cons p r ih => simp [cellsP, ih, cell4]; omega
theorem cellsP_get (a : List Pc) (i : Nat) (p : Pc) (h : a[i]? = some p) (j : Nat) (hj : j < 4) : (cellsP a)[i * 4 + j]? = (cell4 p.x p.s)[j]? := by
  induction a generalizing i with
  | nil => simp at h
  | cons q r ih =>
    cases i with
    | zero =>
      simp at h
      subst h
      rw [cellsP, List.getElem?_append_left (by simp [cell4]; omega)]
      simp
    | succ i =>
      rw [cellsP, List.getElem?_append_right (by simp [cell4]; omega), show (i + 1) * 4 + j - (cell4 q.x q.s).length = i * 4 + j by simp [cell4]; omega]
      exact ih i (by simpa using h)
theorem cellsP_one (a : List Pc) (hs : ∀ p ∈ a, p.s.oneCell' = true) : ∀ u ∈ cellsP a, u.oneCell' = true := by
  induction a with
  | nil => intro u hu; simp [cellsP] at hu
  | cons p r ih =>
    intro u hu
    simp only [cellsP, cell4, List.mem_append, List.mem_cons, List.not_mem_nil, or_false] at hu
    rcases hu with (rfl | rfl | rfl | rfl) | hu
    · rfl
    · exact hs p (by simp)
    · rfl
    · rfl
    · exact ih (fun q hq => hs q (by simp [hq])) u hu
def Apart (ps : List Pc) : Prop := ps.Pairwise (fun p q => ∀ k, p.T k → ¬ q.T k)
structure GrowP (base : Nat) (w : World) (v : Value) (ps : List Pc) : Prop where
  own : w.ownsRow base 114 4 v ps.length (cellsP ps)
  set : ∀ p ∈ ps, SlF mI 0 p.T w p.s p.x.set
  blk : ∀ p ∈ ps, ∀ k, p.T k → base ≤ k ∧ k < w.heap.size ∧ v.ownBlock ≠ some k
  dis : Apart ps
def GrowE (base : Nat) (w : World) (v : Value) (xs : List El) : Prop := ∃ ps : List Pc, ps.map Pc.x = xs ∧ GrowP base w v ps
theorem GrowE.nil (base : Nat) (w : World) : GrowE base w (.slice none 0 0) [] := ⟨[], rfl, World.ownsRow_nil _ _ _ _, by simp, by simp, List.Pairwise.nil⟩
theorem GrowP.keep {base m : Nat} {w w' : World} {v : Value} {ps : List Pc} (h : GrowP base w v ps) (hb : Below m w w') (hm : w.heap.size ≤ m) : GrowP base w' v ps :=
  ⟨h.own.kept (show w.grownBy w' none from ⟨hb.os, hb.tape, hb.output, hb.size, fun k hk _ => hb.block k (by omega)⟩) (by cases v.ownBlock <;> simp),
   fun p hp => (h.set p hp).same (fun k hk => hb.block k (by have := (h.blk p hp k hk).2.1; omega)), fun p hp k hk => by have h1 := h.blk p hp k hk; have h2 := hb.size; exact ⟨h1.1, by omega, h1.2.2⟩, h.dis⟩
theorem GrowE.keep {base m : Nat} {w w' : World} {v : Value} {xs : List El} (h : GrowE base w v xs) (hb : Below m w w') (hm : w.heap.size ≤ m) : GrowE base w' v xs := by
  obtain ⟨ps, e, h1⟩ := h
  exact ⟨ps, e, h1.keep hb hm⟩
theorem GrowP.app {base : Nat} {w0 w w' : World} {v v' : Value} {ps qs : List Pc} (h : GrowP base w0 v ps) (hbase : base ≤ w0.heap.size) (hb : Below w0.heap.size w0 w) (hq : ∀ p ∈ qs, SlF mI 0 p.T w p.s p.x.set) (hT : ∀ p ∈ qs, ∀ k, p.T k → w0.heap.size ≤ k ∧ k < w.heap.size) (hd : Apart qs)
    (h1 : w'.ownsRow base 114 4 v' (ps.length + qs.length) (cellsP ps ++ cellsP qs)) (hg : w.grownBy w' v.ownBlock) (ho : v'.ownBlock = v.ownBlock ∨ v'.ownBlock = some w.heap.size) : GrowP base w' v' (ps ++ qs) := by
  have hs := hb.size
  have hgz : w.heap.size ≤ w'.heap.size := hg.size
  have hvb : ∀ k, w0.heap.size ≤ k → v.ownBlock ≠ some k := fun k hk e => by have := (h.own.lt k e).2; omega
  have hv'b : ∀ k, k < w.heap.size → v.ownBlock ≠ some k → v'.ownBlock ≠ some k := fun k hk hne e => by
    rcases ho with ho | ho
    · exact hne (by rw [← ho, e])
    · rw [ho] at e; simp at e; omega
  have hblk : ∀ k, k < w.heap.size → v.ownBlock ≠ some k → w'.heap[k]? = w.heap[k]? := fun k hk hne => hg.block k hk (fun e => hne e.symm)
  refine ⟨by rw [List.length_append, cellsP_append]; exact h1, fun p hp => ?_, fun p hp k hk => ?_, List.pairwise_append.2 ⟨h.dis, hd, fun p hp q hq2 k hk hk' => ?_⟩⟩
  · rcases List.mem_append.1 hp with hp | hp
    · refine ((h.set p hp).same (w' := w) (fun k hk => hb.block k (h.blk p hp k hk).2.1)).same (fun k hk => ?_)
      have := h.blk p hp k hk
      exact hblk k (by omega) this.2.2
    · exact (hq p hp).same (fun k hk => hblk k (hT p hp k hk).2 (hvb k (hT p hp k hk).1))
  · rcases List.mem_append.1 hp with hp | hp
    · have := h.blk p hp k hk
      exact ⟨this.1, by omega, hv'b k (by omega) this.2.2⟩
    · have := hT p hp k hk
      exact ⟨by omega, by omega, hv'b k this.2 (hvb k this.1)⟩
  · have h3 := h.blk p hp k hk
    have h4 := hT q hq2 k hk'
    omega
theorem GrowP.foot {base : Nat} {w : World} {v : Value} {ps : List Pc} (h : GrowP base w v ps) : ElsF (Rng base w.heap.size) w v (ps.map Pc.x) := by
  rcases h.own.2 with ⟨rfl, hz⟩ | ⟨g, cap, cur, rfl, hbg, hgc, hnc, hcm, hcs, htake⟩
  · obtain rfl : ps = [] := List.eq_nil_of_length_eq_zero hz
    exact ⟨none, 0, rfl, ⟨Nat.le_refl _, by unfold maxLen; omega⟩, fun hp => absurd hp (by simp)⟩
  · have hlt := (h.own.lt g rfl).2
    refine ⟨_, cap, by simp, ⟨by simpa using hnc, hcm⟩, fun _ => ⟨g, 0, fun i => (ps[i]?.map Pc.s).getD undef, fun i k => ∃ p, ps[i]? = some p ∧ p.T k, rfl, ⟨hbg, hlt⟩, ⟨cur, _, hgc⟩, fun i hi => ?_, fun i hi => ?_, fun i hi k hk => ?_, fun i j hi hj hne k hk hk' => ?_⟩⟩
    · rw [List.length_map] at hi
      have hp : ps[i]? = some ps[i] := List.getElem?_eq_getElem hi
      have e : (ps.map Pc.x)[i]?.getD dE = ps[i].x := by rw [List.getElem?_map, hp]; rfl
      simp only [hp, Option.map_some, Option.getD_some, e, Nat.zero_add]
      have hc : ∀ j, j < 4 → w.cell? ⟨g, i * 4 + j, none⟩ = (cell4 ps[i].x ps[i].s)[j]? := fun j hj => by
        rw [h.own.cellAt (i * 4 + j) (by omega)]; exact cellsP_get ps i _ hp j hj
      exact ⟨hc 0 (by omega), hc 1 (by omega), hc 2 (by omega), hc 3 (by omega)⟩
    · rw [List.length_map] at hi
      have hp : ps[i]? = some ps[i] := List.getElem?_eq_getElem hi
      have e : (ps.map Pc.x)[i]?.getD dE = ps[i].x := by rw [List.getElem?_map, hp]; rfl
      simp only [hp, Option.map_some, Option.getD_some, e]
      exact (h.set _ (List.getElem_mem hi)).mono (fun k hk => ⟨_, rfl, hk⟩)
    · obtain ⟨p, hp, hk⟩ := hk
      have hm := List.mem_of_getElem? hp
      have := h.blk p hm k hk
      exact ⟨⟨this.1, this.2.1⟩, fun e => this.2.2 (by rw [e]; rfl)⟩
    · obtain ⟨p, hp, hk⟩ := hk
      obtain ⟨q, hq, hk'⟩ := hk'
      rw [List.length_map] at hi hj
      rw [List.getElem?_eq_getElem hi] at hp
      rw [List.getElem?_eq_getElem hj] at hq
      simp only [Option.some.injEq] at hp hq
      subst hp hq
      rcases Nat.lt_or_gt_of_ne hne with hlt | hgt
      · exact List.pairwise_iff_getElem.1 h.dis i j hi hj hlt k hk hk'
      · exact List.pairwise_iff_getElem.1 h.dis j i hj hi hgt k hk' hk
theorem GrowE.foot {base : Nat} {w : World} {v : Value} {xs : List El} (h : GrowE base w v xs) : ElsF (Rng base w.heap.size) w v xs := by
  obtain ⟨ps, rfl, h1⟩ := h
  exact h1.foot
theorem GrowE.base {base base' : Nat} {w : World} {v : Value} {xs : List El} (h : GrowE base w v xs) (hb : base' ≤ base) : GrowE base' w v xs := by
  obtain ⟨ps, e, h1⟩ := h
  refine ⟨ps, e, ⟨h1.own.1, h1.own.2.imp id (fun ⟨g, cap, cur, q1, q2, q3⟩ => ⟨g, cap, cur, q1, by omega, q3⟩)⟩, h1.set, fun p hp k hk => ⟨by have := (h1.blk p hp k hk).1; omega, (h1.blk p hp k hk).2⟩, h1.dis⟩
theorem GrowE.form {base : Nat} {w : World} {v : Value} {xs : List El} (h : GrowE base w v xs) : ∃ a c, v = .slice a xs.length c := by
  obtain ⟨ps, rfl, h1⟩ := h
  rcases h1.own.2 with ⟨rfl, hz⟩ | ⟨g, cap, cur, rfl, -⟩
  · exact ⟨none, 0, by rw [List.length_map, hz]⟩
  · exact ⟨_, cap, by rw [List.length_map]⟩
end Go.Proofs.YtinhliecfjlocaaGreat
