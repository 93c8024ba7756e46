import Derived.Test.YthgnefdefjannaaGreatSt1
import Derived.Test.YthgnefdefjannaaGreatP9
import Derived.Maps.AppendAt
namespace Go.Proofs.YthgnefdefjannaaGreat
open Go.RowKit

/-- A segment that can be read, in blocks from l on and below h. -/
def SegA (l h : Nat) (w : World) (v : Value) (g : Sg) : Prop := ∃ lv kv pv, v = .agg #[.int .i64 g.b, lv, kv, pv] ∧ SsF mB 0 (Rng l h) w lv g.xs ∧ SlF mI 0 (Rng l h) w kv g.ks ∧ SsF mI 0 (Rng l h) w pv g.pss
theorem SegF.a {lo hi : Nat} {w : World} {v : Value} {b : Int} {xs pss : List (List Int)} {ks : List Int} (h : SegF lo hi w v b xs ks pss) : SegA lo hi w v ⟨b, xs, ks, pss⟩ := by
  obtain ⟨lv, kv, pv, S1, S2, S3, e, h1, h2, h3, h4, -⟩ := h
  exact ⟨lv, kv, pv, e, h1.mono (fun k hk => h4 k (Or.inl hk)), h2.mono (fun k hk => h4 k (Or.inr (Or.inl hk))), h3.mono (fun k hk => h4 k (Or.inr (Or.inr hk)))⟩
theorem SegAt.a {lo : Nat} {w : World} {v : Value} {b : Int} {xs pss : List (List Int)} {ks : List Int} (h : SegAt lo w v b xs ks pss) : SegA lo w.heap.size w v ⟨b, xs, ks, pss⟩ := by
  obtain ⟨lv, kv, pv, e, h1, h2, h3⟩ := h
  exact ⟨lv, kv, pv, e, h1, h2.foot, h3⟩
theorem SegA.same {l h : Nat} {w w' : World} {v : Value} {g : Sg} (H : SegA l h w v g) (hs : ∀ k, l ≤ k → k < h → w'.heap[k]? = w.heap[k]?) : SegA l h w' v g := by
  obtain ⟨lv, kv, pv, e, h1, h2, h3⟩ := H
  exact ⟨lv, kv, pv, e, h1.same (fun k hk => hs k hk.1 hk.2), h2.same (fun k hk => hs k hk.1 hk.2), h3.same (fun k hk => hs k hk.1 hk.2)⟩
theorem SegA.rd {l h : Nat} {w : World} {v : Value} {g : Sg} (H : SegA l h w v g) (hh : h ≤ w.heap.size) : SegRd w v g.b g.xs g.ks g.pss := by
  obtain ⟨lv, kv, pv, e, h1, h2, h3⟩ := H
  exact ⟨lv, kv, pv, e, h1.at (fun k hk => Nat.lt_of_lt_of_le hk.2 hh), h2.at (fun k hk => Nat.lt_of_lt_of_le hk.2 hh), h3.at (fun k hk => Nat.lt_of_lt_of_le hk.2 hh)⟩

/-- A segment, its values and where they lie. -/
structure Sv where
  lv : Value
  kv : Value
  pv : Value
  g : Sg
  l : Nat
  h : Nat
def Sv.v (s : Sv) : Value := .agg #[.int .i64 s.g.b, s.lv, s.kv, s.pv]
def cell4v (s : Sv) : List Value := [.int .i64 s.g.b, s.lv, s.kv, s.pv]
def cellsV : List Sv → List Value
  | [] => []
  | s :: r => cell4v s ++ cellsV r
theorem cellsV_append (a b : List Sv) : cellsV (a ++ b) = cellsV a ++ cellsV b := by
  induction a with
  | nil => rfl
  | cons p r ih => simp [cellsV, ih]
theorem cellsV_len (a : List Sv) : (cellsV a).length = a.length * 4 := by
  induction a with
  | nil => rfl
  | cons p r ih => simp [cellsV, ih, cell4v]; omega
theorem cellsV_get (a : List Sv) (i : Nat) (p : Sv) (h : a[i]? = some p) (j : Nat) (hj : j < 4) : (cellsV a)[i * 4 + j]? = (cell4v p)[j]? := by
  induction a generalizing i with
  | nil => simp at h
  | cons q r ih =>
    cases i with
    | zero =>
      simp at h
      subst h
      rw [cellsV, List.getElem?_append_left (by simp [cell4v]; omega)]
      simp
    | succ i =>
      rw [cellsV, List.getElem?_append_right (by simp [cell4v]; omega), show (i + 1) * 4 + j - (cell4v q).length = i * 4 + j by simp [cell4v]; omega]
      exact ih i (by simpa using h)

/-- v is a row of its own, from block base on, of these segments. -/
structure SgRow (base : Nat) (w : World) (v : Value) (ss : List Sv) : Prop where
  own : w.ownsRow base 59 4 v ss.length (cellsV ss)
  seg : ∀ s ∈ ss, SegA s.l s.h w s.v s.g
  blk : ∀ s ∈ ss, base ≤ s.l ∧ s.h ≤ w.heap.size ∧ ∀ q, v.ownBlock = some q → q < s.l ∨ s.h ≤ q
theorem SgRow.nil (base : Nat) (w : World) : SgRow base w (.slice none 0 0) [] := ⟨World.ownsRow_nil _ _ _ _, by simp, by simp⟩
theorem SgRow.mv {base lo D : Nat} {w w' : World} {v : Value} {ss : List Sv} (h : SgRow base w v ss) (hb : Mv lo D w w') (hm : w.heap.size ≤ lo) (hD : D < base ∨ w.heap.size ≤ D) : SgRow base w' v ss := by
  refine ⟨?_, fun s hs => (h.seg s hs).same (fun k k1 k2 => hb.block k ?_ ?_), fun s hs => ?_⟩
  · refine ⟨h.own.1, ?_⟩
    rcases h.own.2 with h2 | ⟨g, cap, cur, h1, h2, h3, h4⟩
    · exact Or.inl h2
    · have hg : g < w.heap.size := by
        by_cases q : g < w.heap.size
        · exact q
        · rw [Array.getElem?_eq_none (by omega)] at h3; cases h3
      exact Or.inr ⟨g, cap, cur, h1, h2, (hb.block g (by omega) (by omega)).trans h3, h4⟩
  · have := h.blk s hs; omega
  · have := h.blk s hs; omega
  · have h1 := h.blk s hs
    have h2 := hb.size
    exact ⟨h1.1, by omega, h1.2.2⟩
theorem SgRow.keep {base m : Nat} {w w' : World} {v : Value} {ss : List Sv} (h : SgRow base w v ss) (hb : Below m w w') (hm : w.heap.size ≤ m) : SgRow base w' v ss := h.mv (Below.mv hb m) hm (Or.inr hm)
theorem SgRow.put {base B o : Nat} {w : World} {v u : Value} {ss : List Sv} (h : SgRow base w v ss) (hB : B < base) : SgRow base (w.setCell ⟨B, o, none⟩ u) v ss :=
  h.mv (lo := w.heap.size) (D := B) ⟨rfl, rfl, rfl, by simp [World.setCell], fun k _ hk => Below.heap_setCell _ _ _ _ (by exact hk)⟩ (Nat.le_refl _) (Or.inl hB)
theorem Row4.of_block {w w' : World} {b : Nat} {t : TypeId} {c0 c1 c2 c3 : Value} (h : Row4 w b t c0 c1 c2 c3) (e : w'.heap[b]? = w.heap[b]?) : Row4 w' b t c0 c1 c2 c3 := World.rowIs.of_block h e
theorem SgRow.drew {base : Nat} {w : World} {v : Value} {ss : List Sv} (h : SgRow base w v ss) : SgRow base w.drew v ss := h.keep ((Below.refl w.heap.size w).drew) (Nat.le_refl _)
theorem SgRow.base {base base' : Nat} {w : World} {v : Value} {ss : List Sv} (h : SgRow base w v ss) (hb : base' ≤ base) : SgRow base' w v ss :=
  ⟨⟨h.own.1, h.own.2.imp id (fun ⟨g, cap, cur, q1, q2, q3⟩ => ⟨g, cap, cur, q1, by omega, q3⟩)⟩, h.seg, fun s hs => ⟨by have := (h.blk s hs).1; omega, (h.blk s hs).2⟩⟩
theorem SgRow.form {base : Nat} {w : World} {v : Value} {ss : List Sv} (h : SgRow base w v ss) : ∃ a c, v = .slice a ss.length c := by
  rcases h.own.2 with ⟨rfl, hz⟩ | ⟨g, cap, cur, rfl, -⟩
  · exact ⟨none, 0, by rw [hz]⟩
  · exact ⟨_, cap, rfl⟩

/-- What an append of one segment leaves. -/
theorem SgRow.app {base D : Nat} {w0 w w' : World} {v v' : Value} {ss : List Sv} {s : Sv} (h : SgRow base w0 v ss) (hbase : base ≤ w0.heap.size) (hb : Mv w0.heap.size D w0 w) (hD : D < base ∨ w0.heap.size ≤ D) (hq : SegA s.l s.h w s.v s.g) (hl : w0.heap.size ≤ s.l) (hh : s.h ≤ w.heap.size)
    (h1 : w'.ownsRow base 59 4 v' (ss.length + 1) (cellsV ss ++ cell4v s)) (hg : w.grownBy w' v.ownBlock) (ho : v'.ownBlock = v.ownBlock ∨ v'.ownBlock = some w.heap.size) : SgRow base w' v' (ss ++ [s]) := by
  have hs := hb.size
  have hgz : w.heap.size ≤ w'.heap.size := hg.size
  have hvb : ∀ k, w0.heap.size ≤ k → v.ownBlock ≠ some k := fun k hk e => by have := (h.own.lt k e).2; omega
  have hblk : ∀ k, k < w.heap.size → v.ownBlock ≠ some k → w'.heap[k]? = w.heap[k]? := fun k hk hne => hg.block k hk (fun e => hne e.symm)
  have hM := h.mv hb (Nat.le_refl _) hD
  refine ⟨by rw [List.length_append, cellsV_append]; simpa [cellsV] using h1, fun p hp => ?_, fun p hp => ?_⟩
  · rcases List.mem_append.1 hp with hp | hp
    · have hbp := hM.blk p hp
      exact (hM.seg p hp).same (fun k k1 k2 => hblk k (by omega) (fun e => by have := hbp.2.2 k e; omega))
    · rw [List.mem_singleton] at hp
      subst hp
      exact hq.same (fun k k1 k2 => hblk k (by omega) (hvb k (by omega)))
  · rcases List.mem_append.1 hp with hp | hp
    · have hbp := hM.blk p hp
      refine ⟨hbp.1, by omega, fun q e => ?_⟩
      rcases ho with ho | ho
      · exact hbp.2.2 q (by rw [← ho, e])
      · rw [ho] at e
        simp only [Option.some.injEq] at e
        omega
    · rw [List.mem_singleton] at hp
      subst hp
      refine ⟨by omega, by omega, fun q e => ?_⟩
      rcases ho with ho | ho
      · rw [ho] at e
        have := (h.own.lt q e).2
        omega
      · rw [ho] at e
        simp only [Option.some.injEq] at e
        omega

/-- The block of v' is that of v, or new since w. -/
def OwnS (w : World) (v v' : Value) : Prop := v'.ownBlock = v.ownBlock ∨ ∃ k, w.heap.size ≤ k ∧ v'.ownBlock = some k
theorem Tryz.zinSeg : (Tryz.prog.info? 59).map (fun i => (i.zero, i.size, i.bytes)) = some (some (.agg #[.int .i64 0, .slice none 0 0, .slice none 0 0, .slice none 0 0]), 4, 80) := by kernel_rfl

/-- One segment more. -/
theorem app_sg {base D : Nat} {wr w1 W : World} {ops : Array Oper} {rest : List Oper} {o : Oper} {a : Act} {Q : Exit → Act → World → Prop} {v : Value} {ss : List Sv} (t : Sv) (hgd : o.guard = none) (s y : Operand)
    (ho : o.op = .call { callee := .builtin .append, args := #[s, y], argTypes := #[42, 42] }) (hs : a.eval s = v) (N : Nat) (hN : w1.heap.size = N) (hy : a.eval y = .slice (some ⟨N, 0, none⟩) 1 1)
    (h : SgRow base wr v ss) (hbase : base ≤ wr.heap.size) (hb : Mv wr.heap.size D wr w1) (hD : D < base ∨ wr.heap.size ≤ D) (hseg : SegA t.l t.h w1 t.v t.g) (hl : wr.heap.size ≤ t.l) (hh : t.h ≤ w1.heap.size) (h1c : t.lv.oneCell' = true ∧ t.kv.oneCell' = true ∧ t.pv.oneCell' = true)
    (hP : Pushd w1 W (.cells #[.int .i64 t.g.b, t.lv, t.kv, t.pv] 59)) (hlen : ss.length ≤ 1048576)
    (K : ∀ v' w', SgRow base w' v' (ss ++ [t]) → w1.grownBy w' v.ownBlock → OwnS wr v v' → wpList Tryz.prog ops Q rest (a.put o.dst v') w') : wpList Tryz.prog ops Q (o :: rest) a W := by
  subst hN
  obtain ⟨j0, hj, hy0, hy1, hy2⟩ := info_parts Tryz.zinSeg
  have hM := h.mv hb (Nat.le_refl _) hD
  have hown := hP.own hM.own
  have hPb : Mv wr.heap.size D w1 W := Below.mv (hP.below.mono hb.size) D
  have hz := hb.size
  refine wpList_append_own_at W hgd s y 42 ho base 59 j0 (.agg #[.int .i64 0, .slice none 0 0, .slice none 0 0, .slice none 0 0]) 4 80 Tryz.underlying42 hj hy0 hy1 hy2 rfl (by decide) v ss.length (cellsV ss) hs hown ⟨w1.heap.size, 0, none⟩ 1 1 (cell4v t) hy rfl ?_ ?_ ?_ ?_ ?_ ?_
  · exact Pushd.news hP
  · intro u hu
    simp only [cell4v, List.mem_cons, List.not_mem_nil, or_false] at hu
    rcases hu with rfl | rfl | rfl | rfl
    · rfl
    · exact h1c.1
    · exact h1c.2.1
    · exact h1c.2.2
  · unfold maxLen; omega
  · omega
  · have := hP.size; omega
  · intro v' w' q1 q2 _ q3
    have hsz := hP.size
    refine K v' w' (h.app hbase (hb.trans hPb) hD (hseg.same (fun k k1 k2 => hP.old (by omega))) hl (by omega) q1 q2 q3) ⟨q2.os.trans hP.below.os, q2.tape.trans hP.below.tape, q2.output.trans hP.below.output, by have := q2.size; omega, fun k hk hne => (q2.block k (by omega) hne).trans (hP.old hk)⟩ (q3.imp id (fun e => ⟨_, by omega, e⟩))

end Go.Proofs.YthgnefdefjannaaGreat
