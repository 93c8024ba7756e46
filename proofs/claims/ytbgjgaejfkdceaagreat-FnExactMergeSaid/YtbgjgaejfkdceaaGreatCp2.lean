import Derived.Test.YtbgjgaejfkdceaaGreatCp1
namespace Go.Proofs.YtbgjgaejfkdceaaGreat
open Go.RowKit

theorem splc_at (p q cs : List Value) : splc (p ++ q) p.length cs = p ++ (cs ++ q.drop cs.length) := by
  unfold splc
  rw [List.take_left', List.drop_append]
  · rw [List.drop_eq_nil_of_le (by omega), show p.length + cs.length - p.length = cs.length by omega, List.nil_append]
  · rfl
theorem only_setRow {w : World} {g : Nat} (cs : Array Value) : Only g w (w.setRow g cs) := ⟨rfl, rfl, rfl, by simp [World.setRow], fun k hk => setRow_other w g k cs hk⟩

/-- A row of segments, all its cells told. -/
theorem SgRow.cells {base : Nat} {w : World} {v : Value} {ss : List Sv} (h : SgRow base w v ss) (hp : 0 < ss.length) : ∃ g cap R, v = .slice (some ⟨g, 0, none⟩) ss.length cap ∧ base ≤ g ∧ w.heap[g]? = some (.cells (cellsV ss ++ R).toArray 56 (0, 0)) ∧ ss.length ≤ cap ∧ cap ≤ maxLen ∧ (cellsV ss ++ R).length = cap * 4 := by
  rcases h.own.2 with ⟨rfl, hz⟩ | ⟨g, cap, cur, rfl, hbg, hgc, hnc, hcm, hcs, htake⟩
  · omega
  · refine ⟨g, cap, cur.toList.drop (ss.length * 4), rfl, hbg, ?_, hnc, hcm, ?_⟩
    · rw [hgc]
      congr 2
      rw [← htake, List.take_append_drop]
    · rw [← htake, List.take_append_drop, Array.length_toList]
      exact hcs
theorem SgRow.ofCells {base g cap : Nat} {w : World} {ss : List Sv} {R : List Value} (hbg : base ≤ g) (hg : w.heap[g]? = some (.cells (cellsV ss ++ R).toArray 56 (0, 0))) (hn : ss.length ≤ cap) (hm : cap ≤ maxLen) (hl : (cellsV ss ++ R).length = cap * 4)
    (hs : ∀ s ∈ ss, SegA s.l s.h w s.v s.g) (hb : ∀ s ∈ ss, base ≤ s.l ∧ s.h ≤ w.heap.size ∧ (g < s.l ∨ s.h ≤ g)) : SgRow base w (.slice (some ⟨g, 0, none⟩) ss.length cap) ss := by
  refine ⟨⟨cellsV_len ss, Or.inr ⟨g, cap, (cellsV ss ++ R).toArray, rfl, hbg, hg, hn, hm, by simpa using hl, ?_⟩⟩, hs, fun s hs' => ⟨(hb s hs').1, (hb s hs').2.1, fun q e => ?_⟩⟩
  · rw [List.toList_toArray, ← cellsV_len, List.take_left']
    rfl
  · simp only [Value.ownBlock, Option.some.injEq] at e
    subst e
    exact (hb s hs').2.2

theorem wpList_copyG {P : Program} {w : World} {ops : Array Oper} {rest : List Oper} {o : Oper} {a : Act} {Q : Exit → Act → World → Prop} (hgd : o.guard = none) (d s : Operand) (dT sT : TypeId)
    (ho : o.op = .call { callee := .builtin .copy, args := #[d, s], argTypes := #[dT, sT] }) (elem : TypeId) (hu : P.underlying dT = some (.slice elem)) (hsz : (P.info? elem).map (fun i => i.size) = some 4)
    (g off dLen dCap : Nat) (ad : Addr) (sLen sCap m : Nat) (hd : a.eval d = .slice (some ⟨g, off, none⟩) dLen dCap) (hs : a.eval s = .slice (some ad) sLen sCap)
    (cur : List Value) (t : TypeId) (hg : w.heap[g]? = some (.cells cur.toArray t (0, 0))) (cs : List Value) (hm : Nat.min sLen dLen = m) (hn : cs.length = m * 4)
    (hsrc : ∀ j v, cs[j]? = some v → w.cell? (ad.add j) = some v) (hfit : off + cs.length ≤ cur.length) (h1 : ∀ v ∈ cs, v.oneCell' = true)
    (h : ∀ w', w'.heap[g]? = some (.cells (splc cur off cs).toArray t (0, 0)) → Only g w w' → wpList P ops Q rest (a.put o.dst (goInt m)) w') : wpList P ops Q (o :: rest) a w :=
  wpList_copy4 hgd d s dT sT ho elem hu hsz g off dLen dCap ad sLen sCap m hd hs cur t hg cs hm hn hsrc hfit h1 (h _ (setRow_heap w g _ _ t _ hg) (only_setRow _))
theorem step_copyG {P : Program} {ops : Array Oper} {o : Oper} {a : Act} {w : World} {K : Act → World → Prop} {Q : Exit → Act → World → Prop} {E : Prop} (hgd : o.guard = none) (d s : Operand) (dT sT : TypeId)
    (ho : o.op = .call { callee := .builtin .copy, args := #[d, s], argTypes := #[dT, sT] }) (elem : TypeId) (hu : P.underlying dT = some (.slice elem)) (hsz : (P.info? elem).map (fun i => i.size) = some 4)
    (g off dLen dCap : Nat) (ad : Addr) (sLen sCap m : Nat) (hd : a.eval d = .slice (some ⟨g, off, none⟩) dLen dCap) (hs : a.eval s = .slice (some ad) sLen sCap)
    (cur : List Value) (t : TypeId) (hg : w.heap[g]? = some (.cells cur.toArray t (0, 0))) (cs : List Value) (hm : Nat.min sLen dLen = m) (hn : cs.length = m * 4)
    (hsrc : ∀ j v, cs[j]? = some v → w.cell? (ad.add j) = some v) (hfit : off + cs.length ≤ cur.length) (h1 : ∀ v ∈ cs, v.oneCell' = true)
    (h : ∀ w', w'.heap[g]? = some (.cells (splc cur off cs).toArray t (0, 0)) → Only g w w' → K (a.put o.dst (goInt m)) w') :
    if Region.wanted o (yielded ops a.tmps) = true then Oper.wp P o a w K Q else E :=
  step_copy4 hgd d s dT sT ho elem hu hsz g off dLen dCap ad sLen sCap m hd hs cur t hg cs hm hn hsrc hfit h1 (fun w' e => by subst e; exact h _ (setRow_heap w g _ _ t _ hg) (only_setRow _))

theorem wpList_clearG {P : Program} {w : World} {ops : Array Oper} {rest : List Oper} {o : Oper} {a : Act} {Q : Exit → Act → World → Prop} (hgd : o.guard = none) (x : Operand) (t e : TypeId)
    (ho : o.op = .call { callee := .builtin .clear, args := #[x], argTypes := #[t] }) (z0 z1 z2 z3 : Value) (ht : P.underlying t = some (.slice e)) (hv : ∀ w, (zeroValue e).run P w = .ok (.agg #[z0, z1, z2, z3]) w) (h1 : ∀ v ∈ [z0, z1, z2, z3], v.oneCell' = true)
    (g off c : Nat) (hx : a.eval x = .slice (some ⟨g, off, none⟩) 1 c) (cur : List Value) (tt : TypeId) (hg : w.heap[g]? = some (.cells cur.toArray tt (0, 0))) (hfit : off + 4 ≤ cur.length)
    (h : ∀ w', w'.heap[g]? = some (.cells (splc cur off [z0, z1, z2, z3]).toArray tt (0, 0)) → Only g w w' → wpList P ops Q rest (a.put o.dst (.tuple #[])) w') : wpList P ops Q (o :: rest) a w := by
  refine wpList_plain hgd fun K hK => ?_
  have hrun := run_clear4 (P := P) w t e o.type z0 z1 z2 z3 ht hv h1 g off c cur tt hg hfit
  unfold Oper.wp
  simp [execOp, ho, resolve, invoke, builtin, hx, hrun, Result.andThen]
  exact hK _ _ (h _ (setRow_heap w g _ _ tt _ hg) (only_setRow _))

theorem wpList_appendG {P : Program} {w : World} {ops : Array Oper} {rest : List Oper} {o : Oper} {a : Act} {Q : Exit → Act → World → Prop} (hgd : o.guard = none) (s x : Operand) (t : TypeId)
    (ho : o.op = .call { callee := .builtin .append, args := #[s, x], argTypes := #[t, t] }) (e : TypeId) (i : TypeInfo) (ht : P.underlying t = some (.slice e)) (hi : P.info? e = some i) (hsz : i.size = 4)
    (g n cap : Nat) (cur : List Value) (hg : w.heap[g]? = some (.cells cur.toArray e (0, 0))) (ad : Addr) (c : Nat) (news : List Value) (hs : a.eval s = .slice (some ⟨g, 0, none⟩) n cap) (hx : a.eval x = .slice (some ad) 1 c) (hl : news.length = 4)
    (hnews : ∀ j u, news[j]? = some u → w.cell? (ad.add j) = some u) (h1 : ∀ u ∈ news, u.oneCell' = true) (hroom : n + 1 ≤ cap) (hfit : n * 4 + 4 ≤ cur.length)
    (h : ∀ w', w'.heap[g]? = some (.cells (splc cur (n * 4) news).toArray e (0, 0)) → Only g w w' → wpList P ops Q rest (a.put o.dst (.slice (some ⟨g, 0, none⟩) (n + 1) cap)) w') : wpList P ops Q (o :: rest) a w := by
  refine wpList_plain hgd fun K hK => ?_
  have hrun := run_append_room (P := P) w t o.type e i ht hi g n cap cur.toArray hg ad 1 c news (by rw [hl, hsz]) hnews h1 hroom (by rw [hsz, hl]; simpa using hfit)
  rw [hsz] at hrun
  have e1 : (cur.toArray.toList.take (n * 4) ++ news ++ cur.toArray.toList.drop (n * 4 + news.length)).toArray = (splc cur (n * 4) news).toArray := by unfold splc; simp
  rw [e1] at hrun
  unfold Oper.wp
  simp [execOp, ho, resolve, invoke, builtin, hs, hx, hrun, Result.andThen]
  exact hK _ _ (h _ (setRow_heap w g _ _ e _ hg) (only_setRow _))

theorem Tryz.zeroSeg (w : World) : (zeroValue 56).run Tryz.prog w = .ok (.agg #[.int .i64 0, .slice none 0 0, .slice none 0 0, .slice none 0 0]) w := by
  obtain ⟨i, hi, h0, -, -⟩ := info_parts Tryz.zinSeg
  simp [zeroValue, typeInfo, hi, h0]

end Go.Proofs.YtbgjgaejfkdceaaGreat
