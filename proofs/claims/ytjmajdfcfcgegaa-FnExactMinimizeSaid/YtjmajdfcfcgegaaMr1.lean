import Derived.Test.YtjmajdfcfcgegaaMn10
import Derived.Test.YtjmajdfcfcgegaaPk3
namespace Go.Proofs.Ytjmajdfcfcgegaa
open Go.RowKit

/-- A row of ints in a block, told by its index. -/
def RowN (w : World) (b n : Nat) (f : Nat → Nat) : Prop := ∃ m F, w.rowIs b 3 m F ∧ n ≤ m ∧ ∀ j, j < n → F j = .int .i64 (f j : Nat)
theorem RowN.cell {w : World} {b n : Nat} {f : Nat → Nat} (h : RowN w b n f) {j : Nat} (hj : j < n) : w.cell? ⟨b, j, none⟩ = some (.int .i64 (f j : Nat)) := by
  obtain ⟨m, F, hF, hm, h1⟩ := h
  rw [hF.cell (by omega), h1 j hj]
theorem RowN.frozen {w : World} {b n : Nat} {f : Nat → Nat} (h : RowN w b n f) (j : Nat) : w.frozen? ⟨b, j, none⟩ = false := by
  obtain ⟨m, F, hF, -⟩ := h
  exact hF.frozen j
theorem RowN.lt {w : World} {b n : Nat} {f : Nat → Nat} (h : RowN w b n f) : b < w.heap.size := by
  obtain ⟨m, F, hF, -⟩ := h
  exact hF.lt
theorem RowN.on {w w' : World} {b n : Nat} {f : Nat → Nat} (h : RowN w b n f) (e : w'.heap[b]? = w.heap[b]?) : RowN w' b n f := by
  obtain ⟨m, F, hF, h1⟩ := h
  exact ⟨m, F, hF.of_block e, h1⟩
theorem RowN.put {w : World} {b n : Nat} {f : Nat → Nat} (h : RowN w b n f) (i v : Nat) : RowN (w.setCell ⟨b, i, none⟩ (.int .i64 (v : Nat))) b n (upd f i v) := by
  obtain ⟨m, F, hF, hm, h1⟩ := h
  refine ⟨m, _, hF.set i _, hm, fun j hj => ?_⟩
  by_cases e : j = i
  · subst e; simp [upd]
  · simp [upd, e, h1 j hj]
theorem RowN.congr {w : World} {b n : Nat} {f f' : Nat → Nat} (h : RowN w b n f) (e : ∀ j, j < n → f j = f' j) : RowN w b n f' := by
  obtain ⟨m, F, hF, hm, h1⟩ := h
  exact ⟨m, F, hF, hm, fun j hj => by rw [h1 j hj, e j hj]⟩

/-- The cells of a row of blocks. -/
def bF (fr mk tt : Nat → Nat) (k : Nat) : Value := .int .i64 ((if k % 3 = 0 then fr (k / 3) else if k % 3 = 1 then mk (k / 3) else tt (k / 3) : Nat) : Int)
def bL (N : Nat) (fr mk tt : Nat → Nat) : List Value := (List.range (N * 3)).map (bF fr mk tt)
theorem bF0 (fr mk tt : Nat → Nat) (k : Nat) : bF fr mk tt (k * 3) = .int .i64 (fr k : Nat) := by simp [bF]
theorem bF1 (fr mk tt : Nat → Nat) (k : Nat) : bF fr mk tt (k * 3 + 1) = .int .i64 (mk k : Nat) := by
  have h1 : (k * 3 + 1) % 3 = 1 := by omega
  have h2 : (k * 3 + 1) / 3 = k := by omega
  simp [bF, h1, h2]
theorem bF2 (fr mk tt : Nat → Nat) (k : Nat) : bF fr mk tt (k * 3 + 2) = .int .i64 (tt k : Nat) := by
  have h1 : (k * 3 + 2) % 3 = 2 := by omega
  have h2 : (k * 3 + 2) / 3 = k := by omega
  simp [bF, h1, h2]
theorem bL_len (N : Nat) (fr mk tt : Nat → Nat) : (bL N fr mk tt).length = N * 3 := by simp [bL]
theorem bL_at {N : Nat} (fr mk tt : Nat → Nat) {k : Nat} (h : k < N * 3) : (bL N fr mk tt)[k]? = some (bF fr mk tt k) := by simp [bL, h]
theorem bL_next (N : Nat) (fr mk tt : Nat → Nat) (a b c : Nat) : bL (N + 1) (upd fr N a) (upd mk N b) (upd tt N c) = bL N fr mk tt ++ [.int .i64 (a : Nat), .int .i64 (b : Nat), .int .i64 (c : Nat)] := by
  refine List.ext_getElem? (fun k => ?_)
  by_cases h1 : k < N * 3
  · rw [List.getElem?_append_left (by rw [bL_len]; exact h1), bL_at _ _ _ h1, bL_at _ _ _ (by omega)]
    have : k / 3 ≠ N := by omega
    simp [bF, upd, this]
  · rw [List.getElem?_append_right (by rw [bL_len]; omega), bL_len]
    by_cases h2 : k < N * 3 + 3
    · rw [bL_at _ _ _ (by omega)]
      obtain rfl | rfl | rfl : k = N * 3 ∨ k = N * 3 + 1 ∨ k = N * 3 + 2 := by omega
      · rw [bF0]; simp [upd]
      · rw [bF1]; simp [upd]
      · rw [bF2]; simp [upd]
    · rw [List.getElem?_eq_none (by rw [bL_len]; omega), List.getElem?_eq_none (by simp; omega)]

/-- The partition: its box, its rows, its blocks, its queue. -/
structure PtAt (O : Nat → Prop) (g mb mc pb pc bb bc : Nat) (w : World) (n N : Nat) (ms ps bs fr mk tt : Nat → Nat) (kb kc : Nat) (qv : Value) (qs : List Int) (tk : Nat) : Prop where
  box : ∃ F, w.rowIs g 68 6 F ∧ F 0 = .slice (some ⟨mb, 0, none⟩) n mc ∧ F 1 = .slice (some ⟨pb, 0, none⟩) n pc ∧ F 2 = .slice (some ⟨bb, 0, none⟩) n bc ∧ F 3 = .slice (some ⟨kb, 0, none⟩) N kc ∧ F 4 = qv ∧ F 5 = .int .i64 (tk : Nat)
  cap : n ≤ mc
  rm : RowN w mb n ms
  rp : RowN w pb n ps
  rb : RowN w bb n bs
  rk : w.ownsRow 0 71 3 (.slice (some ⟨kb, 0, none⟩) N kc) N (bL N fr mk tt)
  rq : w.ownsRow 0 3 1 qv qs.length (qs.map mI)
  ng : g ≠ mb ∧ g ≠ pb ∧ g ≠ bb ∧ g ≠ kb
  ne : mb ≠ pb ∧ mb ≠ bb ∧ mb ≠ kb ∧ pb ≠ bb ∧ pb ≠ kb ∧ bb ≠ kb
  oo : O g ∧ O mb ∧ O pb ∧ O bb ∧ O kb
  oq : ∀ q, qv.ownBlock = some q → O q ∧ q ≠ g ∧ q ≠ mb ∧ q ≠ pb ∧ q ≠ bb ∧ q ≠ kb
section
variable {O : Nat → Prop} {g mb mc pb pc bb bc : Nat} {w : World} {n N : Nat} {ms ps bs fr mk tt : Nat → Nat} {kb kc : Nat} {qv : Value} {qs : List Int} {tk : Nat}
theorem PtAt.lt (h : PtAt O g mb mc pb pc bb bc w n N ms ps bs fr mk tt kb kc qv qs tk) : g < w.heap.size := by obtain ⟨F, hF, -⟩ := h.box; exact hF.lt
theorem PtAt.ltk (h : PtAt O g mb mc pb pc bb bc w n N ms ps bs fr mk tt kb kc qv qs tk) : kb < w.heap.size := own_lt h.rk kb rfl
theorem PtAt.keep (h : PtAt O g mb mc pb pc bb bc w n N ms ps bs fr mk tt kb kc qv qs tk) {w' : World} (e : ∀ k, O k → k < w.heap.size → w'.heap[k]? = w.heap[k]?) : PtAt O g mb mc pb pc bb bc w' n N ms ps bs fr mk tt kb kc qv qs tk := by
  obtain ⟨F, hF, h1⟩ := h.box
  obtain ⟨o1, o2, o3, o4, o5⟩ := h.oo
  exact ⟨⟨F, hF.of_block (e g o1 hF.lt), h1⟩, h.cap, h.rm.on (e _ o2 h.rm.lt), h.rp.on (e _ o3 h.rp.lt), h.rb.on (e _ o4 h.rb.lt), own_blk h.rk (fun q hq => by cases hq; exact e _ o5 h.ltk), own_blk h.rq (fun q hq => e q (h.oq q hq).1 (own_lt h.rq q hq)), h.ng, h.ne, h.oo, h.oq⟩
theorem PtAt.mono (h : PtAt O g mb mc pb pc bb bc w n N ms ps bs fr mk tt kb kc qv qs tk) {O' : Nat → Prop} (e : ∀ k, O k → O' k) : PtAt O' g mb mc pb pc bb bc w n N ms ps bs fr mk tt kb kc qv qs tk := by
  obtain ⟨o1, o2, o3, o4, o5⟩ := h.oo
  exact ⟨h.box, h.cap, h.rm, h.rp, h.rb, h.rk, h.rq, h.ng, h.ne, ⟨e _ o1, e _ o2, e _ o3, e _ o4, e _ o5⟩, fun q hq => ⟨e q (h.oq q hq).1, (h.oq q hq).2⟩⟩
theorem PtAt.skip (h : PtAt O g mb mc pb pc bb bc w n N ms ps bs fr mk tt kb kc qv qs tk) {w' : World} (hb : Below w.heap.size w w') : PtAt (Sk O w.heap.size w'.heap.size) g mb mc pb pc bb bc w' n N ms ps bs fr mk tt kb kc qv qs tk := by
  have h2 := h.keep (fun k _ hk => hb.block k hk)
  obtain ⟨o1, o2, o3, o4, o5⟩ := h.oo
  exact ⟨h2.box, h.cap, h2.rm, h2.rp, h2.rb, h2.rk, h2.rq, h.ng, h.ne, ⟨⟨o1, Or.inl h.lt⟩, ⟨o2, Or.inl h.rm.lt⟩, ⟨o3, Or.inl h.rp.lt⟩, ⟨o4, Or.inl h.rb.lt⟩, ⟨o5, Or.inl h.ltk⟩⟩, fun q hq => ⟨⟨(h.oq q hq).1, Or.inl (own_lt h.rq q hq)⟩, (h.oq q hq).2⟩⟩
theorem PtAt.facts (h : PtAt O g mb mc pb pc bb bc w n N ms ps bs fr mk tt kb kc qv qs tk) : w.cell? ⟨g, 0, none⟩ = some (.slice (some ⟨mb, 0, none⟩) n mc) ∧ w.cell? ⟨g, 1, none⟩ = some (.slice (some ⟨pb, 0, none⟩) n pc) ∧ w.cell? ⟨g, 2, none⟩ = some (.slice (some ⟨bb, 0, none⟩) n bc) ∧ w.cell? ⟨g, 3, none⟩ = some (.slice (some ⟨kb, 0, none⟩) N kc) ∧ w.cell? ⟨g, 4, none⟩ = some qv ∧ w.cell? ⟨g, 5, none⟩ = some (.int .i64 (tk : Nat)) ∧ ∀ j, w.frozen? ⟨g, j, none⟩ = false := by
  obtain ⟨F, hF, h0, h1, h2, h3, h4, h5⟩ := h.box
  exact ⟨by rw [hF.cell (by omega), h0], by rw [hF.cell (by omega), h1], by rw [hF.cell (by omega), h2], by rw [hF.cell (by omega), h3], by rw [hF.cell (by omega), h4], by rw [hF.cell (by omega), h5], fun j => hF.frozen j⟩
theorem PtAt.blk (h : PtAt O g mb mc pb pc bb bc w n N ms ps bs fr mk tt kb kc qv qs tk) {k : Nat} (hk : k < N) : w.cell? ⟨kb, k * 3, none⟩ = some (.int .i64 (fr k : Nat)) ∧ w.cell? ⟨kb, k * 3 + 1, none⟩ = some (.int .i64 (mk k : Nat)) ∧ w.cell? ⟨kb, k * 3 + 2, none⟩ = some (.int .i64 (tt k : Nat)) ∧ ∀ j, w.frozen? ⟨kb, j, none⟩ = false := by
  obtain ⟨g', cap, m, F, e, -, hF, hm, hx, -⟩ := own_row h.rk (by omega)
  cases e
  have q : ∀ j, j < N * 3 → w.cell? ⟨kb, j, none⟩ = some (bF fr mk tt j) := fun j hj => by
    have := hx j hj
    rw [bL_at _ _ _ hj] at this
    rw [hF.cell (by omega), ← this]
  exact ⟨by rw [q _ (by omega), bF0], by rw [q _ (by omega), bF1], by rw [q _ (by omega), bF2], fun j => hF.frozen j⟩
theorem PtAt.setM (h : PtAt O g mb mc pb pc bb bc w n N ms ps bs fr mk tt kb kc qv qs tk) (i v : Nat) : PtAt O g mb mc pb pc bb bc (w.setCell ⟨mb, i, none⟩ (.int .i64 (v : Nat))) n N (upd ms i v) ps bs fr mk tt kb kc qv qs tk := by
  obtain ⟨n1, n2, n3, n4⟩ := h.ng
  obtain ⟨e1, e2, e3, e4, e5, e6⟩ := h.ne
  obtain ⟨F, hF, h1⟩ := h.box
  have e : ∀ k, k ≠ mb → (w.setCell ⟨mb, i, none⟩ (.int .i64 (v : Nat))).heap[k]? = w.heap[k]? := fun k hk => Below.heap_setCell _ _ _ _ (by show k ≠ mb; exact hk)
  exact ⟨⟨F, hF.of_block (e g n1), h1⟩, h.cap, h.rm.put i v, h.rp.on (e _ (Ne.symm e1)), h.rb.on (e _ (Ne.symm e2)), own_blk h.rk (fun q hq => by cases hq; exact e _ (Ne.symm e3)), own_blk h.rq (fun q hq => e q (h.oq q hq).2.2.1), h.ng, h.ne, h.oo, h.oq⟩
theorem PtAt.setP (h : PtAt O g mb mc pb pc bb bc w n N ms ps bs fr mk tt kb kc qv qs tk) (i v : Nat) : PtAt O g mb mc pb pc bb bc (w.setCell ⟨pb, i, none⟩ (.int .i64 (v : Nat))) n N ms (upd ps i v) bs fr mk tt kb kc qv qs tk := by
  obtain ⟨n1, n2, n3, n4⟩ := h.ng
  obtain ⟨e1, e2, e3, e4, e5, e6⟩ := h.ne
  obtain ⟨F, hF, h1⟩ := h.box
  have e : ∀ k, k ≠ pb → (w.setCell ⟨pb, i, none⟩ (.int .i64 (v : Nat))).heap[k]? = w.heap[k]? := fun k hk => Below.heap_setCell _ _ _ _ (by show k ≠ pb; exact hk)
  exact ⟨⟨F, hF.of_block (e g n2), h1⟩, h.cap, h.rm.on (e _ e1), h.rp.put i v, h.rb.on (e _ (Ne.symm e4)), own_blk h.rk (fun q hq => by cases hq; exact e _ (Ne.symm e5)), own_blk h.rq (fun q hq => e q (h.oq q hq).2.2.2.1), h.ng, h.ne, h.oo, h.oq⟩
theorem PtAt.setB (h : PtAt O g mb mc pb pc bb bc w n N ms ps bs fr mk tt kb kc qv qs tk) (i v : Nat) : PtAt O g mb mc pb pc bb bc (w.setCell ⟨bb, i, none⟩ (.int .i64 (v : Nat))) n N ms ps (upd bs i v) fr mk tt kb kc qv qs tk := by
  obtain ⟨n1, n2, n3, n4⟩ := h.ng
  obtain ⟨e1, e2, e3, e4, e5, e6⟩ := h.ne
  obtain ⟨F, hF, h1⟩ := h.box
  have e : ∀ k, k ≠ bb → (w.setCell ⟨bb, i, none⟩ (.int .i64 (v : Nat))).heap[k]? = w.heap[k]? := fun k hk => Below.heap_setCell _ _ _ _ (by show k ≠ bb; exact hk)
  exact ⟨⟨F, hF.of_block (e g n3), h1⟩, h.cap, h.rm.on (e _ e2), h.rp.on (e _ e4), h.rb.put i v, own_blk h.rk (fun q hq => by cases hq; exact e _ (Ne.symm e6)), own_blk h.rq (fun q hq => e q (h.oq q hq).2.2.2.2.1), h.ng, h.ne, h.oo, h.oq⟩
/-- A cell of the blocks' row. -/
theorem PtAt.setK (h : PtAt O g mb mc pb pc bb bc w n N ms ps bs fr mk tt kb kc qv qs tk) {i : Nat} (u : Value) {fr' mk' tt' : Nat → Nat} (hi : i < N * 3) (hu : bF fr' mk' tt' i = u) (hk : ∀ j, j < N * 3 → j ≠ i → bF fr' mk' tt' j = bF fr mk tt j) : PtAt O g mb mc pb pc bb bc (w.setCell ⟨kb, i, none⟩ u) n N ms ps bs fr' mk' tt' kb kc qv qs tk := by
  obtain ⟨n1, n2, n3, n4⟩ := h.ng
  obtain ⟨e1, e2, e3, e4, e5, e6⟩ := h.ne
  obtain ⟨F, hF, h1⟩ := h.box
  have e : ∀ k, k ≠ kb → (w.setCell ⟨kb, i, none⟩ u).heap[k]? = w.heap[k]? := fun k hk => Below.heap_setCell _ _ _ _ (by show k ≠ kb; exact hk)
  refine ⟨⟨F, hF.of_block (e g n4), h1⟩, h.cap, h.rm.on (e _ e3), h.rp.on (e _ e5), h.rb.on (e _ e6), ?_, own_blk h.rq (fun q hq => e q (h.oq q hq).2.2.2.2.2), h.ng, h.ne, h.oo, h.oq⟩
  obtain ⟨g', cap, m, F2, e', -, hF2, hm, hx, hback⟩ := own_row h.rk (by omega)
  cases e'
  refine hback _ _ _ (hF2.set i u) (bL_len _ _ _ _) (fun j hj => ?_)
  rw [bL_at _ _ _ hj]
  by_cases q : j = i
  · subst q; simp [hu]
  · have := hx j hj
    rw [bL_at _ _ _ hj] at this
    simp only [q, if_false]
    rw [hk j hj q, this]
/-- The queue's head. -/
theorem PtAt.setT (h : PtAt O g mb mc pb pc bb bc w n N ms ps bs fr mk tt kb kc qv qs tk) (t : Nat) : PtAt O g mb mc pb pc bb bc (w.setCell ⟨g, 5, none⟩ (.int .i64 (t : Nat))) n N ms ps bs fr mk tt kb kc qv qs t := by
  obtain ⟨n1, n2, n3, n4⟩ := h.ng
  obtain ⟨F, hF, h0, h1, h2, h3, h4, h5⟩ := h.box
  have e : ∀ k, k ≠ g → (w.setCell ⟨g, 5, none⟩ (.int .i64 (t : Nat))).heap[k]? = w.heap[k]? := fun k hk => Below.heap_setCell _ _ _ _ (by show k ≠ g; exact hk)
  exact ⟨⟨_, hF.set 5 _, by simp [h0], by simp [h1], by simp [h2], by simp [h3], by simp [h4], by simp⟩, h.cap, h.rm.on (e _ (Ne.symm n1)), h.rp.on (e _ (Ne.symm n2)), h.rb.on (e _ (Ne.symm n3)), own_blk h.rk (fun q hq => by cases hq; exact e _ (Ne.symm n4)), own_blk h.rq (fun q hq => e q (h.oq q hq).2.1), h.ng, h.ne, h.oo, h.oq⟩
/-- One more in the queue. -/
theorem PtAt.pushQ (h : PtAt O g mb mc pb pc bb bc w n N ms ps bs fr mk tt kb kc qv qs tk) (hO : ∀ k, w.heap.size ≤ k → O k) {W w2 : World} {v' : Value} {xs : List Int} (hW : Below w.heap.size w W) (r1 : w2.ownsRow 0 3 1 v' xs.length (xs.map mI)) (r2 : W.grownBy w2 qv.ownBlock) (r3 : ∀ q, v'.ownBlock = some q → qv.ownBlock = some q ∨ w.heap.size ≤ q) :
    PtAt O g mb mc pb pc bb bc (w2.setCell ⟨g, 4, none⟩ v') n N ms ps bs fr mk tt kb kc v' xs tk ∧ FrO O w (w2.setCell ⟨g, 4, none⟩ v') := by
  have hz := hW.size
  have hz2 := r2.size
  obtain ⟨n1, n2, n3, n4⟩ := h.ng
  obtain ⟨o1, o2, o3, o4, o5⟩ := h.oo
  obtain ⟨F, hF, h0, h1, h2, h3, h4, h5⟩ := h.box
  have k2 : ∀ k, k < w.heap.size → qv.ownBlock ≠ some k → w2.heap[k]? = w.heap[k]? := fun k hk hne => (r2.block k (by omega) (fun e => hne e.symm)).trans (hW.block k hk)
  have kf : ∀ k, k < w.heap.size → k ≠ g → qv.ownBlock ≠ some k → (w2.setCell ⟨g, 4, none⟩ v').heap[k]? = w.heap[k]? := fun k hk hg hne => (Below.heap_setCell _ _ _ _ (by show k ≠ g; exact hg)).trans (k2 k hk hne)
  have hF2 := hF.of_block (k2 g hF.lt (fun e => (h.oq g e).2.1 rfl))
  have hgt := h.lt
  have lm := h.rm.lt
  have lp := h.rp.lt
  have lb := h.rb.lt
  have lk := h.ltk
  refine ⟨⟨⟨_, hF2.set 4 _, by simp [h0], by simp [h1], by simp [h2], by simp [h3], by simp, by simp [h5]⟩, h.cap, h.rm.on (kf _ h.rm.lt (Ne.symm n1) (fun e => (h.oq _ e).2.2.1 rfl)), h.rp.on (kf _ h.rp.lt (Ne.symm n2) (fun e => (h.oq _ e).2.2.2.1 rfl)), h.rb.on (kf _ h.rb.lt (Ne.symm n3) (fun e => (h.oq _ e).2.2.2.2.1 rfl)), own_blk h.rk (fun q hq => by cases hq; exact kf _ h.ltk (Ne.symm n4) (fun e => (h.oq _ e).2.2.2.2.2 rfl)), own_blk r1 (fun q hq => ?_), h.ng, h.ne, h.oo, fun q hq => ?_⟩, ?_⟩
  · refine Below.heap_setCell _ _ _ _ ?_
    show q ≠ g
    rcases r3 q hq with e | e
    · exact (h.oq q e).2.1
    · omega
  · rcases r3 q hq with e | e
    · exact h.oq q e
    · exact ⟨hO q e, by omega, by omega, by omega, by omega, by omega⟩
  · refine ⟨r2.os.trans hW.os, r2.tape.trans hW.tape, r2.output.trans hW.output, by rw [sz_put]; omega, fun k hk => ?_⟩
    have hlt : k < w.heap.size := by apply Nat.lt_of_not_le; intro e; exact hk (hO k e)
    exact kf k hlt (fun e => hk (e ▸ o1)) (fun e => hk (h.oq k e).1)
/-- One block more. -/
theorem PtAt.pushK (h : PtAt O g mb mc pb pc bb bc w n N ms ps bs fr mk tt kb kc qv qs tk) (hO : ∀ k, w.heap.size ≤ k → O k) {W w2 : World} {kb' kc' a b c : Nat} (hW : Below w.heap.size w W) (r1 : w2.ownsRow 0 71 3 (.slice (some ⟨kb', 0, none⟩) (N + 1) kc') (N + 1) (bL N fr mk tt ++ [.int .i64 (a : Nat), .int .i64 (b : Nat), .int .i64 (c : Nat)])) (r2 : W.grownBy w2 (some kb)) (r3 : kb' = kb ∨ w.heap.size ≤ kb') :
    PtAt O g mb mc pb pc bb bc (w2.setCell ⟨g, 3, none⟩ (.slice (some ⟨kb', 0, none⟩) (N + 1) kc')) n (N + 1) ms ps bs (upd fr N a) (upd mk N b) (upd tt N c) kb' kc' qv qs tk ∧ FrO O w (w2.setCell ⟨g, 3, none⟩ (.slice (some ⟨kb', 0, none⟩) (N + 1) kc')) ∧ w2.cell? ⟨g, 3, none⟩ = some (.slice (some ⟨kb, 0, none⟩) N kc) ∧ w2.frozen? ⟨g, 3, none⟩ = false := by
  have hz := hW.size
  have hz2 := r2.size
  obtain ⟨n1, n2, n3, n4⟩ := h.ng
  obtain ⟨e1, e2, e3, e4, e5, e6⟩ := h.ne
  obtain ⟨o1, o2, o3, o4, o5⟩ := h.oo
  obtain ⟨F, hF, h0, h1, h2, h3, h4, h5⟩ := h.box
  have k2 : ∀ k, k < w.heap.size → k ≠ kb → w2.heap[k]? = w.heap[k]? := fun k hk hne => (r2.block k (by omega) (fun e => hne (Option.some.inj e))).trans (hW.block k hk)
  have kf : ∀ k, k < w.heap.size → k ≠ g → k ≠ kb → (w2.setCell ⟨g, 3, none⟩ (.slice (some ⟨kb', 0, none⟩) (N + 1) kc')).heap[k]? = w.heap[k]? := fun k hk hg hne => (Below.heap_setCell _ _ _ _ (by show k ≠ g; exact hg)).trans (k2 k hk hne)
  have hF2 := hF.of_block (k2 g hF.lt n4)
  have hgt := h.lt
  have lm := h.rm.lt
  have lp := h.rp.lt
  have lb := h.rb.lt
  have ng' : kb' ≠ g := by rcases r3 with e | e <;> omega
  refine ⟨⟨⟨_, hF2.set 3 _, by simp [h0], by simp [h1], by simp [h2], by simp, by simp [h4], by simp [h5]⟩, h.cap, h.rm.on (kf _ h.rm.lt (Ne.symm n1) e3), h.rp.on (kf _ h.rp.lt (Ne.symm n2) e5), h.rb.on (kf _ h.rb.lt (Ne.symm n3) e6), ?_, own_blk h.rq (fun q hq => kf q (own_lt h.rq q hq) (h.oq q hq).2.1 (h.oq q hq).2.2.2.2.2), ⟨n1, n2, n3, Ne.symm ng'⟩, ⟨e1, e2, by rcases r3 with e | e <;> omega, e4, by rcases r3 with e | e <;> omega, by rcases r3 with e | e <;> omega⟩, ⟨o1, o2, o3, o4, ?_⟩, fun q hq => ?_⟩, ?_, by rw [hF2.cell (by omega), h3], hF2.frozen 3⟩
  · rw [bL_next]
    exact own_blk r1 (fun q hq => by cases hq; exact Below.heap_setCell _ _ _ _ (by show kb' ≠ g; exact ng'))
  · rcases r3 with e | e
    · rw [e]; exact o5
    · exact hO _ e
  · obtain ⟨q1, q2, q3, q4, q5, q6⟩ := h.oq q hq
    have := own_lt h.rq q hq
    exact ⟨q1, q2, q3, q4, q5, by rcases r3 with e | e <;> omega⟩
  · refine ⟨r2.os.trans hW.os, r2.tape.trans hW.tape, r2.output.trans hW.output, by rw [sz_put]; omega, fun k hk => ?_⟩
    have hlt : k < w.heap.size := by apply Nat.lt_of_not_le; intro e; exact hk (hO k e)
    exact kf k hlt (fun e => hk (e ▸ o1)) (fun e => hk (e ▸ o5))
end

end Go.Proofs.Ytjmajdfcfcgegaa
