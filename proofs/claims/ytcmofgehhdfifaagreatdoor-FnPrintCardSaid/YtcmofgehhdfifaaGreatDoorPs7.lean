import Derived.Test.YtcmofgehhdfifaaGreatDoorPs6n
import Derived.Test.YtcmofgehhdfifaaGreatDoorPs6p
import Derived.Test.YtcmofgehhdfifaaGreatDoorX2
namespace Go.Proofs.YtcmofgehhdfifaaGreatDoor
open Go.RowKit
theorem l1class_any (sv : Value) (xs : List Int) (i : Nat) (w : World) (hv : SlAt mB 0 0 w.heap.size w sv xs) (hb : BytesIn xs) (hl : xs.length ≤ 100000) (hil : i < xs.length) :
    Calls Tryz.prog 39 #[sv, .int .i64 (i : Nat)] w fun e w' => ClM e w w' xs i := by
  by_cases hp : pkB xs (i + 1) = 94
  · exact l1class_n sv xs i w hv hb hl hil hp
  · exact l1class_p sv xs i w hv hb hl hil hp
def tkE : Tk → El
  | .inl cs => ⟨1, cs, 0, 0⟩
  | .inr (.inr (.inl true)) => ⟨2, [], 0, 0⟩
  | .inr (.inr (.inl false)) => ⟨3, [], 0, 0⟩
  | .inr (.inr (.inr ())) => ⟨4, [], 0, 0⟩
  | .inr (.inl (lo, hi)) => ⟨5, [], lo, hi⟩
def SlT (T : Nat → Prop) (w : World) (v : Value) (xs : List Int) : Prop :=
  ∃ a cap, v = .slice a xs.length cap ∧ xs.length ≤ maxLen ∧ (0 < xs.length → ∃ b off, a = some ⟨b, off, none⟩ ∧ T b ∧ ∀ i : Nat, i < xs.length → w.cell? ⟨b, off + i, none⟩ = some (mI (xs[i]?.getD 0)))
theorem SlT.same {T : Nat → Prop} {w w' : World} {v : Value} {xs : List Int} (h : SlT T w v xs) (hs : ∀ k, T k → w'.heap[k]? = w.heap[k]?) : SlT T w' v xs := by
  obtain ⟨a, c, e, hl, hc⟩ := h
  refine ⟨a, c, e, hl, fun h0 => ?_⟩
  obtain ⟨b, off, h1, h2, h3⟩ := hc h0
  refine ⟨b, off, h1, h2, fun i hi => ?_⟩
  rw [← h3 i hi]
  simp [World.cell?, hs b h2]
theorem SlAt.slT {lo n : Nat} {w : World} {v : Value} {xs : List Int} (h : SlAt mI 0 lo n w v xs) : SlT (fun k => lo ≤ k ∧ k < n) w v xs := by
  obtain ⟨a, c, e, hl, hc⟩ := h
  exact ⟨a, c, e, hl, fun h0 => by obtain ⟨b, off, h1, h2, h3, h4⟩ := hc h0; exact ⟨b, off, h1, ⟨h2, h3⟩, h4⟩⟩
theorem SlT.emp (w : World) : SlT (fun _ => False) w (.slice none 0 0) [] := ⟨none, 0, rfl, Nat.zero_le _, fun h => absurd h (by simp)⟩
theorem SlT.one {T : Nat → Prop} {w : World} {v : Value} {xs : List Int} (h : SlT T w v xs) : v.oneCell' = true := by obtain ⟨a, c, rfl, -⟩ := h; rfl
structure TkG (base : Nat) (w : World) (v : Value) (ps : List Pc) : Prop where
  own : w.ownsRow base 52 4 v ps.length (cellsP ps)
  set : ∀ p ∈ ps, SlT p.T w p.s p.x.set
  blk : ∀ p ∈ ps, ∀ k, p.T k → base ≤ k ∧ k < w.heap.size ∧ v.ownBlock ≠ some k
theorem TkG.keep {base m : Nat} {w w' : World} {v : Value} {ps : List Pc} (h : TkG base w v ps) (hb : Below m w w') (hm : w.heap.size ≤ m) : TkG base w' v ps :=
  ⟨h.own.kept (show w.grownBy w' none from ⟨hb.os, hb.tape, hb.output, hb.size, fun k hk _ => hb.block k (by omega)⟩) (by cases v.ownBlock <;> simp),
   fun p hp => (h.set p hp).same (fun k hk => hb.block k (by have := (h.blk p hp k hk).2.1; omega)), fun p hp k hk => by have h1 := h.blk p hp k hk; have h2 := hb.size; exact ⟨h1.1, by omega, h1.2.2⟩⟩
theorem TkG.app {base : Nat} {w0 w w' : World} {v v' : Value} {ps qs : List Pc} (h : TkG base w0 v ps) (hbase : base ≤ w0.heap.size) (hb : Below w0.heap.size w0 w) (hq : ∀ p ∈ qs, SlT p.T w p.s p.x.set) (hT : ∀ p ∈ qs, ∀ k, p.T k → w0.heap.size ≤ k ∧ k < w.heap.size)
    (h1 : w'.ownsRow base 52 4 v' (ps.length + qs.length) (cellsP ps ++ cellsP qs)) (hg : w.grownBy w' v.ownBlock) (ho : v'.ownBlock = v.ownBlock ∨ v'.ownBlock = some w.heap.size) : TkG base w' v' (ps ++ qs) := by
  have hs := hb.size
  have hgz : w.heap.size ≤ w'.heap.size := hg.size
  have hvb : ∀ k, w0.heap.size ≤ k → v.ownBlock ≠ some k := fun k hk e => by have := (h.own.lt k e).2; omega
  have hv'b : ∀ k, k < w.heap.size → v.ownBlock ≠ some k → v'.ownBlock ≠ some k := fun k hk hne e => by
    rcases ho with ho | ho
    · exact hne (by rw [← ho, e])
    · rw [ho] at e; simp at e; omega
  have hblk : ∀ k, k < w.heap.size → v.ownBlock ≠ some k → w'.heap[k]? = w.heap[k]? := fun k hk hne => hg.block k hk (fun e => hne e.symm)
  refine ⟨by rw [List.length_append, cellsP_append]; exact h1, fun p hp => ?_, fun p hp k hk => ?_⟩
  · rcases List.mem_append.1 hp with hp | hp
    · refine ((h.set p hp).same (w' := w) (fun k hk => hb.block k (h.blk p hp k hk).2.1)).same (fun k hk => ?_)
      have := h.blk p hp k hk
      exact hblk k (by omega) this.2.2
    · exact (hq p hp).same (fun k hk => hblk k (hT p hp k hk).2 (hvb k (hT p hp k hk).1))
  · rcases List.mem_append.1 hp with hp | hp
    · have := h.blk p hp k hk
      exact ⟨this.1, by omega, hv'b k (by omega) this.2.2⟩
    · have := hT p hp k hk
      exact ⟨by omega, by omega, hv'b k this.2 (hvb k this.1)⟩
theorem Tryz.zinTok : (Tryz.prog.info? 52).map (fun i => (i.zero, i.size, i.bytes)) = some (some (.agg #[.int .i64 0, .slice none 0 0, .int .i64 0, .int .i64 0]), 4, 48) := by kernel_rfl
theorem app_tk {base : Nat} {wr w1 W : World} {ops : Array Oper} {rest : List Oper} {o : Oper} {a : Act} {Q : Exit → Act → World → Prop} {v : Value} {ps : List Pc} (x : El) (sv : Value) (T : Nat → Prop) (hgd : o.guard = none) (s y : Operand)
    (ho : o.op = .call { callee := .builtin .append, args := #[s, y], argTypes := #[45, 45] }) (hs : a.eval s = v) (N : Nat) (hN : w1.heap.size = N) (hy : a.eval y = .slice (some ⟨N, 0, none⟩) 1 1)
    (h : TkG base wr v ps) (hbase : base ≤ wr.heap.size) (hb : Below wr.heap.size wr w1) (hsl : SlT T w1 sv x.set) (hT : ∀ k, T k → wr.heap.size ≤ k ∧ k < w1.heap.size)
    (hP : Pushd w1 W (.cells #[.int .i64 x.kind, sv, .int .i64 x.mn, .int .i64 x.mx] 52)) (hlen : ps.length ≤ 16777216)
    (K : ∀ v' w', TkG base w' v' (ps ++ [⟨x, sv, T⟩]) → Below base wr w' → wpList Tryz.prog ops Q rest (a.put o.dst v') w') : wpList Tryz.prog ops Q (o :: rest) a W := by
  subst hN
  obtain ⟨j0, hj, hy0, hy1, hy2⟩ := info_parts Tryz.zinTok
  have hown := hP.own (own_keep h.own hb (Nat.le_refl _))
  have hB : Below wr.heap.size wr W := hb.trans (hP.below.mono hb.size)
  have h1c := hsl.one
  refine wpList_append_own_at W hgd s y 45 ho base 52 j0 (.agg #[.int .i64 0, .slice none 0 0, .int .i64 0, .int .i64 0]) 4 48 Tryz.underlying45 hj hy0 hy1 hy2 rfl (by decide) v ps.length (cellsP ps) hs hown ⟨w1.heap.size, 0, none⟩ 1 1 (cell4 x sv) hy rfl ?_ ?_ ?_ ?_ ?_ ?_
  · exact Pushd.news hP
  · intro u hu
    simp only [cell4, List.mem_cons, List.not_mem_nil, or_false] at hu
    rcases hu with rfl | rfl | rfl | rfl
    · rfl
    · exact h1c
    · rfl
    · rfl
  · unfold maxLen; omega
  · omega
  · have := hP.size; have := hb.size; omega
  · intro v' w' q1 q2 _ q3
    have hsz := hP.size
    have r1 : TkG base w' v' (ps ++ [⟨x, sv, T⟩]) := by
      refine h.app hbase hB (fun p hp => ?_) (fun p hp k hk => ?_) (by simpa [cellsP] using q1) q2 q3
      · obtain rfl := List.mem_singleton.1 hp
        exact hsl.same (fun k hk => hP.below.block k (hT k hk).2)
      · obtain rfl := List.mem_singleton.1 hp
        have := hT k hk
        exact ⟨this.1, by omega⟩
    exact K v' w' r1 ((hB.mono hbase).grown q2 (by have := hB.size; omega) (fun k hk => (h.own.lt k hk).1))
def TkNum (p : Pc) : Prop := In64 p.x.kind ∧ In64 p.x.mn ∧ In64 p.x.mx ∧ ∀ i : Nat, In64 (p.x.set[i]?.getD 0)
theorem TkG.els {base : Nat} {w : World} {v : Value} {ps : List Pc} (h : TkG base w v ps) (hn : ∀ p ∈ ps, TkNum p) : ElsAt 0 w.heap.size w v (ps.map Pc.x) := by
  rcases h.own.2 with ⟨rfl, hz⟩ | ⟨g, cap, cur, rfl, hbg, hgc, hnc, hcm, hcs, htake⟩
  · obtain rfl : ps = [] := List.eq_nil_of_length_eq_zero hz
    exact ⟨none, 0, rfl, ⟨Nat.le_refl _, by unfold maxLen; omega⟩, fun hp => absurd hp (by simp)⟩
  · have hlt := (h.own.lt g rfl).2
    refine ⟨_, cap, by simp, ⟨by simpa using hnc, hcm⟩, fun _ => ⟨g, 0, rfl, Nat.zero_le _, hlt, fun i hi => ?_⟩⟩
    rw [List.length_map] at hi
    have hp : ps[i]? = some ps[i] := List.getElem?_eq_getElem hi
    have e : (ps.map Pc.x)[i]?.getD dE = ps[i].x := by rw [List.getElem?_map, hp]; rfl
    obtain ⟨n1, n2, n3, n4⟩ := hn _ (List.getElem_mem hi)
    have cell : ∀ j, j < 4 → w.cell? ⟨g, 0 + i * 4 + j, none⟩ = (cell4 ps[i].x ps[i].s)[j]? := fun j hj => by
      have hk : i * 4 + j < ps.length * 4 := by omega
      have h1 : (cellsP ps)[i * 4 + j]? = (cell4 ps[i].x ps[i].s)[j]? := cellsP_get ps i ps[i] hp j hj
      rw [← h1, ← htake, List.getElem?_take_of_lt hk, Array.getElem?_toList, Nat.zero_add]
      simp [World.cell?, hgc]
    rw [e]
    obtain ⟨sa, sc, es, hsl, hsc⟩ := h.set _ (List.getElem_mem hi)
    refine ⟨n1, n2, n3, ps[i].s, by simpa [cell4] using cell 0 (by omega), cell 1 (by omega), cell 2 (by omega), cell 3 (by omega), sa, sc, es, hsl, n4, fun h0 => ?_⟩
    obtain ⟨b, off, h1, h2, h3⟩ := hsc h0
    exact ⟨b, off, h1, Nat.zero_le _, (h.blk _ (List.getElem_mem hi) b h2).2.1, h3⟩
end Go.Proofs.YtcmofgehhdfifaaGreatDoor
