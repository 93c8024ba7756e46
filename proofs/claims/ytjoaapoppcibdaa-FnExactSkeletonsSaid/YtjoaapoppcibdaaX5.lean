import Derived.Test.YtjoaapoppcibdaaP12
namespace Go.Proofs.Ytjoaapoppcibdaa
open Go.RowKit

/-- A list of elements, its value and its blocks. -/
structure Pt where
  P : List El
  s : Value
  T : Nat → Prop
theorem Try.zinOpS : (Try.prog.info? 28).map (fun i => (i.zero, i.size, i.bytes)) = some (some (.slice none 0 0), 1, 24) := by kernel_rfl

/-- v is a slice of its own, from block base on, of these lists. -/
structure PGrow (base : Nat) (w : World) (v : Value) (ps : List Pt) : Prop where
  own : w.ownsRow base 28 1 v ps.length (ps.map Pt.s)
  els : ∀ p ∈ ps, ElsF p.T w p.s p.P
  blk : ∀ p ∈ ps, ∀ k, p.T k → k < w.heap.size ∧ v.ownBlock ≠ some k
theorem PGrow.nil (base : Nat) (w : World) : PGrow base w (.slice none 0 0) [] := ⟨World.ownsRow_nil _ _ _ _, by simp, by simp⟩
theorem PGrow.keep {base m : Nat} {w w' : World} {v : Value} {ps : List Pt} (h : PGrow base w v ps) (hb : Below m w w') (hm : w.heap.size ≤ m) : PGrow base w' v ps :=
  ⟨own_keep h.own hb hm, fun p hp => (h.els p hp).same (fun k hk => hb.block k (by have := (h.blk p hp k hk).1; omega)), fun p hp k hk => ⟨by have h1 := (h.blk p hp k hk).1; have h2 := hb.size; omega, (h.blk p hp k hk).2⟩⟩

theorem ElsF.one {S : Nat → Prop} {w : World} {v : Value} {xs : List El} (h : ElsF S w v xs) : v.oneCell' = true := by
  obtain ⟨a, cap, rfl, -⟩ := h
  rfl

theorem app_part {base : Nat} {wr w1 W : World} {ops : Array Oper} {rest : List Oper} {o : Oper} {a : Act} {Q : Exit → Act → World → Prop} {v : Value} {ps : List Pt} (p : Pt) (hgd : o.guard = none) (s y : Operand)
    (ho : o.op = .call { callee := .builtin .append, args := #[s, y], argTypes := #[67, 67] }) (hs : a.eval s = v) (hy : a.eval y = .slice (some ⟨w1.heap.size, 0, none⟩) 1 1)
    (h : PGrow base wr v ps) (hbase : base ≤ wr.heap.size) (hb : Below wr.heap.size wr w1) (hE : ElsF p.T w1 p.s p.P) (hT : ∀ k, p.T k → k < w1.heap.size ∧ v.ownBlock ≠ some k)
    (hP : Pushd w1 W (.cells #[p.s] 28)) (hlen : ps.length ≤ 16777216)
    (K : ∀ v' w', PGrow base w' v' (ps ++ [p]) → Below base wr w' → wpList Try.prog ops Q rest (a.put o.dst v') w') : wpList Try.prog ops Q (o :: rest) a W := by
  obtain ⟨j0, hj, hy0, hy1, hy2⟩ := info_parts Try.zinOpS
  have hown := hP.own (own_keep h.own hb (Nat.le_refl _))
  have hz := hb.size
  have hZ := hP.size
  refine wpList_append_own_at W hgd s y 67 ho base 28 j0 (.slice none 0 0) 1 24 Try.underlying67 hj hy0 hy1 hy2 rfl (by decide) v ps.length (ps.map Pt.s) hs hown ⟨w1.heap.size, 0, none⟩ 1 1 [p.s] hy rfl ?_ ?_ ?_ ?_ ?_ ?_
  · exact Pushd.news hP
  · intro u hu
    obtain rfl := List.mem_singleton.1 hu
    exact hE.one
  · unfold maxLen; omega
  · omega
  · omega
  · intro v' w' q1 q2 _ q3
    have hgz : W.heap.size ≤ w'.heap.size := q2.size
    have hv'b : ∀ k, k < W.heap.size → v.ownBlock ≠ some k → v'.ownBlock ≠ some k := fun k hk hne e => by
      rcases q3 with ho | ho
      · exact hne (by rw [← ho, e])
      · rw [ho] at e; simp at e; omega
    have hblk : ∀ k, k < W.heap.size → v.ownBlock ≠ some k → w'.heap[k]? = W.heap[k]? := fun k hk hne => q2.block k hk (fun e => hne e.symm)
    have hB : Below wr.heap.size wr W := hb.trans (hP.below.mono hb.size)
    refine K v' w' ⟨by rw [List.length_append, List.map_append]; exact q1, fun q hq => ?_, fun q hq k hk => ?_⟩ ((hB.mono hbase).grown q2 (by omega) (fun k hk => (h.own.lt k hk).1))
    · rcases List.mem_append.1 hq with hq | hq
      · refine ((h.els q hq).same (w' := W) (fun k hk => hB.block k (h.blk q hq k hk).1)).same (fun k hk => ?_)
        have := h.blk q hq k hk
        exact hblk k (by omega) this.2
      · obtain rfl := List.mem_singleton.1 hq
        refine (hE.same (w' := W) (fun k hk => hP.old (hT k hk).1)).same (fun k hk => ?_)
        have := hT k hk
        exact hblk k (by omega) this.2
    · rcases List.mem_append.1 hq with hq | hq
      · have := h.blk q hq k hk
        exact ⟨by omega, hv'b k (by omega) this.2⟩
      · obtain rfl := List.mem_singleton.1 hq
        have := hT k hk
        exact ⟨by omega, hv'b k (by omega) this.2⟩

/-- Parts, joined by cat, leftmost first. -/
def catE : El := ⟨2, [], 0, 0⟩
def jn : List (List El) → List El
  | [] => []
  | p :: r => r.foldl (fun acc q => acc ++ q ++ [catE]) p
theorem jn_one (p : List El) : jn [p] = p := rfl
theorem jn_snoc {ps : List (List El)} (h : ps ≠ []) (q : List El) : jn (ps ++ [q]) = jn ps ++ q ++ [catE] := by
  cases ps with
  | nil => exact absurd rfl h
  | cons p r => simp [jn, List.foldl_append]

def optE (X : List El) : List El := X ++ [⟨0, [], 0, 0⟩] ++ [⟨3, [], 0, 0⟩]
/-- The parts of a repetition that is written out. -/
def partsX (X : List El) (mn mx : Int) : List (List El) :=
  if mx = -1 then List.replicate (mn - 1).toNat X ++ [X ++ [⟨4, [], if 1 < mn then 1 else mn, -1⟩]]
  else List.replicate mn.toNat X ++ List.replicate (mx - mn).toNat (optE X)
def repX (X : List El) (mn mx : Int) : List El := if mx = 0 then [⟨0, [], 0, 0⟩] else jn (partsX X mn mx)

set_option maxHeartbeats 4000000 in
set_option maxRecDepth 100000 in
theorem xpS_zero (mn : Int) (x X : List El) (cx : Int) (sx : SegM x cx) (Hx : XpS x X) : XpS (x ++ [⟨4, [], mn, 0⟩]) [⟨0, [], 0, 0⟩] := by
  intro v w hv hlen
  obtain ⟨a, cp, rfl, -, -⟩ := id hv
  obtain ⟨hlen2, hcap, b, off, rfl, hbn, hel⟩ := hv.last
  rw [hlen2] at hv hcap ⊢
  simp only [List.length_append, List.length_singleton] at hv hlen hlen2 hel hcap ⊢
  unfold maxLen at hcap
  obtain ⟨i1, i2, i3, sv, c0, c1, c2, c3, hints⟩ := hel
  obtain ⟨sa, sc, rfl, -, -, -⟩ := id hints
  simp only at c0 c2 c3
  clear hlen2 i1 i2 i3 hints
  have pl := sx.ne
  have hvL : ElsAt 0 w.heap.size w (.slice (some ⟨b, off, none⟩) x.length cp) x := hv.pre
  have HvL := hide hvL
  clear hvL hv
  go_enter Try.func17, Try.ntmps17
  go_wp2_with fail
  refine (Hx _ _ (by exact (unhide HvL).below (below1 w _) (Nat.le_refl _)) (by omega)).mono ?_
  rintro e w1 ⟨v1, rfl, hg1, hb1⟩
  have hB1 : Below w.heap.size w w1 := (below1 w _).trans (hb1.mono (by rw [sz_alloc]; omega))
  obtain ⟨hcc, -⟩ := bcell hb1
  simp only [sz_alloc] at hcc
  clear hb1 hg1
  go_wp2_with fail
  refine (l1empty_w _).mono ?_
  rintro e w2 ⟨v2, rfl, hg2, hb2⟩
  have Hg2 := hide (hg2.base hB1.size)
  have hB2 : Below w.heap.size w w2 := hB1.trans (hb2.mono hB1.size)
  clear hg2 hb2 hcc
  go_wp2
  go_ret
  exact ⟨_, rfl, unhide Hg2, hB2⟩

end Go.Proofs.Ytjoaapoppcibdaa
