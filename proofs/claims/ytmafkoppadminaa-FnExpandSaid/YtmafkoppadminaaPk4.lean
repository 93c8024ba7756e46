import Derived.Test.YtmafkoppadminaaPk3
import Derived.Test.YtmafkoppadminaaPk1
import Derived.Maps.AppendAt
namespace Go.Proofs.Ytmafkoppadminaa
open Go.RowKit
theorem ints_sl {lo n : Nat} {w : World} {v : Value} {xs : List Int} (h : IntsAt lo n w v xs) : SlAt mI 0 lo n w v xs := by
  obtain ⟨a, cap, rfl, hl, hr, hc⟩ := h
  exact ⟨a, cap, rfl, hl, hc⟩
theorem El4.putK {w : World} {b o : Nat} {x : El} {sv : Value} (h : El4 w b o x sv) (k : Int) : El4 (w.setCell ⟨b, o, none⟩ (.int .i64 k)) b o ⟨k, x.set, x.mn, x.mx⟩ sv := by
  obtain ⟨h0, h1, h2, h3⟩ := h
  exact ⟨put_same h0, by rw [put_other (Or.inr (by omega))]; exact h1, by rw [put_other (Or.inr (by omega))]; exact h2, by rw [put_other (Or.inr (by omega))]; exact h3⟩
theorem El4.putM {w : World} {b o : Nat} {x : El} {sv : Value} (h : El4 w b o x sv) (k : Int) : El4 (w.setCell ⟨b, o + 2, none⟩ (.int .i64 k)) b o ⟨x.kind, x.set, k, x.mx⟩ sv := by
  obtain ⟨h0, h1, h2, h3⟩ := h
  exact ⟨by rw [put_other (Or.inr (by omega))]; exact h0, by rw [put_other (Or.inr (by omega))]; exact h1, put_same h2, by rw [put_other (Or.inr (by omega))]; exact h3⟩
theorem El4.putX {w : World} {b o : Nat} {x : El} {sv : Value} (h : El4 w b o x sv) (k : Int) : El4 (w.setCell ⟨b, o + 3, none⟩ (.int .i64 k)) b o ⟨x.kind, x.set, x.mn, k⟩ sv := by
  obtain ⟨h0, h1, h2, h3⟩ := h
  exact ⟨by rw [put_other (Or.inr (by omega))]; exact h0, by rw [put_other (Or.inr (by omega))]; exact h1, by rw [put_other (Or.inr (by omega))]; exact h2, put_same h3⟩
theorem Unf.put {w : World} {b b' o : Nat} {u : Value} (h : Unf w b) : Unf (w.setCell ⟨b', o, none⟩ u) b := by
  by_cases e : b = b'
  · subst e; exact own_put h
  · exact h.same (Below.heap_setCell _ _ _ _ (by exact e))
def ElsF (S : Nat → Prop) (w : World) (v : Value) (xs : List El) : Prop :=
  ∃ a cap, v = .slice a xs.length cap ∧ (xs.length ≤ cap ∧ cap ≤ maxLen) ∧ (0 < xs.length → ∃ (b off : Nat) (sv : Nat → Value) (T : Nat → Nat → Prop), a = some ⟨b, off, none⟩ ∧ S b ∧ Free w b ∧
    (∀ i : Nat, i < xs.length → El4 w b (off + i * 4) (xs[i]?.getD dE) (sv i)) ∧ (∀ i : Nat, i < xs.length → SlF mI 0 (T i) w (sv i) (xs[i]?.getD dE).set) ∧
    (∀ i : Nat, i < xs.length → ∀ k, T i k → S k ∧ k ≠ b) ∧ ∀ i j : Nat, i < xs.length → j < xs.length → i ≠ j → ∀ k, T i k → ¬ T j k)
theorem ElsW.foot {lo n : Nat} {w : World} {v : Value} {xs : List El} (h : ElsW lo n w v xs) : ElsF (Rng lo n) w v xs := by
  obtain ⟨a, cap, rfl, hl, hc⟩ := h
  refine ⟨a, cap, rfl, hl, fun hp => ?_⟩
  obtain ⟨b, off, sv, sb, e, h1, h2, h3, h4, h5, h6, h7⟩ := hc hp
  exact ⟨b, off, sv, fun i => Rng (sb i) (sb i + 1), e, ⟨h1, h2⟩, h3, h4, fun i hi => (h7 i hi).foot, fun i hi k hk => by have := h5 i hi; unfold Rng at *; omega,
    fun i j hi hj hne k hk hk' => by have := h6 i j hi hj hne; unfold Rng at *; omega⟩
theorem ElsF.same {S : Nat → Prop} {w w' : World} {v : Value} {xs : List El} (h : ElsF S w v xs) (hs : ∀ k, S k → w'.heap[k]? = w.heap[k]?) : ElsF S w' v xs := by
  obtain ⟨a, cap, rfl, hl, hc⟩ := h
  refine ⟨a, cap, rfl, hl, fun hp => ?_⟩
  obtain ⟨b, off, sv, T, e, h1, h2, h3, h4, h5, h6⟩ := hc hp
  exact ⟨b, off, sv, T, e, h1, h2.same (hs b h1), fun i hi => (h3 i hi).same (hs b h1), fun i hi => (h4 i hi).same (fun k hk => hs k (h5 i hi k hk).1), h5, h6⟩
theorem ElsF.mono {S S' : Nat → Prop} {w : World} {v : Value} {xs : List El} (h : ElsF S w v xs) (hs : ∀ k, S k → S' k) : ElsF S' w v xs := by
  obtain ⟨a, cap, rfl, hl, hc⟩ := h
  refine ⟨a, cap, rfl, hl, fun hp => ?_⟩
  obtain ⟨b, off, sv, T, e, h1, h2, h3, h4, h5, h6⟩ := hc hp
  exact ⟨b, off, sv, T, e, hs b h1, h2, h3, h4, fun i hi k hk => ⟨hs k (h5 i hi k hk).1, (h5 i hi k hk).2⟩, h6⟩
def Num (xs : List El) : Prop := ∀ i : Nat, In64 (xs[i]?.getD dE).kind ∧ In64 (xs[i]?.getD dE).mn ∧ In64 (xs[i]?.getD dE).mx ∧ ∀ j : Nat, In64 ((xs[i]?.getD dE).set[j]?.getD 0)
theorem ElsF.at {S : Nat → Prop} {N : Nat} {w : World} {v : Value} {xs : List El} (h : ElsF S w v xs) (hs : ∀ k, S k → k < N) (hr : Num xs) : ElsAt 0 N w v xs := by
  obtain ⟨a, cap, rfl, hl, hc⟩ := h
  refine ⟨a, cap, rfl, hl, fun hp => ?_⟩
  obtain ⟨b, off, sv, T, e, h1, h2, h3, h4, h5, h6⟩ := hc hp
  refine ⟨b, off, e, Nat.zero_le _, hs b h1, fun i hi => ?_⟩
  obtain ⟨r1, r2, r3, r4⟩ := hr i
  obtain ⟨q0, q1, q2, q3⟩ := h3 i hi
  refine ⟨r1, r2, r3, sv i, q0, q1, q2, q3, ?_⟩
  obtain ⟨a', cap', e', hl', hc'⟩ := (h4 i hi).at (N := N) (fun k hk => hs k (h5 i hi k hk).1)
  refine ⟨a', cap', e', hl', r4, fun hp' => ?_⟩
  obtain ⟨b', off', e2, k1, k2, k4⟩ := hc' hp'
  exact ⟨b', off', e2, k1, k2, k4⟩
structure Pc where
  x : El
  s : Value
  T : Nat → Prop
def cell4 (x : El) (s : Value) : List Value := [.int .i64 x.kind, s, .int .i64 x.mn, .int .i64 x.mx]
def cellsP : List Pc → List Value
  | [] => []
  | p :: r => cell4 p.x p.s ++ cellsP r
theorem cellsP_append (a b : List Pc) : cellsP (a ++ b) = cellsP a ++ cellsP b := by
  induction a with
  | nil => rfl
  | cons p r ih => simp [cellsP, ih]
theorem cellsP_len (a : List Pc) : (cellsP a).length = a.length * 4 := by
  induction a with
  | nil => rfl
  | cons p r ih => simp [cellsP, ih, cell4]; omega
theorem cellsP_get (a : List Pc) (i : Nat) (p : Pc) (h : a[i]? = some p) (j : Nat) (hj : j < 4) : (cellsP a)[i * 4 + j]? = (cell4 p.x p.s)[j]? := by
  induction a generalizing i with
  | nil => simp at h
  | cons q r ih =>
    cases i with
    | zero =>
      simp at h
      subst h
      rw [cellsP, List.getElem?_append_left (by simp [cell4]; omega)]
      simp
    | succ i =>
      rw [cellsP, List.getElem?_append_right (by simp [cell4]; omega), show (i + 1) * 4 + j - (cell4 q.x q.s).length = i * 4 + j by simp [cell4]; omega]
      exact ih i (by simpa using h)
theorem cellsP_one (a : List Pc) (hs : ∀ p ∈ a, p.s.oneCell' = true) : ∀ u ∈ cellsP a, u.oneCell' = true := by
  induction a with
  | nil => intro u hu; simp [cellsP] at hu
  | cons p r ih =>
    intro u hu
    simp only [cellsP, cell4, List.mem_append, List.mem_cons, List.not_mem_nil, or_false] at hu
    rcases hu with (rfl | rfl | rfl | rfl) | hu
    · rfl
    · exact hs p (by simp)
    · rfl
    · rfl
    · exact ih (fun q hq => hs q (by simp [hq])) u hu
def Apart (ps : List Pc) : Prop := ps.Pairwise (fun p q => ∀ k, p.T k → ¬ q.T k)
structure GrowP (base : Nat) (w : World) (v : Value) (ps : List Pc) : Prop where
  own : w.ownsRow base 32 4 v ps.length (cellsP ps)
  set : ∀ p ∈ ps, SlF mI 0 p.T w p.s p.x.set
  blk : ∀ p ∈ ps, ∀ k, p.T k → base ≤ k ∧ k < w.heap.size ∧ v.ownBlock ≠ some k
  dis : Apart ps
def GrowE (base : Nat) (w : World) (v : Value) (xs : List El) : Prop := ∃ ps : List Pc, ps.map Pc.x = xs ∧ GrowP base w v ps
theorem GrowE.nil (base : Nat) (w : World) : GrowE base w (.slice none 0 0) [] := ⟨[], rfl, World.ownsRow_nil _ _ _ _, by simp, by simp, List.Pairwise.nil⟩
theorem GrowP.keep {base m : Nat} {w w' : World} {v : Value} {ps : List Pc} (h : GrowP base w v ps) (hb : Below m w w') (hm : w.heap.size ≤ m) : GrowP base w' v ps :=
  ⟨h.own.kept (show w.grownBy w' none from ⟨hb.os, hb.tape, hb.output, hb.size, fun k hk _ => hb.block k (by omega)⟩) (by cases v.ownBlock <;> simp),
   fun p hp => (h.set p hp).same (fun k hk => hb.block k (by have := (h.blk p hp k hk).2.1; omega)), fun p hp k hk => by have h1 := h.blk p hp k hk; have h2 := hb.size; exact ⟨h1.1, by omega, h1.2.2⟩, h.dis⟩
theorem GrowE.keep {base m : Nat} {w w' : World} {v : Value} {xs : List El} (h : GrowE base w v xs) (hb : Below m w w') (hm : w.heap.size ≤ m) : GrowE base w' v xs := by
  obtain ⟨ps, e, h1⟩ := h
  exact ⟨ps, e, h1.keep hb hm⟩
theorem GrowP.app {base : Nat} {w0 w w' : World} {v v' : Value} {ps qs : List Pc} (h : GrowP base w0 v ps) (hbase : base ≤ w0.heap.size) (hb : Below w0.heap.size w0 w) (hq : ∀ p ∈ qs, SlF mI 0 p.T w p.s p.x.set) (hT : ∀ p ∈ qs, ∀ k, p.T k → w0.heap.size ≤ k ∧ k < w.heap.size) (hd : Apart qs)
    (h1 : w'.ownsRow base 32 4 v' (ps.length + qs.length) (cellsP ps ++ cellsP qs)) (hg : w.grownBy w' v.ownBlock) (ho : v'.ownBlock = v.ownBlock ∨ v'.ownBlock = some w.heap.size) : GrowP base w' v' (ps ++ qs) := by
  have hs := hb.size
  have hgz : w.heap.size ≤ w'.heap.size := hg.size
  have hvb : ∀ k, w0.heap.size ≤ k → v.ownBlock ≠ some k := fun k hk e => by have := (h.own.lt k e).2; omega
  have hv'b : ∀ k, k < w.heap.size → v.ownBlock ≠ some k → v'.ownBlock ≠ some k := fun k hk hne e => by
    rcases ho with ho | ho
    · exact hne (by rw [← ho, e])
    · rw [ho] at e; simp at e; omega
  have hblk : ∀ k, k < w.heap.size → v.ownBlock ≠ some k → w'.heap[k]? = w.heap[k]? := fun k hk hne => hg.block k hk (fun e => hne e.symm)
  refine ⟨by rw [List.length_append, cellsP_append]; exact h1, fun p hp => ?_, fun p hp k hk => ?_, List.pairwise_append.2 ⟨h.dis, hd, fun p hp q hq2 k hk hk' => ?_⟩⟩
  · rcases List.mem_append.1 hp with hp | hp
    · refine ((h.set p hp).same (w' := w) (fun k hk => hb.block k (h.blk p hp k hk).2.1)).same (fun k hk => ?_)
      have := h.blk p hp k hk
      exact hblk k (by omega) this.2.2
    · exact (hq p hp).same (fun k hk => hblk k (hT p hp k hk).2 (hvb k (hT p hp k hk).1))
  · rcases List.mem_append.1 hp with hp | hp
    · have := h.blk p hp k hk
      exact ⟨this.1, by omega, hv'b k (by omega) this.2.2⟩
    · have := hT p hp k hk
      exact ⟨by omega, by omega, hv'b k this.2 (hvb k this.1)⟩
  · have h3 := h.blk p hp k hk
    have h4 := hT q hq2 k hk'
    omega
theorem GrowP.foot {base : Nat} {w : World} {v : Value} {ps : List Pc} (h : GrowP base w v ps) : ElsF (Rng base w.heap.size) w v (ps.map Pc.x) := by
  rcases h.own.2 with ⟨rfl, hz⟩ | ⟨g, cap, cur, rfl, hbg, hgc, hnc, hcm, hcs, htake⟩
  · obtain rfl : ps = [] := List.eq_nil_of_length_eq_zero hz
    exact ⟨none, 0, rfl, ⟨Nat.le_refl _, by unfold maxLen; omega⟩, fun hp => absurd hp (by simp)⟩
  · have hlt := (h.own.lt g rfl).2
    refine ⟨_, cap, by simp, ⟨by simpa using hnc, hcm⟩, fun _ => ⟨g, 0, fun i => (ps[i]?.map Pc.s).getD undef, fun i k => ∃ p, ps[i]? = some p ∧ p.T k, rfl, ⟨hbg, hlt⟩, ⟨cur, _, hgc⟩, fun i hi => ?_, fun i hi => ?_, fun i hi k hk => ?_, fun i j hi hj hne k hk hk' => ?_⟩⟩
    · rw [List.length_map] at hi
      have hp : ps[i]? = some ps[i] := List.getElem?_eq_getElem hi
      have e : (ps.map Pc.x)[i]?.getD dE = ps[i].x := by rw [List.getElem?_map, hp]; rfl
      simp only [hp, Option.map_some, Option.getD_some, e, Nat.zero_add]
      have hc : ∀ j, j < 4 → w.cell? ⟨g, i * 4 + j, none⟩ = (cell4 ps[i].x ps[i].s)[j]? := fun j hj => by
        rw [h.own.cellAt (i * 4 + j) (by omega)]; exact cellsP_get ps i _ hp j hj
      exact ⟨hc 0 (by omega), hc 1 (by omega), hc 2 (by omega), hc 3 (by omega)⟩
    · rw [List.length_map] at hi
      have hp : ps[i]? = some ps[i] := List.getElem?_eq_getElem hi
      have e : (ps.map Pc.x)[i]?.getD dE = ps[i].x := by rw [List.getElem?_map, hp]; rfl
      simp only [hp, Option.map_some, Option.getD_some, e]
      exact (h.set _ (List.getElem_mem hi)).mono (fun k hk => ⟨_, rfl, hk⟩)
    · obtain ⟨p, hp, hk⟩ := hk
      have hm := List.mem_of_getElem? hp
      have := h.blk p hm k hk
      exact ⟨⟨this.1, this.2.1⟩, fun e => this.2.2 (by rw [e]; rfl)⟩
    · obtain ⟨p, hp, hk⟩ := hk
      obtain ⟨q, hq, hk'⟩ := hk'
      rw [List.length_map] at hi hj
      rw [List.getElem?_eq_getElem hi] at hp
      rw [List.getElem?_eq_getElem hj] at hq
      simp only [Option.some.injEq] at hp hq
      subst hp hq
      rcases Nat.lt_or_gt_of_ne hne with hlt | hgt
      · exact List.pairwise_iff_getElem.1 h.dis i j hi hj hlt k hk hk'
      · exact List.pairwise_iff_getElem.1 h.dis j i hj hi hgt k hk' hk
theorem GrowE.foot {base : Nat} {w : World} {v : Value} {xs : List El} (h : GrowE base w v xs) : ElsF (Rng base w.heap.size) w v xs := by
  obtain ⟨ps, rfl, h1⟩ := h
  exact h1.foot
theorem GrowE.base {base base' : Nat} {w : World} {v : Value} {xs : List El} (h : GrowE base w v xs) (hb : base' ≤ base) : GrowE base' w v xs := by
  obtain ⟨ps, e, h1⟩ := h
  refine ⟨ps, e, ⟨h1.own.1, h1.own.2.imp id (fun ⟨g, cap, cur, q1, q2, q3⟩ => ⟨g, cap, cur, q1, by omega, q3⟩)⟩, h1.set, fun p hp k hk => ⟨by have := (h1.blk p hp k hk).1; omega, (h1.blk p hp k hk).2⟩, h1.dis⟩
theorem GrowE.form {base : Nat} {w : World} {v : Value} {xs : List El} (h : GrowE base w v xs) : ∃ a c, v = .slice a xs.length c := by
  obtain ⟨ps, rfl, h1⟩ := h
  rcases h1.own.2 with ⟨rfl, hz⟩ | ⟨g, cap, cur, rfl, -⟩
  · exact ⟨none, 0, by rw [List.length_map, hz]⟩
  · exact ⟨_, cap, by rw [List.length_map]⟩
end Go.Proofs.Ytmafkoppadminaa
