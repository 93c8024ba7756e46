import Derived.Test.YtmhafibngbojcaaDoorP3
import Derived.Maps.AppendAt
import Derived.Test.YtmhafibngbojcaaDoorP1
import Derived.Deep.QuietTactic
import Derived.BigQuiet
import Derived.WalkSmall
import Derived.RegionTactic
import Derived.BigRegion
import Derived.Deep.RegionWith
import Derived.Deep.OwnRows
namespace Go.Proofs.YtmhafibngbojcaaDoor
open Go.RowKit

/-- v is a slice of elements, xs, that owns its memory, in the blocks of S: the row of the elements and a row for each set, all apart. -/
def ElsF (S : Nat → Prop) (w : World) (v : Value) (xs : List El) : Prop :=
  ∃ a cap, v = .slice a xs.length cap ∧ (xs.length ≤ cap ∧ cap ≤ maxLen) ∧ (0 < xs.length → ∃ (b off : Nat) (sv : Nat → Value) (T : Nat → Nat → Prop), a = some ⟨b, off, none⟩ ∧ S b ∧ Free w b ∧
    (∀ i : Nat, i < xs.length → El4 w b (off + i * 4) (xs[i]?.getD dE) (sv i)) ∧ (∀ i : Nat, i < xs.length → SlF mI 0 (T i) w (sv i) (xs[i]?.getD dE).set) ∧
    (∀ i : Nat, i < xs.length → ∀ k, T i k → S k ∧ k ≠ b) ∧ ∀ i j : Nat, i < xs.length → j < xs.length → i ≠ j → ∀ k, T i k → ¬ T j k)

theorem ElsW.foot {lo n : Nat} {w : World} {v : Value} {xs : List El} (h : ElsW lo n w v xs) : ElsF (Rng lo n) w v xs := by
  obtain ⟨a, cap, rfl, hl, hc⟩ := h
  refine ⟨a, cap, rfl, hl, fun hp => ?_⟩
  obtain ⟨b, off, sv, sb, e, h1, h2, h3, h4, h5, h6, h7⟩ := hc hp
  exact ⟨b, off, sv, fun i => Rng (sb i) (sb i + 1), e, ⟨h1, h2⟩, h3, h4, fun i hi => (h7 i hi).foot, fun i hi k hk => by have := h5 i hi; unfold Rng at *; omega,
    fun i j hi hj hne k hk hk' => by have := h6 i j hi hj hne; unfold Rng at *; omega⟩
theorem ElsF.same {S : Nat → Prop} {w w' : World} {v : Value} {xs : List El} (h : ElsF S w v xs) (hs : ∀ k, S k → w'.heap[k]? = w.heap[k]?) : ElsF S w' v xs := by
  obtain ⟨a, cap, rfl, hl, hc⟩ := h
  refine ⟨a, cap, rfl, hl, fun hp => ?_⟩
  obtain ⟨b, off, sv, T, e, h1, h2, h3, h4, h5, h6⟩ := hc hp
  exact ⟨b, off, sv, T, e, h1, h2.same (hs b h1), fun i hi => (h3 i hi).same (hs b h1), fun i hi => (h4 i hi).same (fun k hk => hs k (h5 i hi k hk).1), h5, h6⟩
theorem ElsF.mono {S S' : Nat → Prop} {w : World} {v : Value} {xs : List El} (h : ElsF S w v xs) (hs : ∀ k, S k → S' k) : ElsF S' w v xs := by
  obtain ⟨a, cap, rfl, hl, hc⟩ := h
  refine ⟨a, cap, rfl, hl, fun hp => ?_⟩
  obtain ⟨b, off, sv, T, e, h1, h2, h3, h4, h5, h6⟩ := hc hp
  exact ⟨b, off, sv, T, e, hs b h1, h2, h3, h4, fun i hi k hk => ⟨hs k (h5 i hi k hk).1, (h5 i hi k hk).2⟩, h6⟩

/-- The numbers of an element lie within 64 bits. -/
def Num (xs : List El) : Prop := ∀ i : Nat, In64 (xs[i]?.getD dE).kind ∧ In64 (xs[i]?.getD dE).mn ∧ In64 (xs[i]?.getD dE).mx ∧ ∀ j : Nat, In64 ((xs[i]?.getD dE).set[j]?.getD 0)
theorem ElsF.at {S : Nat → Prop} {N : Nat} {w : World} {v : Value} {xs : List El} (h : ElsF S w v xs) (hs : ∀ k, S k → k < N) (hr : Num xs) : ElsAt 0 N w v xs := by
  obtain ⟨a, cap, rfl, hl, hc⟩ := h
  refine ⟨a, cap, rfl, hl, fun hp => ?_⟩
  obtain ⟨b, off, sv, T, e, h1, h2, h3, h4, h5, h6⟩ := hc hp
  refine ⟨b, off, e, Nat.zero_le _, hs b h1, fun i hi => ?_⟩
  obtain ⟨r1, r2, r3, r4⟩ := hr i
  obtain ⟨q0, q1, q2, q3⟩ := h3 i hi
  refine ⟨r1, r2, r3, sv i, q0, q1, q2, q3, ?_⟩
  obtain ⟨a', cap', e', hl', hc'⟩ := (h4 i hi).at (N := N) (fun k hk => hs k (h5 i hi k hk).1)
  refine ⟨a', cap', e', hl', r4, fun hp' => ?_⟩
  obtain ⟨b', off', e2, k1, k2, k4⟩ := hc' hp'
  exact ⟨b', off', e2, k1, k2, k4⟩

/-- An element, the value of its set, and the blocks of that. -/
structure Pc where
  x : El
  s : Value
  T : Nat → Prop
def cell4 (x : El) (s : Value) : List Value := [.int .i64 x.kind, s, .int .i64 x.mn, .int .i64 x.mx]
def cellsP : List Pc → List Value
  | [] => []
  | p :: r => cell4 p.x p.s ++ cellsP r
theorem cellsP_append (a b : List Pc) : cellsP (a ++ b) = cellsP a ++ cellsP b := by
  induction a with
  | nil => rfl
  | cons p r ih => simp [cellsP, ih]
theorem cellsP_len (a : List Pc) : (cellsP a).length = a.length * 4 := by
  induction a with
  | nil => rfl
  | cons p r ih => simp [cellsP, ih, cell4]; omega
theorem cellsP_get (a : List Pc) (i : Nat) (p : Pc) (h : a[i]? = some p) (j : Nat) (hj : j < 4) : (cellsP a)[i * 4 + j]? = (cell4 p.x p.s)[j]? := by
  induction a generalizing i with
  | nil => simp at h
  | cons q r ih =>
    cases i with
    | zero =>
      simp at h
      subst h
      rw [cellsP, List.getElem?_append_left (by simp [cell4]; omega)]
      simp
    | succ i =>
      rw [cellsP, List.getElem?_append_right (by simp [cell4]; omega), show (i + 1) * 4 + j - (cell4 q.x q.s).length = i * 4 + j by simp [cell4]; omega]
      exact ih i (by simpa using h)
theorem cellsP_one (a : List Pc) (hs : ∀ p ∈ a, p.s.oneCell' = true) : ∀ u ∈ cellsP a, u.oneCell' = true := by
  induction a with
  | nil => intro u hu; simp [cellsP] at hu
  | cons p r ih =>
    intro u hu
    simp only [cellsP, cell4, List.mem_append, List.mem_cons, List.not_mem_nil, or_false] at hu
    rcases hu with (rfl | rfl | rfl | rfl) | hu
    · rfl
    · exact hs p (by simp)
    · rfl
    · rfl
    · exact ih (fun q hq => hs q (by simp [hq])) u hu

def Apart (ps : List Pc) : Prop := ps.Pairwise (fun p q => ∀ k, p.T k → ¬ q.T k)
/-- v is a slice of its own, from block base on, of these elements. -/
structure GrowP (base : Nat) (w : World) (v : Value) (ps : List Pc) : Prop where
  own : w.ownsRow base 53 4 v ps.length (cellsP ps)
  set : ∀ p ∈ ps, SlF mI 0 p.T w p.s p.x.set
  blk : ∀ p ∈ ps, ∀ k, p.T k → base ≤ k ∧ k < w.heap.size ∧ v.ownBlock ≠ some k
  dis : Apart ps
def GrowE (base : Nat) (w : World) (v : Value) (xs : List El) : Prop := ∃ ps : List Pc, ps.map Pc.x = xs ∧ GrowP base w v ps

theorem GrowE.nil (base : Nat) (w : World) : GrowE base w (.slice none 0 0) [] := ⟨[], rfl, World.ownsRow_nil _ _ _ _, by simp, by simp, List.Pairwise.nil⟩
theorem GrowP.keep {base m : Nat} {w w' : World} {v : Value} {ps : List Pc} (h : GrowP base w v ps) (hb : Below m w w') (hm : w.heap.size ≤ m) : GrowP base w' v ps :=
  ⟨h.own.kept (show w.grownBy w' none from ⟨hb.os, hb.tape, hb.output, hb.size, fun k hk _ => hb.block k (by omega)⟩) (by cases v.ownBlock <;> simp),
   fun p hp => (h.set p hp).same (fun k hk => hb.block k (by have := (h.blk p hp k hk).2.1; omega)), fun p hp k hk => by have h1 := h.blk p hp k hk; have h2 := hb.size; exact ⟨h1.1, by omega, h1.2.2⟩, h.dis⟩
theorem GrowE.keep {base m : Nat} {w w' : World} {v : Value} {xs : List El} (h : GrowE base w v xs) (hb : Below m w w') (hm : w.heap.size ≤ m) : GrowE base w' v xs := by
  obtain ⟨ps, e, h1⟩ := h
  exact ⟨ps, e, h1.keep hb hm⟩

/-- What an append of further elements leaves. -/
theorem GrowP.app {base : Nat} {w0 w w' : World} {v v' : Value} {ps qs : List Pc} (h : GrowP base w0 v ps) (hbase : base ≤ w0.heap.size) (hb : Below w0.heap.size w0 w) (hq : ∀ p ∈ qs, SlF mI 0 p.T w p.s p.x.set) (hT : ∀ p ∈ qs, ∀ k, p.T k → w0.heap.size ≤ k ∧ k < w.heap.size) (hd : Apart qs)
    (h1 : w'.ownsRow base 53 4 v' (ps.length + qs.length) (cellsP ps ++ cellsP qs)) (hg : w.grownBy w' v.ownBlock) (ho : v'.ownBlock = v.ownBlock ∨ v'.ownBlock = some w.heap.size) : GrowP base w' v' (ps ++ qs) := by
  have hs := hb.size
  have hgz : w.heap.size ≤ w'.heap.size := hg.size
  have hvb : ∀ k, w0.heap.size ≤ k → v.ownBlock ≠ some k := fun k hk e => by have := (h.own.lt k e).2; omega
  have hv'b : ∀ k, k < w.heap.size → v.ownBlock ≠ some k → v'.ownBlock ≠ some k := fun k hk hne e => by
    rcases ho with ho | ho
    · exact hne (by rw [← ho, e])
    · rw [ho] at e; simp at e; omega
  have hblk : ∀ k, k < w.heap.size → v.ownBlock ≠ some k → w'.heap[k]? = w.heap[k]? := fun k hk hne => hg.block k hk (fun e => hne e.symm)
  refine ⟨by rw [List.length_append, cellsP_append]; exact h1, fun p hp => ?_, fun p hp k hk => ?_, List.pairwise_append.2 ⟨h.dis, hd, fun p hp q hq2 k hk hk' => ?_⟩⟩
  · rcases List.mem_append.1 hp with hp | hp
    · refine ((h.set p hp).same (w' := w) (fun k hk => hb.block k (h.blk p hp k hk).2.1)).same (fun k hk => ?_)
      have := h.blk p hp k hk
      exact hblk k (by omega) this.2.2
    · exact (hq p hp).same (fun k hk => hblk k (hT p hp k hk).2 (hvb k (hT p hp k hk).1))
  · rcases List.mem_append.1 hp with hp | hp
    · have := h.blk p hp k hk
      exact ⟨this.1, by omega, hv'b k (by omega) this.2.2⟩
    · have := hT p hp k hk
      exact ⟨by omega, by omega, hv'b k this.2 (hvb k this.1)⟩
  · have h3 := h.blk p hp k hk
    have h4 := hT q hq2 k hk'
    omega

theorem GrowP.foot {base : Nat} {w : World} {v : Value} {ps : List Pc} (h : GrowP base w v ps) : ElsF (Rng base w.heap.size) w v (ps.map Pc.x) := by
  rcases h.own.2 with ⟨rfl, hz⟩ | ⟨g, cap, cur, rfl, hbg, hgc, hnc, hcm, hcs, htake⟩
  · obtain rfl : ps = [] := List.eq_nil_of_length_eq_zero hz
    exact ⟨none, 0, rfl, ⟨Nat.le_refl _, by unfold maxLen; omega⟩, fun hp => absurd hp (by simp)⟩
  · have hlt := (h.own.lt g rfl).2
    refine ⟨_, cap, by simp, ⟨by simpa using hnc, hcm⟩, fun _ => ⟨g, 0, fun i => (ps[i]?.map Pc.s).getD undef, fun i k => ∃ p, ps[i]? = some p ∧ p.T k, rfl, ⟨hbg, hlt⟩, ⟨cur, _, hgc⟩, fun i hi => ?_, fun i hi => ?_, fun i hi k hk => ?_, fun i j hi hj hne k hk hk' => ?_⟩⟩
    · rw [List.length_map] at hi
      have hp : ps[i]? = some ps[i] := List.getElem?_eq_getElem hi
      have e : (ps.map Pc.x)[i]?.getD dE = ps[i].x := by rw [List.getElem?_map, hp]; rfl
      simp only [hp, Option.map_some, Option.getD_some, e, Nat.zero_add]
      have hc : ∀ j, j < 4 → w.cell? ⟨g, i * 4 + j, none⟩ = (cell4 ps[i].x ps[i].s)[j]? := fun j hj => by
        rw [h.own.cellAt (i * 4 + j) (by omega)]; exact cellsP_get ps i _ hp j hj
      exact ⟨hc 0 (by omega), hc 1 (by omega), hc 2 (by omega), hc 3 (by omega)⟩
    · rw [List.length_map] at hi
      have hp : ps[i]? = some ps[i] := List.getElem?_eq_getElem hi
      have e : (ps.map Pc.x)[i]?.getD dE = ps[i].x := by rw [List.getElem?_map, hp]; rfl
      simp only [hp, Option.map_some, Option.getD_some, e]
      exact (h.set _ (List.getElem_mem hi)).mono (fun k hk => ⟨_, rfl, hk⟩)
    · obtain ⟨p, hp, hk⟩ := hk
      have hm := List.mem_of_getElem? hp
      have := h.blk p hm k hk
      exact ⟨⟨this.1, this.2.1⟩, fun e => this.2.2 (by rw [e]; rfl)⟩
    · obtain ⟨p, hp, hk⟩ := hk
      obtain ⟨q, hq, hk'⟩ := hk'
      rw [List.length_map] at hi hj
      rw [List.getElem?_eq_getElem hi] at hp
      rw [List.getElem?_eq_getElem hj] at hq
      simp only [Option.some.injEq] at hp hq
      subst hp hq
      rcases Nat.lt_or_gt_of_ne hne with hlt | hgt
      · exact List.pairwise_iff_getElem.1 h.dis i j hi hj hlt k hk hk'
      · exact List.pairwise_iff_getElem.1 h.dis j i hj hi hgt k hk' hk
theorem GrowE.foot {base : Nat} {w : World} {v : Value} {xs : List El} (h : GrowE base w v xs) : ElsF (Rng base w.heap.size) w v xs := by
  obtain ⟨ps, rfl, h1⟩ := h
  exact h1.foot
theorem GrowE.base {base base' : Nat} {w : World} {v : Value} {xs : List El} (h : GrowE base w v xs) (hb : base' ≤ base) : GrowE base' w v xs := by
  obtain ⟨ps, e, h1⟩ := h
  refine ⟨ps, e, ⟨h1.own.1, h1.own.2.imp id (fun ⟨g, cap, cur, q1, q2, q3⟩ => ⟨g, cap, cur, q1, by omega, q3⟩)⟩, h1.set, fun p hp k hk => ⟨by have := (h1.blk p hp k hk).1; omega, (h1.blk p hp k hk).2⟩, h1.dis⟩
theorem GrowE.form {base : Nat} {w : World} {v : Value} {xs : List El} (h : GrowE base w v xs) : ∃ a c, v = .slice a xs.length c := by
  obtain ⟨ps, rfl, h1⟩ := h
  rcases h1.own.2 with ⟨rfl, hz⟩ | ⟨g, cap, cur, rfl, -⟩
  · exact ⟨none, 0, by rw [List.length_map, hz]⟩
  · exact ⟨_, cap, by rw [List.length_map]⟩

end Go.Proofs.YtmhafibngbojcaaDoor

namespace Go.Proofs.YtmhafibngbojcaaDoor
open Go.RowKit

/-- A set of bytes as a canonical list of ranges. -/
def PairOk (xs : List Int) (i : Nat) : Prop := xs[i]?.getD 0 ≤ xs[i + 1]?.getD 0 ∧ (0 < i → 2 ≤ xs[i]?.getD 0 - xs[i - 1]?.getD 0)
def Canon (xs : List Int) : Prop :=
  xs.length % 2 = 0 ∧ (∀ i : Nat, i < xs.length → 0 ≤ xs[i]?.getD 0 ∧ xs[i]?.getD 0 ≤ 255) ∧ ∀ m : Nat, 2 * m < xs.length → PairOk xs (2 * m)

set_option maxHeartbeats 1000000 in
theorem l1canon_any (v : Value) (xs : List Int) (w : World) (hv : IntsAt 0 w.heap.size w v xs) :
    Calls Tryd.prog 57 #[v] w fun e w' => RetB e (Canon xs) ∧ Below w.heap.size w w' := by
  obtain ⟨a, cap, rfl, hl, hr, hc⟩ := hv
  unfold maxLen at hl
  by_cases hev : xs.length % 2 = 0
  · have hev' : ((xs.length : Int) % 2 != 0) = false := by simp; omega
    go_enter Tryd.func57, Tryd.ntmps57
    go_wp2
    go_loop [3] (fun i => ∃ k : Nat, k ≤ xs.length ∧ i = .int .i64 k ∧ ∀ j : Nat, j < k → 0 ≤ xs[j]?.getD 0 ∧ xs[j]?.getD 0 ≤ 255) (fun i => xs.length - (intOf i).toNat)
    case atStart => exact ⟨0, Nat.zero_le _, rfl, fun j hj => absurd hj (Nat.not_lt_zero _)⟩
    case round =>
      obtain ⟨k, hk, rfl, hin⟩ := hrel
      by_cases hlt : k < xs.length
      · obtain ⟨b, off, rfl, -, hbn, hcell⟩ := hc (by omega)
        have hx := hcell k hlt
        have hlt' : (k : Int) < (xs.length : Int) := by omega
        have Hin := hide hin
        clear hin
        generalize hX : xs[k]?.getD 0 = x at *
        have HX := hide hX
        clear hX hcell
        by_cases h1 : x < 0
        · go_wp2
          go_ret
          exact ⟨RetB.no (by intro hcn; have := (hcn.2.1 k hlt).1; rw [unhide HX] at this; omega), Below.refl _ _⟩
        · by_cases h2 : 255 < x
          · go_wp2
            go_ret
            exact ⟨RetB.no (by intro hcn; have := (hcn.2.1 k hlt).2; rw [unhide HX] at this; omega), Below.refl _ _⟩
          · go_wp2
            go_round
            case rel => exact ⟨k + 1, by omega, by go_num, fun j hj => by
              by_cases e : j = k
              · subst e; rw [unhide HX]; omega
              · exact unhide Hin j (by omega)⟩
            case measure => simp [intOf]; omega
      · obtain rfl : k = xs.length := by omega
        have Hin := hide hin
        clear hin
        go_wp2
        go_loopw [4] (fun i wr => ∃ m : Nat, 2 * m ≤ xs.length ∧ i = .int .i64 (2 * m : Nat) ∧ (∀ j : Nat, j < m → PairOk xs (2 * j)) ∧ Below w.heap.size w wr) (fun i _ => xs.length - (intOf i).toNat)
        case atStart => exact ⟨0, Nat.zero_le _, rfl, fun j hj => absurd hj (Nat.not_lt_zero _), Below.refl _ _⟩
        case round =>
          obtain ⟨m, hm, rfl, hpr, hb⟩ := hrel
          have Hpr := hide hpr
          clear hpr
          by_cases hlt2 : 2 * m < xs.length
          · obtain ⟨b, off, rfl, -, hbn, hcell⟩ := hc (by omega)
            have hx : wr.cell? ⟨b, off + 2 * m, none⟩ = some (.int .i64 (xs[2 * m]?.getD 0)) := by rw [hb.cell (p := ⟨b, off + 2 * m, none⟩) hbn]; exact hcell _ hlt2
            have hy : wr.cell? ⟨b, off + (2 * m + 1), none⟩ = some (.int .i64 (xs[2 * m + 1]?.getD 0)) := by rw [hb.cell (p := ⟨b, off + (2 * m + 1), none⟩) hbn]; exact hcell _ (by omega)
            have hlt2' : (2 * (m : Int)) < (xs.length : Int) := by omega
            have hlt3' : (2 * (m : Int)) + 1 < (xs.length : Int) := by omega
            have bx := unhide Hin (2 * m) hlt2
            have byy := unhide Hin (2 * m + 1) (by omega)
            have e1 : ((2 * m : Nat) : Int) = 2 * (m : Int) := by omega
            generalize hX : xs[2 * m]?.getD 0 = x at *
            generalize hY : xs[2 * m + 1]?.getD 0 = y at *
            have HX := hide hX
            have HY := hide hY
            clear hX hY
            by_cases hgt : y < x
            · go_wp2
              go_quiet (fail)
              go_wp2
              go_ret
              exact ⟨RetB.no (by intro hcn; have := (hcn.2.2 m hlt2).1; rw [unhide HX, unhide HY] at this; omega), below_drewN hb _⟩
            · go_wp2
              go_quiet (fail)
              go_wp2
              by_cases hmp : 0 < m
              · have hmp' : 0 < 2 * (m : Int) := by omega
                have hz : wr.cell? ⟨b, off + (2 * m - 1), none⟩ = some (.int .i64 (xs[2 * m - 1]?.getD 0)) := by rw [hb.cell (p := ⟨b, off + (2 * m - 1), none⟩) hbn]; exact hcell _ (by omega)
                have bz := unhide Hin (2 * m - 1) (by omega)
                have hz1 : (2 * (m : Int) - 1).toNat = 2 * m - 1 := by omega
                have hz2 : 0 ≤ 2 * (m : Int) - 1 := by omega
                have hz3 : 2 * (m : Int) - 1 < (xs.length : Int) := by omega
                generalize hZ : xs[2 * m - 1]?.getD 0 = z at *
                have HZ := hide hZ
                clear hZ
                by_cases hdd : x - z < 2
                · go_quiet (fail)
                  go_wp2
                  go_ret
                  exact ⟨RetB.no (by intro hcn; have := (hcn.2.2 m hlt2).2 (by omega); rw [unhide HX, unhide HZ] at this; omega), below_drewN (below_drewN hb _) _⟩
                · go_quiet (fail)
                  go_wp2
                  go_roundw
                  case rel => exact ⟨m + 1, by omega, by congr 1, fun j hj => by
                    by_cases e : j = m
                    · subst e; exact ⟨by rw [unhide HX, unhide HY]; omega, fun _ => by rw [unhide HX, unhide HZ]; omega⟩
                    · exact unhide Hpr j (by omega), below_drewN hb _⟩
                  case measure => simp [intOf]; omega
              · have hmp' : decide (0 < 2 * (m : Int)) = false := by simp; omega
                go_quiet (fail)
                go_wp2
                go_roundw
                case rel => exact ⟨m + 1, by omega, by congr 1, fun j hj => by
                  by_cases e : j = m
                  · subst e; exact ⟨by rw [unhide HX, unhide HY]; omega, fun h => absurd h (by omega)⟩
                  · exact unhide Hpr j (by omega), below_drewN hb _⟩
                case measure => simp [intOf]; omega
          · go_wp2
            go_ret
            exact ⟨RetB.yes ⟨hev, unhide Hin, fun j hj => unhide Hpr j (by omega)⟩, hb⟩
  · have hev' : ((xs.length : Int) % 2 != 0) = true := by simp; omega
    go_enter Tryd.func57, Tryd.ntmps57
    go_wp2
    go_ret
    exact ⟨RetB.no (fun hcn => hev hcn.1), Below.refl _ _⟩

end Go.Proofs.YtmhafibngbojcaaDoor

namespace Go.Proofs.YtmhafibngbojcaaDoor
open Go.RowKit

/-- An element that a valid tree may hold. -/
def ElOk (x : El) : Prop :=
  (x.kind = 1 ∧ Canon x.set ∧ x.mn = 0 ∧ x.mx = 0) ∨ ((x.kind = 0 ∨ x.kind = 2 ∨ x.kind = 3) ∧ x.set.length = 0 ∧ x.mn = 0 ∧ x.mx = 0) ∨
  (x.kind = 4 ∧ x.set.length = 0 ∧ 0 ≤ x.mn ∧ x.mn ≤ 250 ∧ (x.mx = -1 ∨ (x.mn ≤ x.mx ∧ x.mx ≤ 250)))

set_option maxHeartbeats 1000000 in
theorem l1opOK_any (v : Value) (x : El) (w : World) (hv : IntsAt 0 w.heap.size w v x.set) :
    Calls Tryd.prog 37 #[.agg #[.int .i64 x.kind, v, .int .i64 x.mn, .int .i64 x.mx]] w fun e w' => RetB e (ElOk x) ∧ Below w.heap.size w w' := by
  obtain ⟨a, cap, rfl, hl, -, -⟩ := id hv
  unfold maxLen at hl
  obtain ⟨k, xs, mn, mx⟩ := x
  simp only at *
  by_cases h1 : k = 1
  · subst h1
    go_enter Tryd.func37, Tryd.ntmps37
    go_wp2_with fail
    refine (l1canon_any _ xs _ (by exact hv.below (below1 w _) (Nat.le_refl _))).mono ?_
    rintro e w1 ⟨hret, hb1⟩
    obtain ⟨hc1, hf1⟩ := bcell hb1
    simp only [sz_alloc] at hc1 hf1
    have hB : Below w.heap.size w w1 := (below1 w _).trans (hb1.mono (by rw [sz_alloc]; omega))
    rcases hret.cases with ⟨rfl, hcn⟩ | ⟨rfl, hcn⟩
    · by_cases h2 : mn = 0
      · by_cases h3 : mx = 0
        · go_wp2
          go_ret
          exact ⟨RetB.yes (Or.inl ⟨rfl, hcn, h2, h3⟩), hB⟩
        · have h3' : (mx == 0) = false := by simp [h3]
          go_wp2
          go_ret
          exact ⟨RetB.no (by rintro (⟨q1, q2, q3, q4⟩ | ⟨q1, q2, q3, q4⟩ | ⟨q1, q2, q3, q4, q5⟩) <;> simp only at * <;> omega), hB⟩
      · go_wp2
        go_ret
        exact ⟨RetB.no (by rintro (⟨q1, q2, q3, q4⟩ | ⟨q1, q2, q3, q4⟩ | ⟨q1, q2, q3, q4, q5⟩) <;> simp only at * <;> omega), hB⟩
    · go_wp2
      go_ret
      exact ⟨RetB.no (by rintro (⟨q1, q2, q3, q4⟩ | ⟨q1, q2, q3, q4⟩ | ⟨q1, q2, q3, q4, q5⟩) <;> simp only at * <;> first | exact hcn q2 | omega), hB⟩
  · by_cases hk : k < 0 ∨ 4 < k
    · rcases hk with hk | hk
      · go_enter Tryd.func37, Tryd.ntmps37
        go_wp2
        go_ret
        exact ⟨RetB.no (by rintro (⟨q1, q2, q3, q4⟩ | ⟨q1, q2, q3, q4⟩ | ⟨q1, q2, q3, q4, q5⟩) <;> simp only at * <;> omega), below1 w _⟩
      · have hk2 : ¬ k < 0 := by omega
        go_enter Tryd.func37, Tryd.ntmps37
        go_wp2
        go_ret
        exact ⟨RetB.no (by rintro (⟨q1, q2, q3, q4⟩ | ⟨q1, q2, q3, q4⟩ | ⟨q1, q2, q3, q4, q5⟩) <;> simp only at * <;> omega), below1 w _⟩
    · by_cases hlen : xs.length = 0
      · have hlen' : ((xs.length : Int) != 0) = false := by simp; exact List.eq_nil_of_length_eq_zero hlen
        have Hlen := hide hlen
        clear hlen
        by_cases h4 : k = 4
        · subst h4
          by_cases c1 : mn < 0
          · go_enter Tryd.func37, Tryd.ntmps37
            go_wp2
            go_ret
            exact ⟨RetB.no (by rintro (⟨q1, q2, q3, q4⟩ | ⟨q1, q2, q3, q4⟩ | ⟨q1, q2, q3, q4, q5⟩) <;> simp only at * <;> omega), below1 w _⟩
          · by_cases c2 : 250 < mn
            · go_enter Tryd.func37, Tryd.ntmps37
              go_wp2
              go_ret
              exact ⟨RetB.no (by rintro (⟨q1, q2, q3, q4⟩ | ⟨q1, q2, q3, q4⟩ | ⟨q1, q2, q3, q4, q5⟩) <;> simp only at * <;> omega), below1 w _⟩
            · by_cases c3 : mx = -1
              · have c3' : (mx == -1) = true := by simp [c3]
                have C3 := hide c3
                clear c3
                go_enter Tryd.func37, Tryd.ntmps37
                go_wp2
                go_ret
                exact ⟨RetB.yes (Or.inr (Or.inr ⟨rfl, unhide Hlen, by simp only; omega, by simp only; omega, Or.inl (unhide C3)⟩)), below1 w _⟩
              · have c3' : (mx == -1) = false := by simp [c3]
                by_cases c4 : mn ≤ mx
                · by_cases c5 : mx ≤ 250
                  · go_enter Tryd.func37, Tryd.ntmps37
                    go_wp2
                    go_ret
                    exact ⟨RetB.yes (Or.inr (Or.inr ⟨rfl, unhide Hlen, by simp only; omega, by simp only; omega, Or.inr ⟨c4, c5⟩⟩)), below1 w _⟩
                  · go_enter Tryd.func37, Tryd.ntmps37
                    go_wp2
                    go_ret
                    exact ⟨RetB.no (by rintro (⟨q1, q2, q3, q4⟩ | ⟨q1, q2, q3, q4⟩ | ⟨q1, q2, q3, q4, q5⟩) <;> simp only at * <;> omega), below1 w _⟩
                · go_enter Tryd.func37, Tryd.ntmps37
                  go_wp2
                  go_ret
                  exact ⟨RetB.no (by rintro (⟨q1, q2, q3, q4⟩ | ⟨q1, q2, q3, q4⟩ | ⟨q1, q2, q3, q4, q5⟩) <;> simp only at * <;> omega), below1 w _⟩
        · have hk3 : k = 0 ∨ k = 2 ∨ k = 3 := by omega
          clear hk h4 h1
          by_cases h2 : mn = 0
          · by_cases h3 : mx = 0
            · rcases hk3 with rfl | rfl | rfl
              all_goals
                go_enter Tryd.func37, Tryd.ntmps37
                go_wp2
                go_ret
                exact ⟨RetB.yes (Or.inr (Or.inl ⟨by simp, unhide Hlen, h2, h3⟩)), below1 w _⟩
            · have h3' : (mx == 0) = false := by simp [h3]
              rcases hk3 with rfl | rfl | rfl
              all_goals
                go_enter Tryd.func37, Tryd.ntmps37
                go_wp2
                go_ret
                exact ⟨RetB.no (by rintro (⟨q1, q2, q3, q4⟩ | ⟨q1, q2, q3, q4⟩ | ⟨q1, q2, q3, q4, q5⟩) <;> simp only at * <;> omega), below1 w _⟩
          · rcases hk3 with rfl | rfl | rfl
            all_goals
              go_enter Tryd.func37, Tryd.ntmps37
              go_wp2
              go_ret
              exact ⟨RetB.no (by rintro (⟨q1, q2, q3, q4⟩ | ⟨q1, q2, q3, q4⟩ | ⟨q1, q2, q3, q4, q5⟩) <;> simp only at * <;> omega), below1 w _⟩
      · have hlen' : ((xs.length : Int) != 0) = true := by simp; intro e; exact hlen (by rw [e]; rfl)
        have hk0 : ¬ k < 0 := by omega
        have hk4 : ¬ 4 < k := by omega
        go_enter Tryd.func37, Tryd.ntmps37
        go_wp2
        go_ret
        exact ⟨RetB.no (by rintro (⟨q1, q2, q3, q4⟩ | ⟨q1, q2, q3, q4⟩ | ⟨q1, q2, q3, q4, q5⟩) <;> simp only at * <;> omega), below1 w _⟩

end Go.Proofs.YtmhafibngbojcaaDoor

namespace Go.Proofs.YtmhafibngbojcaaDoor
open Go.RowKit

def lst (xs : List Int) (m : Nat) : Int := if m = 0 then 0 else xs[2 * m - 1]?.getD 0 + 2
def Pair2 (xs : List Int) (m : Nat) : Prop := lst xs m ≤ xs[2 * m]?.getD 0 ∧ xs[2 * m]?.getD 0 ≤ xs[2 * m + 1]?.getD 0 ∧ xs[2 * m + 1]?.getD 0 ≤ 255

theorem lst_succ (xs : List Int) (m : Nat) : lst xs (m + 1) = xs[2 * m + 1]?.getD 0 + 2 := by
  unfold lst; rw [if_neg (by omega)]; rfl

theorem lst_nn {xs : List Int} : ∀ m : Nat, (∀ j : Nat, j < m → Pair2 xs j) → 0 ≤ lst xs m ∧ lst xs m ≤ 257 := by
  intro m
  induction m with
  | zero => intro _; simp [lst]
  | succ m ih =>
    intro h
    have h1 := ih (fun j hj => h j (by omega))
    have h2 := h m (by omega)
    unfold Pair2 at h2
    rw [lst_succ]; omega

theorem canon_iff {xs : List Int} : Canon xs ↔ xs.length % 2 = 0 ∧ ∀ m : Nat, 2 * m < xs.length → Pair2 xs m := by
  constructor
  · rintro ⟨h1, h2, h3⟩
    refine ⟨h1, fun m hm => ?_⟩
    have a := h2 (2 * m) hm
    have b := h2 (2 * m + 1) (by omega)
    obtain ⟨c, d⟩ := h3 m hm
    refine ⟨?_, c, b.2⟩
    unfold lst
    split
    · exact a.1
    · have := d (by omega); omega
  · rintro ⟨h1, h2⟩
    have key : ∀ m : Nat, 2 * m < xs.length → 0 ≤ lst xs m := fun m hm => (lst_nn m (fun j hj => h2 j (by omega))).1
    refine ⟨h1, fun i hi => ?_, fun m hm => ?_⟩
    · have hm : 2 * (i / 2) < xs.length := by omega
      have a := key _ hm
      have b := h2 _ hm
      unfold Pair2 at b
      rcases Nat.mod_two_eq_zero_or_one i with e | e
      · rw [show 2 * (i / 2) = i by omega] at b; omega
      · rw [show 2 * (i / 2) + 1 = i by omega] at b; omega
    · have b := h2 _ hm
      unfold Pair2 at b
      refine ⟨b.2.1, fun h0 => ?_⟩
      have b1 := b.1
      unfold lst at b1
      rw [if_neg (by omega)] at b1
      omega

set_option maxHeartbeats 1000000 in
theorem canonical_any (v : Value) (xs : List Int) (w : World) (hv : IntsAt 0 w.heap.size w v xs) :
    Calls Tryd.prog 46 #[v] w fun e w' => RetB e (Canon xs) ∧ Below w.heap.size w w' := by
  rw [canon_iff]
  obtain ⟨a, cap, rfl, hl, hr, hc⟩ := hv
  unfold maxLen at hl
  by_cases hev : xs.length % 2 = 0
  · have hev' : ((xs.length : Int) % 2 != 0) = false := by simp; omega
    go_enter Tryd.func46, Tryd.ntmps46
    go_wp2
    go_loopw [3, 4] (fun l i wr => ∃ m : Nat, 2 * m ≤ xs.length ∧ i = .int .i64 (2 * m : Nat) ∧ l = .int .i64 (lst xs m) ∧ (∀ j : Nat, j < m → Pair2 xs j) ∧ Below w.heap.size w wr) (fun _ i _ => xs.length - (intOf i).toNat)
    case atStart => exact ⟨0, Nat.zero_le _, rfl, rfl, fun j hj => absurd hj (Nat.not_lt_zero _), Below.refl _ _⟩
    case round =>
      obtain ⟨m, hm, rfl, rfl, hpr, hb⟩ := hrel
      have hL := lst_nn m hpr
      have Hpr := hide hpr
      clear hpr
      by_cases hlt2 : 2 * m < xs.length
      · obtain ⟨b, off, rfl, -, hbn, hcell⟩ := hc (by omega)
        have hx : wr.cell? ⟨b, off + 2 * m, none⟩ = some (.int .i64 (xs[2 * m]?.getD 0)) := by rw [hb.cell (p := ⟨b, off + 2 * m, none⟩) hbn]; exact hcell _ hlt2
        have hy : wr.cell? ⟨b, off + (2 * m + 1), none⟩ = some (.int .i64 (xs[2 * m + 1]?.getD 0)) := by rw [hb.cell (p := ⟨b, off + (2 * m + 1), none⟩) hbn]; exact hcell _ (by omega)
        have hlt2' : (2 * (m : Int)) < (xs.length : Int) := by omega
        have hlt3' : (2 * (m : Int)) + 1 < (xs.length : Int) := by omega
        have hls := lst_succ xs m
        have hP : Hid (Pair2 xs m ↔ lst xs m ≤ xs[2 * m]?.getD 0 ∧ xs[2 * m]?.getD 0 ≤ xs[2 * m + 1]?.getD 0 ∧ xs[2 * m + 1]?.getD 0 ≤ 255) := Iff.rfl
        generalize lst xs m = L at *
        generalize xs[2 * m]?.getD 0 = x at *
        generalize xs[2 * m + 1]?.getD 0 = y at *
        have Hls := hide hls
        clear hls hcell
        by_cases g1 : x < L
        · go_wp2
          go_quiet (fail)
          go_wp2
          go_ret
          exact ⟨RetB.no (fun h => by have := (unhide hP).1 (h.2 m hlt2); omega), below_drewN hb _⟩
        · by_cases g2 : y < x
          · go_wp2
            go_quiet (fail)
            go_wp2
            go_ret
            exact ⟨RetB.no (fun h => by have := (unhide hP).1 (h.2 m hlt2); omega), below_drewN hb _⟩
          · by_cases g3 : 256 ≤ y
            · go_wp2
              go_quiet (fail)
              go_wp2
              go_ret
              exact ⟨RetB.no (fun h => by have := (unhide hP).1 (h.2 m hlt2); omega), below_drewN hb _⟩
            · go_wp2
              go_quiet (fail)
              go_wp2
              go_roundw
              case rel => exact ⟨m + 1, by omega, by congr 1, by rw [unhide Hls], fun j hj => by
                by_cases e : j = m
                · subst e; exact (unhide hP).2 ⟨by omega, by omega, by omega⟩
                · exact unhide Hpr j (by omega), below_drewN hb _⟩
              case measure => simp [intOf]; omega
      · go_wp2
        go_ret
        exact ⟨RetB.yes ⟨hev, fun j hj => unhide Hpr j (by omega)⟩, hb⟩
  · have hev' : ((xs.length : Int) % 2 != 0) = true := by simp; omega
    go_enter Tryd.func46, Tryd.ntmps46
    go_wp2
    go_ret
    exact ⟨RetB.no (fun hcn => hev hcn.1), Below.refl _ _⟩

def BdOk (mn mx : Int) : Prop := 0 ≤ mn ∧ mn ≤ 250 ∧ (mx = -1 ∨ (mn ≤ mx ∧ mx ≤ 250))

set_option maxHeartbeats 1000000 in
theorem validBounds_any (mn mx : Int) (w : World) : Calls Tryd.prog 47 #[.int .i64 mn, .int .i64 mx] w fun e w' => RetB e (BdOk mn mx) ∧ w' = w := by
  by_cases c1 : mn < 0
  · go_enter Tryd.func47, Tryd.ntmps47
    go_wp2
    go_ret
    exact ⟨RetB.no (by unfold BdOk; omega), rfl⟩
  · by_cases c2 : 250 < mn
    · go_enter Tryd.func47, Tryd.ntmps47
      go_wp2
      go_ret
      exact ⟨RetB.no (by unfold BdOk; omega), rfl⟩
    · by_cases c3 : mx = -1
      · have c3' : (mx == -1) = true := by simp [c3]
        have C3 := hide c3
        clear c3
        go_enter Tryd.func47, Tryd.ntmps47
        go_wp2
        go_ret
        exact ⟨RetB.yes ⟨by omega, by omega, Or.inl (unhide C3)⟩, rfl⟩
      · have c3' : (mx == -1) = false := by simp [c3]
        by_cases c4 : mn ≤ mx
        · by_cases c5 : mx ≤ 250
          · go_enter Tryd.func47, Tryd.ntmps47
            go_wp2
            go_ret
            exact ⟨RetB.yes ⟨by omega, by omega, Or.inr ⟨c4, c5⟩⟩, rfl⟩
          · go_enter Tryd.func47, Tryd.ntmps47
            go_wp2
            go_ret
            exact ⟨RetB.no (by unfold BdOk; omega), rfl⟩
        · go_enter Tryd.func47, Tryd.ntmps47
          go_wp2
          go_ret
          exact ⟨RetB.no (by unfold BdOk; omega), rfl⟩

def cnt (k : Int) : Int := if k = 4 then 1 else if k = 2 ∨ k = 3 then 2 else 0

set_option maxHeartbeats 1000000 in
theorem operandCount_any (k : Int) (w : World) : Calls Tryd.prog 29 #[.int .i64 k] w fun e w' => e = .returned (.int .i64 (cnt k)) ∧ w' = w := by
  by_cases h4 : k = 4
  · subst h4
    go_enter Tryd.func29, Tryd.ntmps29
    go_wp2
    go_ret
    exact ⟨rfl, rfl⟩
  · by_cases h2 : k = 2
    · subst h2
      go_enter Tryd.func29, Tryd.ntmps29
      go_wp2
      go_ret
      exact ⟨rfl, rfl⟩
    · by_cases h3 : k = 3
      · subst h3
        go_enter Tryd.func29, Tryd.ntmps29
        go_wp2
        go_ret
        exact ⟨rfl, rfl⟩
      · have e : cnt k = 0 := by unfold cnt; rw [if_neg h4, if_neg (by omega)]
        have b4 : (k == 4) = false := by simp [h4]
        have b2 : (k == 2) = false := by simp [h2]
        have b3 : (k == 3) = false := by simp [h3]
        have E := hide e
        clear e
        go_enter Tryd.func29, Tryd.ntmps29
        go_wp2
        go_ret
        exact ⟨ret_int (unhide E).symm, rfl⟩

end Go.Proofs.YtmhafibngbojcaaDoor

namespace Go.Proofs.YtmhafibngbojcaaDoor
open Go.RowKit

/-- Four words. -/
def words (a b c d : Int) : Array Value := #[.int .u64 a, .int .u64 b, .int .u64 c, .int .u64 d]

set_option maxHeartbeats 1000000 in
theorem with_any (a b c d lo hi : Int) (w : World) (h0 : 0 ≤ lo) (h1 : hi ≤ 255) :
    Calls Tryd.prog 60 #[.agg #[.int .u64 a, .int .u64 b, .int .u64 c, .int .u64 d], .int .i64 lo, .int .i64 hi] w fun e w' =>
      (∃ a' b' c' d', e = .returned (.agg #[.int .u64 a', .int .u64 b', .int .u64 c', .int .u64 d'])) ∧ Below w.heap.size w w' := by
  go_enter Tryd.func60, Tryd.ntmps60
  go_wp2
  go_loopw [7] (fun i wr => ∃ x : Int, 0 ≤ x ∧ i = .int .i64 x ∧ (∃ g : Nat → Int, wr.rowIs w.heap.size 67 4 (fun j => .int .u64 (g j))) ∧ (∃ g : Nat → Value, wr.rowIs (w.heap.size + 1) 67 4 g) ∧ Below w.heap.size w wr) (fun i _ => (hi + 1 - intOf i).toNat)
  case atStart =>
    refine ⟨lo, h0, rfl, ⟨fun j => if j = 0 then a else if j = 1 then b else if j = 2 then c else d, ?_⟩, ⟨fun _ => .int .u64 0, ?_⟩, below2 w _ _⟩
    · refine World.rowIs.alloc (World.rowIs.congr (World.rowIs_alloc w #[.int .u64 a, .int .u64 b, .int .u64 c, .int .u64 d] 67 (fun j => .int .u64 (if j = 0 then a else if j = 1 then b else if j = 2 then c else d)) ?_) (fun _ _ => rfl)) _
      intro i hi
      match i, hi with
      | 0, _ => rfl
      | 1, _ => rfl
      | 2, _ => rfl
      | 3, _ => rfl
    · have h := World.rowIs_alloc (w.alloc (.cells #[.int .u64 a, .int .u64 b, .int .u64 c, .int .u64 d] 67)) #[.int .u64 0, .int .u64 0, .int .u64 0, .int .u64 0] 67 (fun _ => .int .u64 0) ?_
      · rw [sz_alloc] at h; exact h
      · intro i hi
        match i, hi with
        | 0, _ => rfl
        | 1, _ => rfl
        | 2, _ => rfl
        | 3, _ => rfl
  case round =>
    obtain ⟨x, hx0, rfl, ⟨g, hrow⟩, ⟨g2, hrow2⟩, hb⟩ := hrel
    obtain ⟨k, rfl⟩ := Int.eq_ofNat_of_zero_le hx0
    by_cases hlt : (k : Int) ≤ hi
    · have hk : k ≤ 255 := by omega
      have hq : k / 64 < 4 := by omega
      have c0 := hrow.cell hq
      have f0 := hrow.frozen (k / 64)
      have hq' : ((k / 64 : Nat) : Int) < 4 := by omega
      have hq2 : (k : Int) / 64 < 4 := by omega
      have hq3 : 0 ≤ (k : Int) / 64 := by omega
      have hrow' := hide hrow
      have hrow2' := hide hrow2
      clear hrow hrow2
      go_wp2
      go_region
      go_wp2
      generalize (bits BinOp.or IntKind.u64 (g (k / 64)) (IntKind.u64.wrap (2 ^ (k % 64)))) = z
      refine ⟨⟨(k : Int) + 1, by omega, rfl, ⟨fun j => if j = k / 64 then z else g j, ?_⟩, ⟨g2, ?_⟩, ?_⟩, by simp [intOf]; omega⟩
      · exact (((unhide hrow').set (k / 64) _).congr (fun j _ => by by_cases e : j = k / 64 <;> simp [e])).drew
      · exact ((unhide hrow2').setOther (by show w.heap.size + 1 ≠ w.heap.size; omega) _).drew
      · exact (bput hb (Nat.le_refl _) _).drew
    · have c0 := hrow.cell (i := 0) (by omega)
      have c1 := hrow.cell (i := 1) (by omega)
      have c2 := hrow.cell (i := 2) (by omega)
      have c3 := hrow.cell (i := 3) (by omega)
      have d0 := hrow2.cell (i := 0) (by omega)
      have d1 := hrow2.cell (i := 1) (by omega)
      have d2 := hrow2.cell (i := 2) (by omega)
      have d3 := hrow2.cell (i := 3) (by omega)
      have f0 := hrow2.frozen 0
      have f1 := hrow2.frozen 1
      have f2 := hrow2.frozen 2
      have f3 := hrow2.frozen 3
      clear hrow hrow2
      go_wp2
      refine bodyPost_ret (v := .agg #[.int .u64 (g 0), .int .u64 (g 1), .int .u64 (g 2), .int .u64 (g 3)]) (by simp [results, Tryd.results60, go_sem, d0, d1, d2, d3]) rfl ⟨⟨_, _, _, _, rfl⟩, ?_⟩
      exact bput (bput (bput (bput hb (by omega) _) (by omega) _) (by omega) _) (by omega) _

theorem words_step {w1 : World} {N : Nat} {g : Nat → Int} (h : w1.rowIs N 67 4 (fun j => .int .u64 (g j))) (a b c d : Int) :
    ∃ g' : Nat → Int, ((((w1.setCell ⟨N, 0, none⟩ (.int .u64 a)).setCell ⟨N, 1, none⟩ (.int .u64 b)).setCell ⟨N, 2, none⟩ (.int .u64 c)).setCell ⟨N, 3, none⟩ (.int .u64 d)).rowIs N 67 4 (fun j => .int .u64 (g' j)) := by
  refine ⟨fun j => if j = 3 then d else if j = 2 then c else if j = 1 then b else if j = 0 then a else g j, ((((h.set 0 _).set 1 _).set 2 _).set 3 _).congr ?_⟩
  intro j hj
  by_cases e3 : j = 3
  · simp [e3]
  · by_cases e2 : j = 2
    · simp [e2]
    · by_cases e1 : j = 1
      · simp [e1]
      · by_cases e0 : j = 0
        · simp [e0]
        · simp [e0, e1, e2, e3]

set_option maxHeartbeats 2000000 in
theorem setOf_any (v : Value) (xs : List Int) (w : World) (hv : IntsAt 0 w.heap.size w v xs) (hcn : Canon xs) :
    Calls Tryd.prog 48 #[v] w fun e w' =>
      (∃ a' b' c' d', e = .returned (.agg #[.int .u64 a', .int .u64 b', .int .u64 c', .int .u64 d'])) ∧ Below w.heap.size w w' := by
  obtain ⟨a, cap, rfl, hl, hr, hc⟩ := hv
  unfold maxLen at hl
  have Hcn := hide hcn
  clear hcn
  go_enter Tryd.func48, Tryd.ntmps48
  go_wp2
  go_loopw [4] (fun i wr => ∃ p : Nat, p ≤ xs.length ∧ p % 2 = 0 ∧ i = .int .i64 p ∧ (∃ g : Nat → Value, wr.rowIs w.heap.size 67 4 g) ∧ (∃ g : Nat → Int, wr.rowIs (w.heap.size + 1) 67 4 (fun j => .int .u64 (g j))) ∧ Below w.heap.size w wr) (fun i _ => xs.length - (intOf i).toNat)
  case atStart =>
    refine ⟨0, Nat.zero_le _, rfl, rfl, ⟨fun _ => .int .u64 0, ?_⟩, ⟨fun _ => 0, ?_⟩, below2 w _ _⟩
    · refine World.rowIs.alloc (World.rowIs.congr (World.rowIs_alloc w #[.int .u64 0, .int .u64 0, .int .u64 0, .int .u64 0] 67 (fun _ => .int .u64 0) ?_) (fun _ _ => rfl)) _
      intro i hi
      match i, hi with
      | 0, _ => rfl
      | 1, _ => rfl
      | 2, _ => rfl
      | 3, _ => rfl
    · have h := World.rowIs_alloc (w.alloc (.cells #[.int .u64 0, .int .u64 0, .int .u64 0, .int .u64 0] 67)) #[.int .u64 0, .int .u64 0, .int .u64 0, .int .u64 0] 67 (fun _ => .int .u64 0) ?_
      · rw [sz_alloc] at h; exact h
      · intro i hi
        match i, hi with
        | 0, _ => rfl
        | 1, _ => rfl
        | 2, _ => rfl
        | 3, _ => rfl
  case round =>
    obtain ⟨p, hm, hp2, rfl, ⟨g2, hrow2⟩, ⟨g, hrow⟩, hb⟩ := hrel
    have hev := (unhide Hcn).1
    by_cases hlt2 : p < xs.length
    · obtain ⟨b, off, rfl, -, hbn, hcell⟩ := hc (by omega)
      have hx : wr.cell? ⟨b, off + p, none⟩ = some (.int .i64 (xs[p]?.getD 0)) := by rw [hb.cell (p := ⟨b, off + p, none⟩) hbn]; exact hcell _ hlt2
      have hy : wr.cell? ⟨b, off + (p + 1), none⟩ = some (.int .i64 (xs[p + 1]?.getD 0)) := by rw [hb.cell (p := ⟨b, off + (p + 1), none⟩) hbn]; exact hcell _ (by omega)
      have hlt2' : (p : Int) < (xs.length : Int) := by omega
      have hlt3' : (p : Int) + 1 < (xs.length : Int) := by omega
      have bx := ((unhide Hcn).2.1 (p) hlt2).1
      have byy := ((unhide Hcn).2.1 (p + 1) (by omega)).2
      generalize xs[p]?.getD 0 = x at *
      generalize xs[p + 1]?.getD 0 = y at *
      have c0 := hrow.cell (i := 0) (by omega)
      have c1 := hrow.cell (i := 1) (by omega)
      have c2 := hrow.cell (i := 2) (by omega)
      have c3 := hrow.cell (i := 3) (by omega)
      have hN := hrow.lt
      have f0 := hrow.frozen 0
      have f1 := hrow.frozen 1
      have f2 := hrow.frozen 2
      have f3 := hrow.frozen 3
      have hrow' := hide hrow
      have hrow2' := hide hrow2
      clear hrow hrow2 hcell
      go_wp2
      have hw2 : IntKind.i64.wrap ((p : Int) + 1) = (p : Int) + 1 := by rw [IntKind.wrap_i64]; omega
      have hw1 : wrap64 ((p : Int) + 1) = (p : Int) + 1 := by unfold wrap64; omega
      go_region_with (go_at_call 60; refine (with_any _ _ _ _ x y _ bx byy).mono ?_; rintro e w1 ⟨⟨a', b', c', d', rfl⟩, hb1⟩; have hb2 : Below wr.heap.size wr w1 := ⟨hb1.os, hb1.tape, hb1.output, hb1.size, hb1.block⟩; clear hb1; have hc1 := (bcell hb2).1; have hf1 := (bcell hb2).2)
      all_goals
        clear hc1 hf1 c0 c1 c2 c3 f0 f1 f2 f3 hx hy
        go_wp2
        have hr1 := (unhide hrow').of_block (hb2.block _ hN)
        have hr2 := (unhide hrow2').of_block (hb2.block _ (unhide hrow2').lt)
        refine ⟨⟨p + 2, by omega, by omega, by go_num, ⟨g2, ?_⟩, words_step hr1 _ _ _ _, ?_⟩, by simp [intOf]; omega⟩
        · exact (((hr2.setOther (by show w.heap.size ≠ w.heap.size + 1; omega) _).setOther (by show w.heap.size ≠ w.heap.size + 1; omega) _).setOther (by show w.heap.size ≠ w.heap.size + 1; omega) _).setOther (by show w.heap.size ≠ w.heap.size + 1; omega) _
        · exact bput (bput (bput (bput (hb.trans (hb2.mono hb.size)) (by omega) _) (by omega) _) (by omega) _) (by omega) _
    · have c0 := hrow.cell (i := 0) (by omega)
      have c1 := hrow.cell (i := 1) (by omega)
      have c2 := hrow.cell (i := 2) (by omega)
      have c3 := hrow.cell (i := 3) (by omega)
      have d0 := hrow2.cell (i := 0) (by omega)
      have d1 := hrow2.cell (i := 1) (by omega)
      have d2 := hrow2.cell (i := 2) (by omega)
      have d3 := hrow2.cell (i := 3) (by omega)
      have f0 := hrow2.frozen 0
      have f1 := hrow2.frozen 1
      have f2 := hrow2.frozen 2
      have f3 := hrow2.frozen 3
      clear hrow hrow2
      go_wp2
      refine bodyPost_ret (v := .agg #[.int .u64 (g 0), .int .u64 (g 1), .int .u64 (g 2), .int .u64 (g 3)]) (by simp [results, Tryd.results48, go_sem, d0, d1, d2, d3]) rfl ⟨⟨_, _, _, _, rfl⟩, ?_⟩
      exact bput (bput (bput (bput hb (by omega) _) (by omega) _) (by omega) _) (by omega) _

end Go.Proofs.YtmhafibngbojcaaDoor
