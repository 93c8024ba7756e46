import Derived.Test.YtmhafibngbojcaaDoorP5
import Derived.Test.YtmhafibngbojcaaDoorP2
import Derived.Laws.OwnMore
import Derived.Test.YtmhafibngbojcaaDoorP3
import Derived.RangeFuncBox
import Derived.Test.YtmhafibngbojcaaDoorP7
import Derived.Lib.Bytealg
import Derived.Lib.OthersKept
import Derived.Deep.RegionLaw
import Derived.Shelf.Strconv.AppendIntPublic10
import Derived.Test.YtmhafibngbojcaaDoorRows
import Derived.Lib.AppendIntMem
namespace Go.Proofs.YtmhafibngbojcaaDoor
open Go.RowKit

/-- A number as a varint. -/
def viF : Nat → Int → List Int
  | 0, n => [n % 256]
  | k + 1, n => if n < 128 then [n % 256] else (n % 128 + 128) :: viF k (n / 128)
/-- A number as a varint. -/
def vi (n : Int) : List Int := viF n.toNat n
theorem viF_enough : ∀ (k j : Nat) (n : Int), n.toNat ≤ k → n.toNat ≤ j → viF k n = viF j n
  | 0, 0, _, _, _ => rfl
  | 0, j + 1, n, h, _ => by rw [viF, viF, if_pos (by omega)]
  | k + 1, 0, n, _, h => by rw [viF, viF, if_pos (by omega)]
  | k + 1, j + 1, n, h, h' => by
    rw [viF, viF]
    by_cases g : n < 128
    · rw [if_pos g, if_pos g]
    · rw [if_neg g, if_neg g, viF_enough k j (n / 128) (by omega) (by omega)]
theorem vi_lo {n : Int} (h : n < 128) : vi n = [n % 256] := by
  unfold vi
  cases n.toNat with
  | zero => rfl
  | succ k => rw [viF, if_pos h]
theorem vi_hi {n : Int} (h : ¬ n < 128) : vi n = (n % 128 + 128) :: vi (n / 128) := by
  unfold vi
  obtain ⟨k, hk⟩ : ∃ k, n.toNat = k + 1 := ⟨n.toNat - 1, by omega⟩
  rw [hk, viF, if_neg h, viF_enough k (n / 128).toNat (n / 128) (by omega) (by omega)]
theorem vi_ind {P : Int → Prop} (lo : ∀ n, n < 128 → P n) (hi : ∀ n, ¬ n < 128 → P (n / 128) → P n) (n : Int) : P n := by
  have key : ∀ (k : Nat) (n : Int), n.toNat ≤ k → P n := by
    intro k
    induction k with
    | zero => intro n h; exact lo n (by omega)
    | succ k ih =>
      intro n h
      by_cases g : n < 128
      · exact lo n g
      · exact hi n g (ih _ (by omega))
  exact key _ n (Nat.le_refl _)
theorem vi_len (k : Nat) : ∀ n : Int, n < 128 ^ (k + 1) → (vi n).length ≤ k + 1 := by
  induction k with
  | zero => intro n h; rw [vi_lo (by simpa using h)]; simp
  | succ k ih =>
    intro n h
    by_cases h1 : n < 128
    · rw [vi_lo h1]; simp
    · rw [vi_hi h1, List.length_cons]
      have := ih (n / 128) (by rw [Int.pow_succ] at h; omega)
      omega
theorem vi_len9 {n : Int} (h : n ≤ 9223372036854775807) : (vi n).length ≤ 9 := vi_len 8 n (by omega)
theorem vi_bytes (n : Int) : ∀ x ∈ vi n, 0 ≤ x ∧ x ≤ 255 := by
  induction n using vi_ind with
  | lo n h => rw [vi_lo h]; intro x hx; simp at hx; omega
  | hi n h ih =>
    rw [vi_hi h]
    intro x hx
    rcases List.mem_cons.1 hx with rfl | hx
    · omega
    · exact ih x hx

/-- A whole list of bytes behind a row of one's own. -/
theorem app_moreB {w : World} {ops : Array Oper} {rest : List Oper} {o : Oper} {a : Act} {Q : Exit → Act → World → Prop} (hgd : o.guard = none) (s x : Operand)
    (ho : o.op = .call { callee := .builtin .append, args := #[s, x], argTypes := #[26, 26] }) (base : Nat) (ov : Value) (hs : a.eval s = ov) (os : List Int) (hown : w.ownsRow base 5 1 ov os.length (os.map mB)) (hbase : base ≤ w.heap.size)
    (sv : Value) (hx : a.eval x = sv) (xs : List Int) (hv : SlAt mB 0 0 w.heap.size w sv xs) (hlen : os.length + xs.length ≤ 1073741824)
    (h : ∀ v' w', Below base w w' → w'.ownsRow base 5 1 v' (os ++ xs).length ((os ++ xs).map mB) → v'.oneCell' = true → wpList Tryd.prog ops Q rest (a.put o.dst v') w') : wpList Tryd.prog ops Q (o :: rest) a w := by
  obtain ⟨i0, hi, hz0, hz1, hz2⟩ := info_parts Tryd.zinByte
  obtain ⟨sa, sc, rfl, hl, hc⟩ := hv
  cases sa with
  | none =>
    have h0 : xs.length = 0 := by
      by_cases q : 0 < xs.length
      · obtain ⟨b, off, e, -⟩ := hc q; simp at e
      · omega
    rw [h0] at hx
    refine wpList_append_none_c hgd s x 26 ho base 5 i0 1 Tryd.underlying26 hi _ os.length (os.map mB) hs hown sc hx (h _ w (Below.refl _ _) (by rw [List.eq_nil_of_length_eq_zero h0, List.append_nil]; exact hown) ?_)
    obtain ⟨oa, oc, rfl⟩ := own_is hown
    rfl
  | some ad =>
    refine wpList_append_own_at w hgd s x 26 ho base 5 i0 (.int .u8 0) 1 1 Tryd.underlying26 hi hz0 hz1 hz2 rfl (by decide) _ os.length (os.map mB) hs hown ad xs.length sc (xs.map mB) hx (by simp) ?_ ?_ (by unfold maxLen; omega) (by omega) hbase ?_
    · intro j u hu
      have hj : j < xs.length := by
        have := (List.getElem?_eq_some_iff.1 hu).1
        simpa using this
      obtain ⟨b, off, e, -, -, hcell⟩ := hc (by omega)
      simp only [Option.some.injEq] at e
      subst e
      rw [List.getElem?_map, getD_of_lt hj] at hu
      simp only [Option.map_some, Option.some.injEq] at hu
      subst hu
      have e3 : (⟨b, off, none⟩ : Addr).add j = ⟨b, off + j, none⟩ := by cases j <;> rfl
      rw [e3]
      exact hcell j hj
    · intro u hu
      obtain ⟨y, -, rfl⟩ := List.mem_map.1 hu
      rfl
    · intro v' w' h1 hg _ _
      have h2 : w'.ownsRow base 5 1 v' (os ++ xs).length ((os ++ xs).map mB) := by rw [List.length_append, List.map_append]; exact h1
      obtain ⟨oa, oc, rfl⟩ := own_is h2
      exact h _ w' ((Below.refl _ _).grown hg hbase (fun k hk => (hown.lt k hk).1)) h2 rfl

/-- What owns its row can be read. -/
theorem own_rdB {base n : Nat} {w : World} {v : Value} {xs : List Int} (h : w.ownsRow base 5 1 v n (xs.map mB)) (hn : n ≤ maxLen) : SlAt mB 0 0 w.heap.size w v xs := by
  have hlen := h.1
  rw [List.length_map, Nat.mul_one] at hlen
  rcases h.2 with ⟨rfl, hz⟩ | ⟨g, cap, cur, rfl, hbg, hg, hnc, hcm, hcs, htake⟩
  · exact ⟨none, 0, by rw [hlen, hz], by omega, fun hp => by omega⟩
  · refine ⟨_, cap, by rw [hlen], by omega, fun hp => ⟨g, 0, rfl, Nat.zero_le _, (h.lt g rfl).2, fun i hi => ?_⟩⟩
    rw [Nat.zero_add, h.cellAt i (by omega), List.getElem?_map, getD_of_lt hi]
    rfl

/-- What the model's l4varint answers. -/
def ViR (e : Ending) (w w' : World) (n : Int) : Prop := ∃ v, e = .returned v ∧ w'.ownsRow w.heap.size 5 1 v (vi n).length ((vi n).map mB)

theorem viR_lo {n : Int} (h : n < 128) (w : World) : ViR (.returned (.slice (some ⟨w.heap.size, 0, none⟩) 1 1)) w (w.alloc (.cells #[.int .u8 (n % 256)] 5)) n :=
  ⟨_, rfl, by rw [vi_lo h]; exact World.ownsRow_lit w #[.int .u8 (n % 256)] 1 (Nat.le_refl _) (by unfold maxLen; omega) rfl⟩

end Go.Proofs.YtmhafibngbojcaaDoor

namespace Go.Proofs.YtmhafibngbojcaaDoor
open Go.RowKit

theorem Boxed.under {w w' : World} {B m : Nat} {t : TypeId} {v : Value} (h : Boxed w B t v) (hb : Below m w w') (hm : B < m) : Boxed w' B t v := (hb.block B hm).trans h

/-- A list that lies in one block, and where. -/
structure Cl (α : Type) where
  v : Value
  xs : List α
  b : Nat

/-- p's value reads as p's list, in p's block, whose cells are of type e. -/
def Cl.ok {α : Type} (mk : α → Value) (d : α) (e : TypeId) (w : World) (p : Cl α) : Prop :=
  ∃ a cap, p.v = .slice a p.xs.length cap ∧ (p.xs.length ≤ cap ∧ cap ≤ maxLen) ∧ (0 < p.xs.length → ∃ off, a = some ⟨p.b, off, none⟩ ∧ (∃ c, w.heap[p.b]? = some (.cells c e (0, 0))) ∧ ∀ i : Nat, i < p.xs.length → w.cell? ⟨p.b, off + i, none⟩ = some (mk (p.xs[i]?.getD d)))
theorem Cl.ok.same {α : Type} {mk : α → Value} {d : α} {e : TypeId} {w w' : World} {p : Cl α} (h : p.ok mk d e w) (hs : 0 < p.xs.length → w'.heap[p.b]? = w.heap[p.b]?) : p.ok mk d e w' := by
  obtain ⟨a, cap, e1, hl, hc⟩ := h
  refine ⟨a, cap, e1, hl, fun hp => ?_⟩
  obtain ⟨off, e2, ⟨c, h1⟩, h2⟩ := hc hp
  exact ⟨off, e2, ⟨c, (hs hp).trans h1⟩, fun i hi => by rw [World.cell?_of_block (w := w) (a := ⟨p.b, off + i, none⟩) (hs hp)]; exact h2 i hi⟩
theorem Cl.ok.lt {α : Type} {mk : α → Value} {d : α} {e : TypeId} {w : World} {p : Cl α} (h : p.ok mk d e w) (hp : 0 < p.xs.length) : p.b < w.heap.size := by
  obtain ⟨a, cap, e1, hl, hc⟩ := h
  obtain ⟨off, e2, ⟨c, h1⟩, h2⟩ := hc hp
  exact (Array.getElem?_eq_some_iff.1 h1).1
theorem Cl.ok.below {α : Type} {mk : α → Value} {d : α} {e : TypeId} {m : Nat} {w w' : World} {p : Cl α} (h : p.ok mk d e w) (hb : Below m w w') (hm : w.heap.size ≤ m) : p.ok mk d e w' := h.same (fun hp => hb.block _ (by have := h.lt hp; omega))
theorem Cl.ok.at {α : Type} {mk : α → Value} {d : α} {e : TypeId} {w : World} {p : Cl α} (h : p.ok mk d e w) : SlAt mk d 0 w.heap.size w p.v p.xs := by
  obtain ⟨a, cap, e1, hl, hc⟩ := id h
  refine ⟨a, cap, e1, by omega, fun hp => ?_⟩
  obtain ⟨off, e2, -, h2⟩ := hc hp
  exact ⟨p.b, off, e2, Nat.zero_le _, h.lt hp, h2⟩
theorem Cl.ok.cap {α : Type} {mk : α → Value} {d : α} {e : TypeId} {w : World} {p : Cl α} (h : p.ok mk d e w) : CapOk p.v := by
  obtain ⟨a, cap, e1, hl, hc⟩ := h
  rw [e1]
  exact CapOk.mk hl.1 hl.2
theorem Cl.ok.foot {α : Type} {mk : α → Value} {d : α} {e : TypeId} {w : World} {p : Cl α} (h : p.ok mk d e w) : SlF mk d (fun k => 0 < p.xs.length ∧ k = p.b) w p.v p.xs := by
  obtain ⟨a, cap, e1, hl, hc⟩ := h
  by_cases hp : 0 < p.xs.length
  · refine ⟨p.b, p.b + 1, ⟨a, cap, e1, by omega, fun _ => ?_⟩, fun k h1 h2 => ⟨hp, by omega⟩⟩
    obtain ⟨off, e2, ⟨c, h1⟩, h2⟩ := hc hp
    exact ⟨p.b, off, e2, Nat.le_refl _, Nat.lt_succ_self _, ⟨c, e, h1⟩, h2⟩
  · exact ⟨0, 0, ⟨a, cap, e1, by omega, fun h => absurd h hp⟩, fun k h1 h2 => by omega⟩
theorem Cl.ok.one {α : Type} {mk : α → Value} {d : α} {e : TypeId} {w : World} {p : Cl α} (h : p.ok mk d e w) : p.v.oneCell' = true := by
  obtain ⟨a, cap, e1, -⟩ := h
  rw [e1]
  rfl

/-- What owns its row is such a list. -/
theorem own_cl {mk : Int → Value} {base e n : Nat} {w : World} {v : Value} {xs : List Int} (h : w.ownsRow base e 1 v n (xs.map mk)) : ∃ b, Cl.ok mk 0 e w ⟨v, xs, b⟩ ∧ (0 < xs.length → base ≤ b) := by
  have hlen := h.1
  rw [List.length_map, Nat.mul_one] at hlen
  rcases h.2 with ⟨rfl, hz⟩ | ⟨g, cap, cur, rfl, hbg, hg, hnc, hcm, hcs, htake⟩
  · exact ⟨0, ⟨none, 0, by show Value.slice none 0 0 = _; rw [hlen, hz], by show xs.length ≤ 0 ∧ _; exact ⟨by omega, Nat.zero_le _⟩, fun hp => by have : 0 < xs.length := hp; omega⟩, fun hp => by omega⟩
  · refine ⟨g, ⟨some ⟨g, 0, none⟩, cap, by rw [hlen], ⟨by show xs.length ≤ cap; omega, hcm⟩, fun hp => ⟨0, rfl, ⟨cur, hg⟩, fun i hi => ?_⟩⟩, fun _ => hbg⟩
    have hi' : i < xs.length := hi
    show w.cell? ⟨g, 0 + i, none⟩ = some (mk (xs[i]?.getD 0))
    rw [Nat.zero_add, h.cellAt i (by omega), List.getElem?_map, List.getElem?_eq_getElem hi']
    rfl

def ApartC {α : Type} (ps : List (Cl α)) : Prop := ps.Pairwise (fun p q => 0 < p.xs.length → 0 < q.xs.length → p.b ≠ q.b)

/-- v is a row of its own of such lists, ps, which lie apart. -/
structure LL {α : Type} (mk : α → Value) (d : α) (e te : TypeId) (base : Nat) (w : World) (v : Value) (ps : List (Cl α)) : Prop where
  own : w.ownsRow base te 1 v ps.length (ps.map Cl.v)
  ok : ∀ p ∈ ps, p.ok mk d e w
  lo : ∀ p ∈ ps, 0 < p.xs.length → base ≤ p.b
  apart : ApartC ps
theorem LL.nil {α : Type} {mk : α → Value} {d : α} {e te : TypeId} {base : Nat} {w : World} : LL mk d e te base w (.slice none 0 0) [] := ⟨World.ownsRow_nil _ _ _ _, by simp, by simp, List.Pairwise.nil⟩
theorem LL.keep {α : Type} {mk : α → Value} {d : α} {e te : TypeId} {base m : Nat} {w w' : World} {v : Value} {ps : List (Cl α)} (h : LL mk d e te base w v ps) (hb : Below m w w') (hm : w.heap.size ≤ m) : LL mk d e te base w' v ps :=
  ⟨own_keep h.own hb hm, fun p hp => (h.ok p hp).below hb hm, h.lo, h.apart⟩

/-- The row's own block is none of the lists' blocks. -/
theorem LL.not_row {α : Type} {mk : α → Value} {d : α} {e te : TypeId} {base : Nat} {w : World} {v : Value} {ps : List (Cl α)} (hte : te ≠ e) (h : LL mk d e te base w v ps) {p : Cl α} {q : Cl α} (hq : q.ok mk d e w) (_ : p = q) (hp : 0 < q.xs.length) : some q.b ≠ v.ownBlock := by
  intro e1
  obtain ⟨a, cap, -, -, hc⟩ := hq
  obtain ⟨off, -, ⟨c, h1⟩, -⟩ := hc hp
  rcases h.own.2 with ⟨rfl, _⟩ | ⟨g, cap', cur, rfl, _, hgb, _⟩
  · simp [Value.ownBlock] at e1
  · obtain rfl : q.b = g := by simpa [Value.ownBlock] using e1
    rw [h1] at hgb
    simp at hgb
    exact hte hgb.2.symm

theorem pushd_alloc (w : World) (o : Obj) : Pushd w (w.alloc o) o := ⟨rfl, rfl, rfl, rfl⟩

/-- One list more. -/
theorem LL.app {α : Type} {mk : α → Value} {d : α} {e te : TypeId} {base : Nat} {w W w' : World} {v v' : Value} {ps : List (Cl α)} {p : Cl α} {o : Obj} (hte : te ≠ e) (h : LL mk d e te base w v ps) (hbase : base ≤ w.heap.size) (hp : p.ok mk d e w) (hplo : 0 < p.xs.length → base ≤ p.b)
    (hnew : ∀ q ∈ ps, 0 < q.xs.length → 0 < p.xs.length → q.b ≠ p.b) (hP : Pushd w W o) (h1 : w'.ownsRow base te 1 v' (ps.length + 1) (ps.map Cl.v ++ [p.v])) (hg : W.grownBy w' v.ownBlock) : LL mk d e te base w' v' (ps ++ [p]) ∧ Below base w w' := by
  have hk : ∀ q : Cl α, q.ok mk d e w → q.ok mk d e w' := fun q hq => by
    refine hq.same (fun hq0 => ?_)
    have hlt := hq.lt hq0
    rw [hg.block q.b (by rw [hP.size]; omega) (h.not_row hte hq rfl hq0), hP.old hlt]
  refine ⟨⟨by rw [List.length_append, List.map_append]; exact h1, fun q hq => ?_, fun q hq hq0 => ?_, ?_⟩, (hP.below.mono hbase).grown hg (by rw [hP.size]; omega) (fun k hk => (h.own.lt k hk).1)⟩
  · rcases List.mem_append.1 hq with hq | hq
    · exact hk q (h.ok q hq)
    · rw [List.mem_singleton] at hq
      subst hq
      exact hk q hp
  · rcases List.mem_append.1 hq with hq | hq
    · exact h.lo q hq hq0
    · rw [List.mem_singleton] at hq
      subst hq
      exact hplo hq0
  · refine List.pairwise_append.2 ⟨h.apart, List.pairwise_singleton _ _, fun q hq r hr => ?_⟩
    rw [List.mem_singleton] at hr
    subst hr
    exact hnew q hq

/-- As the laws' functions want it. -/
theorem LL.foot {α : Type} {mk : α → Value} {d : α} {e te : TypeId} {base : Nat} {w : World} {v : Value} {ps : List (Cl α)} (hte : te ≠ e) (h : LL mk d e te base w v ps) (hl : ps.length ≤ maxLen) : SsF mk d (Rng base w.heap.size) w v (ps.map Cl.xs) := by
  have hlen := h.own.1
  rcases h.own.2 with ⟨rfl, hz⟩ | ⟨g, cap, cur, rfl, hbg, hg, hnc, hcm, hcs, htake⟩
  · have : ps = [] := List.eq_nil_of_length_eq_zero hz
    subst this
    exact SsF.nil _ _ _ _ _ _ (Nat.zero_le _)
  · have hgl : g < w.heap.size := (h.own.lt g rfl).2
    have hget : ∀ i : Nat, i < ps.length → ∃ p, ps[i]? = some p ∧ p ∈ ps := fun i hi => ⟨ps[i], by simp [hi], List.getElem_mem hi⟩
    refine ⟨some ⟨g, 0, none⟩, cap, by rw [List.length_map], ⟨by rw [List.length_map]; exact hnc, hcm⟩, fun _ => ⟨g, 0, fun i => ((ps[i]?).map Cl.v).getD undef, fun i k => ∃ p, ps[i]? = some p ∧ 0 < p.xs.length ∧ k = p.b, rfl, ⟨hbg, hgl⟩, ⟨cur, te, hg⟩, fun i hi => ?_, fun i hi => ?_, fun i hi k hk => ?_, fun i j hi hj hne k hk hk' => ?_⟩⟩
    · rw [List.length_map] at hi
      obtain ⟨p, hp, -⟩ := hget i hi
      show w.cell? ⟨g, 0 + i, none⟩ = some (((ps[i]?).map Cl.v).getD undef)
      rw [Nat.zero_add, h.own.cellAt i (by omega), List.getElem?_map, hp]
      rfl
    · rw [List.length_map] at hi
      obtain ⟨p, hp, hm⟩ := hget i hi
      have e1 : ((ps[i]?).map Cl.v).getD undef = p.v := by rw [hp]; rfl
      have e2 : ((ps.map Cl.xs)[i]?).getD [] = p.xs := by rw [List.getElem?_map, hp]; rfl
      show SlF mk d _ w (((ps[i]?).map Cl.v).getD undef) (((ps.map Cl.xs)[i]?).getD []) ∧ CapOk (((ps[i]?).map Cl.v).getD undef)
      rw [e1, e2]
      exact ⟨(h.ok p hm).foot.mono (fun k hk => ⟨p, hp, hk.1, hk.2⟩), (h.ok p hm).cap⟩
    · obtain ⟨p, hp, hp0, rfl⟩ := hk
      have hm : p ∈ ps := List.mem_of_getElem? hp
      refine ⟨⟨h.lo p hm hp0, (h.ok p hm).lt hp0⟩, fun e1 => ?_⟩
      exact h.not_row hte (h.ok p hm) rfl hp0 (by rw [e1]; rfl)
    · obtain ⟨p, hp, hp0, rfl⟩ := hk
      obtain ⟨q, hq, hq0, e1⟩ := hk'
      rw [List.length_map] at hi hj
      have hpair := List.pairwise_iff_getElem.1 h.apart
      have ep : ps[i]'hi = p := by rw [List.getElem?_eq_getElem hi] at hp; exact Option.some.inj hp
      have eq : ps[j]'hj = q := by rw [List.getElem?_eq_getElem hj] at hq; exact Option.some.inj hq
      rcases Nat.lt_or_gt_of_ne hne with hlt | hlt
      · exact hpair i j hi hj hlt (by rw [ep]; exact hp0) (by rw [eq]; exact hq0) (by rw [ep, eq]; exact e1)
      · exact hpair j i hj hi hlt (by rw [eq]; exact hq0) (by rw [ep]; exact hp0) (by rw [ep, eq]; exact e1.symm)

/-- One store into a row of its own. -/
theorem own_set {base e g n cap k : Nat} {w : World} {xs : List Value} {u : Value} (h : w.ownsRow base e 1 (.slice (some ⟨g, 0, none⟩) n cap) n xs) (_ : k < n) : (w.setCell ⟨g, k, none⟩ u).ownsRow base e 1 (.slice (some ⟨g, 0, none⟩) n cap) n (xs.set k u) := by
  have hlen := h.1
  rcases h.2 with ⟨e0, _⟩ | ⟨g', cap', cur, e0, hb, hg, hn, hm, hs, ht⟩
  · cases e0
  · cases e0
    refine ⟨by rw [List.length_set]; exact hlen, .inr ⟨g, cap, cur.setIfInBounds k u, rfl, hb, ?_, hn, hm, by rw [Array.size_setIfInBounds]; exact hs, ?_⟩⟩
    · simp [World.setCell, Array.getElem?_modify, hg]
    · rw [Array.toList_setIfInBounds, ← ht]
      rw [List.take_set]

end Go.Proofs.YtmhafibngbojcaaDoor

namespace Go.Proofs.YtmhafibngbojcaaDoor
open Go.RowKit

/-- Nothing below base has changed, and no block but rows of bytes. -/
structure BK (base : Nat) (w w' : World) : Prop where
  b : Below base w w'
  o : Lib.OthersKept 5 none w w'
theorem BK.refl (base : Nat) (w : World) : BK base w w := ⟨Below.refl _ _, Lib.OthersKept.refl _ _ _⟩
theorem BK.trans {base : Nat} {a b c : World} (h : BK base a b) (k : BK base b c) : BK base a c := ⟨h.b.trans k.b, h.o.trans k.o⟩
theorem BK.size {base : Nat} {a b : World} (h : BK base a b) : a.heap.size ≤ b.heap.size := h.b.size
theorem BK.own {base n : Nat} {w w' : World} {v : Value} {xs : List Value} (hown : w.ownsRow base 5 1 v n xs) (hbase : base ≤ w.heap.size) (hg : w.grownBy w' v.ownBlock) : BK base w w' := by
  refine ⟨(Below.refl _ _).grown hg hbase (fun k hk => (hown.lt k hk).1), fun k o hk _ ho => ?_⟩
  have hlt : k < w.heap.size := (Array.getElem?_eq_some_iff.1 hk).1
  by_cases e : some k = v.ownBlock
  · exfalso
    rcases hown.2 with ⟨rfl, _⟩ | ⟨g, cap, cur, rfl, _, hgb, _⟩
    · cases e
    · obtain rfl : k = g := by simpa [Value.ownBlock] using e
      rw [hk] at hgb
      exact ho _ _ (Option.some.inj hgb)
  · rw [hg.block k hlt e]; exact hk
theorem BK.alloc {base : Nat} {w w' : World} {o : Obj} (hbase : base ≤ w.heap.size) (h : BK base (w.alloc o) w') : BK base w w' := BK.trans ⟨(below1 w o).mono hbase, (Lib.OthersKept.refl _ _ _).alloc o⟩ h
/-- A whole list of bytes behind a row of one's own. -/
theorem app_moreP {w : World} {ops : Array Oper} {rest : List Oper} {o : Oper} {a : Act} {Q : Exit → Act → World → Prop} (hgd : o.guard = none) (s x : Operand)
    (ho : o.op = .call { callee := .builtin .append, args := #[s, x], argTypes := #[26, 26] }) (base : Nat) (ov : Value) (hs : a.eval s = ov) (os : List Int) (hown : w.ownsRow base 5 1 ov os.length (os.map mB)) (hbase : base ≤ w.heap.size)
    (sv : Value) (hx : a.eval x = sv) (xs : List Int) (hv : SlAt mB 0 0 w.heap.size w sv xs) (hlen : os.length + xs.length ≤ 1073741824)
    (h : ∀ v' w', BK base w w' → w'.ownsRow base 5 1 v' (os ++ xs).length ((os ++ xs).map mB) → v'.oneCell' = true → wpList Tryd.prog ops Q rest (a.put o.dst v') w') : wpList Tryd.prog ops Q (o :: rest) a w := by
  obtain ⟨i0, hi, hz0, hz1, hz2⟩ := info_parts Tryd.zinByte
  obtain ⟨sa, sc, rfl, hl, hc⟩ := hv
  cases sa with
  | none =>
    have h0 : xs.length = 0 := by
      by_cases q : 0 < xs.length
      · obtain ⟨b, off, e, -⟩ := hc q; simp at e
      · omega
    rw [h0] at hx
    refine wpList_append_none_c hgd s x 26 ho base 5 i0 1 Tryd.underlying26 hi _ os.length (os.map mB) hs hown sc hx (h _ w (BK.refl _ _) (by rw [List.eq_nil_of_length_eq_zero h0, List.append_nil]; exact hown) ?_)
    obtain ⟨oa, oc, rfl⟩ := own_is hown
    rfl
  | some ad =>
    refine wpList_append_own_at w hgd s x 26 ho base 5 i0 (.int .u8 0) 1 1 Tryd.underlying26 hi hz0 hz1 hz2 rfl (by decide) _ os.length (os.map mB) hs hown ad xs.length sc (xs.map mB) hx (by simp) ?_ ?_ (by unfold maxLen; omega) (by omega) hbase ?_
    · intro j u hu
      have hj : j < xs.length := by
        have := (List.getElem?_eq_some_iff.1 hu).1
        simpa using this
      obtain ⟨b, off, e, -, -, hcell⟩ := hc (by omega)
      simp only [Option.some.injEq] at e
      subst e
      rw [List.getElem?_map, getD_of_lt hj] at hu
      simp only [Option.map_some, Option.some.injEq] at hu
      subst hu
      have e3 : (⟨b, off, none⟩ : Addr).add j = ⟨b, off + j, none⟩ := by cases j <;> rfl
      rw [e3]
      exact hcell j hj
    · intro u hu
      obtain ⟨y, -, rfl⟩ := List.mem_map.1 hu
      rfl
    · intro v' w' h1 hg _ _
      have h2 : w'.ownsRow base 5 1 v' (os ++ xs).length ((os ++ xs).map mB) := by rw [List.length_append, List.map_append]; exact h1
      obtain ⟨oa, oc, rfl⟩ := own_is h2
      exact h _ w' (BK.own hown hbase hg) h2 rfl

/-- The bytes of a string behind a row of one's own. -/
theorem app_strP {w : World} {ops : Array Oper} {rest : List Oper} {o : Oper} {a : Act} {Q : Exit → Act → World → Prop} (hgd : o.guard = none) (s x : Operand)
    (ho : o.op = .call { callee := .builtin .append, args := #[s, x], argTypes := #[26, 9] }) (base : Nat) (ov : Value) (hs : a.eval s = ov) (os : List Int) (hown : w.ownsRow base 5 1 ov os.length (os.map mB)) (hbase : base ≤ w.heap.size)
    (sv : ByteArray) (hx : a.eval x = .string sv) (xs : List Int) (hv : StrB sv xs) (hlen : os.length + xs.length ≤ 1073741824)
    (h : ∀ v' w', BK base w w' → w'.ownsRow base 5 1 v' (os ++ xs).length ((os ++ xs).map mB) → v'.oneCell' = true → wpList Tryd.prog ops Q rest (a.put o.dst v') w') : wpList Tryd.prog ops Q (o :: rest) a w := by
  obtain ⟨i0, hi, hz0, hz1, hz2⟩ := info_parts Tryd.zinByte
  have hl : sv.size = xs.length := by
    have := congrArg List.length hv
    rw [Go.Lib.strCells_length, List.length_map] at this
    exact this
  refine Go.Lib.wpList_append_own_string w hgd s x 26 9 ho base 5 i0 Tryd.underlying26 Tryd.underlying9 hi hz0 hz1 hz2 _ os.length (os.map mB) hs hown sv hx (by rw [hl]; unfold maxLen; omega) (by omega) hbase ?_
  intro v' w' h1 hg _
  have h2 : w'.ownsRow base 5 1 v' (os ++ xs).length ((os ++ xs).map mB) := by rw [List.length_append, List.map_append, ← hl, ← hv]; exact h1
  obtain ⟨oa, oc, rfl⟩ := own_is h2
  exact h _ w' (BK.own hown hbase hg) h2 rfl
theorem lit_bytes (w : World) (xs : List Int) (hn : xs.length ≤ 1000) : SlAt mB 0 0 (w.alloc (.cells (xs.map mB).toArray 5)).heap.size (w.alloc (.cells (xs.map mB).toArray 5)) (.slice (some ⟨w.heap.size, 0, none⟩) xs.length xs.length) xs := by
  refine ⟨_, _, rfl, by unfold maxLen; omega, fun _ => ⟨w.heap.size, 0, rfl, Nat.zero_le _, by rw [sz_alloc]; exact Nat.lt_succ_self _, fun i hi => ?_⟩⟩
  have h := (pushd_alloc w (.cells (xs.map mB).toArray 5)).news i (mB (xs[i]?.getD 0)) (by simp [List.getElem?_eq_getElem hi])
  have e3 : (⟨w.heap.size, 0, none⟩ : Addr).add i = ⟨w.heap.size, 0 + i, none⟩ := by cases i <;> simp [Addr.add]
  rw [e3] at h
  exact h
/-- Bytes that are written out behind a row of one's own. -/
theorem app_litB {w : World} {ops : Array Oper} {rest : List Oper} {o : Oper} {a : Act} {Q : Exit → Act → World → Prop} (cs : Array Value) (hgd : o.guard = none) (s x : Operand)
    (ho : o.op = .call { callee := .builtin .append, args := #[s, x], argTypes := #[26, 26] }) (base : Nat) (ov : Value) (hs : a.eval s = ov) (os : List Int) (hown : w.ownsRow base 5 1 ov os.length (os.map mB)) (hbase : base ≤ w.heap.size)
    (xs : List Int) (hcs : cs = (xs.map mB).toArray) (hx : a.eval x = .slice (some ⟨w.heap.size, 0, none⟩) xs.length xs.length) (hn : xs.length ≤ 1000) (hlen : os.length + xs.length ≤ 1073741824)
    (h : ∀ v' w', BK base w w' → w'.ownsRow base 5 1 v' (os ++ xs).length ((os ++ xs).map mB) → v'.oneCell' = true → wpList Tryd.prog ops Q rest (a.put o.dst v') w') : wpList Tryd.prog ops Q (o :: rest) a (w.alloc (.cells cs 5)) := by
  subst hcs
  refine app_moreP hgd s x ho base ov hs os (World.ownsRow.alloc (w := w) hown _) (by rw [sz_alloc]; omega) _ hx xs (lit_bytes w xs hn) hlen ?_
  intro v' w' h1 h2 h3
  exact h v' w' (BK.alloc hbase h1) h2 h3

/-- This function puts T behind the list that it is given. -/
def AppT (F : FuncId) (args : Value → Array Value) (T : List Int) : Prop := ∀ (base : Nat) (ov : Value) (os : List Int) (w : World), w.ownsRow base 5 1 ov os.length (os.map mB) → base ≤ w.heap.size → os.length + T.length ≤ 100000000 →
  Calls Tryd.prog F (args ov) w fun e w' => ∃ v', e = .returned v' ∧ w'.ownsRow base 5 1 v' (os ++ T).length ((os ++ T).map mB) ∧ BK base w w'

theorem spc_ix : ∀ n : Nat, n < 256 → ((0 ≤ Lib.indexByte ([92, 46, 91, 93, 40, 41, 123, 125, 124, 42, 43, 63, 94, 36] : List UInt8) n.toUInt8) ↔ ((n : Int) ∈ spcL)) := by decide +kernel

set_option maxHeartbeats 1000000 in
set_option maxRecDepth 100000 in
theorem slIx (s : ByteArray) (c R : Int) (w : World) (hr : (Extern.BytealgIndexByte.indexByte #[.string s, .int .u8 c]).run Tryd.prog w = .ok (.int .i64 R) w) :
    Calls Tryd.prog 68 #[.string s, .int .u8 c] w fun e w' => e = .returned (.int .i64 R) ∧ w' = w := by
  have HR := hide hr
  clear hr
  go_enter Tryd.func68, Tryd.ntmps68
  go_wp2
  rw [run_callFunc_extern Tryd.func73 (by kernel_rfl) (by kernel_rfl) (by kernel_rfl) (e := Extern.BytealgIndexByte.indexByte) (by kernel_rfl), unhide HR]
  simp only [Result.andThen]
  rw [Oper.upon_value]
  go_wp2
  go_ret
  exact ⟨rfl, rfl⟩
set_option maxHeartbeats 1000000 in
set_option maxRecDepth 100000 in
theorem strIx (s : ByteArray) (c R : Int) (w : World) (hr : (Extern.BytealgIndexByte.indexByte #[.string s, .int .u8 c]).run Tryd.prog w = .ok (.int .i64 R) w) :
    Calls Tryd.prog 66 #[.string s, .int .u8 c] w fun e w' => e = .returned (.int .i64 R) ∧ w' = w := by
  have HR := hide hr
  clear hr
  go_enter Tryd.func66, Tryd.ntmps66
  go_wp2_with fail
  refine (slIx s c R _ (unhide HR)).mono ?_
  rintro e w1 ⟨rfl, rfl⟩
  go_wp2
  go_ret
  exact ⟨rfl, rfl⟩

set_option maxHeartbeats 1000000 in
set_option maxRecDepth 100000 in
theorem isSpecial_any (b : Int) (w : World) (h0 : 0 ≤ b) (h1 : b ≤ 255) :
    Calls Tryd.prog 64 #[.int .i64 b] w fun e w' => RetB e (b ∈ spcL) ∧ w' = w := by
  obtain ⟨n, rfl⟩ := Int.eq_ofNat_of_zero_le h0
  have hn := spc_ix n (by omega)
  rw [← hn]
  have hw8 : IntKind.u8.wrap (n : Int) = (n : Int) := by simp [IntKind.wrap, IntKind.bits, IntKind.signed]; omega
  have hr : (Extern.BytealgIndexByte.indexByte #[.string { data := #[92, 46, 91, 93, 40, 41, 123, 125, 124, 42, 43, 63, 94, 36] }, .int .u8 (n : Int)]).run Tryd.prog w = .ok (.int .i64 (Lib.indexByte ([92, 46, 91, 93, 40, 41, 123, 125, 124, 42, 43, 63, 94, 36] : List UInt8) n.toUInt8)) w := Lib.run_indexByteString _ _ w
  generalize Lib.indexByte ([92, 46, 91, 93, 40, 41, 123, 125, 124, 42, 43, 63, 94, 36] : List UInt8) n.toUInt8 = R at *
  have HR := hide hr
  clear hr hn
  go_enter Tryd.func64, Tryd.ntmps64
  go_wp2_with fail
  refine (strIx _ _ R _ (unhide HR)).mono ?_
  rintro e w1 ⟨rfl, rfl⟩
  go_wp2
  go_ret
  exact ⟨RetB.of (by simp), rfl⟩

theorem grownP {base n : Nat} {w W w' : World} {v : Value} {xs : List Value} {o : Obj} (hown : w.ownsRow base 5 1 v n xs) (hbase : base ≤ w.heap.size) (hP : Pushd w W o) (hg : W.grownBy w' v.ownBlock) : BK base w w' := by
  have hown' := hP.own hown
  have hW : BK base w W := ⟨hP.below.mono hbase, fun k o hk _ _ => by rw [hP.old (Array.getElem?_eq_some_iff.1 hk).1]; exact hk⟩
  exact hW.trans (BK.own hown' (by rw [hP.size]; omega) hg)
theorem hex_at : ∀ k : Nat, (h : k < 16) → ((({ data := #[48, 49, 50, 51, 52, 53, 54, 55, 56, 57, 97, 98, 99, 100, 101, 102] } : ByteArray)[k]'h).toNat : Int) = hexd k := by decide +kernel

set_option maxHeartbeats 4000000 in
set_option maxRecDepth 100000 in
theorem appendByte_any (b : Int) (h0 : 0 ≤ b) (h1 : b ≤ 255) : AppT 52 (fun v => #[v, .int .i64 b]) (byT b) := by
  intro base ov os w hown hbase hlen
  have Hown := hide hown
  obtain ⟨oa, oc, rfl⟩ := own_is hown
  clear hown
  by_cases b1 : b = 10
  · subst b1
    go_enter Tryd.func52, Tryd.ntmps52
    go_wp2_with (at_builtin; refine app_strP rfl _ _ rfl base _ rfl os (unhide Hown) hbase _ rfl [92, 110] rfl (by simp at hlen ⊢; omega) ?_; intro v1 w1 hb1 ho1 hv1)
    go_ret
    exact ⟨_, rfl, ho1, hb1⟩
  by_cases b2 : b = 9
  · subst b2
    go_enter Tryd.func52, Tryd.ntmps52
    go_wp2_with (at_builtin; refine app_strP rfl _ _ rfl base _ rfl os (unhide Hown) hbase _ rfl [92, 116] rfl (by simp at hlen ⊢; omega) ?_; intro v1 w1 hb1 ho1 hv1)
    go_ret
    exact ⟨_, rfl, ho1, hb1⟩
  by_cases b3 : b = 13
  · subst b3
    go_enter Tryd.func52, Tryd.ntmps52
    go_wp2_with (at_builtin; refine app_strP rfl _ _ rfl base _ rfl os (unhide Hown) hbase _ rfl [92, 114] rfl (by simp at hlen ⊢; omega) ?_; intro v1 w1 hb1 ho1 hv1)
    go_ret
    exact ⟨_, rfl, ho1, hb1⟩
  have hE : Hid (byT b = if b ∈ spcL ∨ b = 45 then [92, b] else if 32 ≤ b ∧ b ≤ 126 then [b] else [92, 120, hexd (b / 16), hexd (b % 16)]) := by
    show byT b = _
    unfold byT
    rw [if_neg b1, if_neg b2, if_neg b3]
  have hbl := byT_len b
  obtain ⟨B, hB⟩ : ∃ B, B = byT b := ⟨_, rfl⟩
  rw [← hB] at hE hlen hbl ⊢
  have hl4 : os.length ≤ 100000000 := by omega
  have hw8 : IntKind.u8.wrap b = b := by simp [IntKind.wrap, IntKind.bits, IntKind.signed]; omega
  clear hB hlen hbl
  by_cases b4 : b = 45
  · have HE := hide ((unhide hE).trans (if_pos (Or.inr b4)))
    clear hE b1 b2 b3 hw8
    subst b4
    go_enter Tryd.func52, Tryd.ntmps52
    go_wp2_with (at_builtin; refine app_litB (w := w) _ rfl _ _ rfl base _ rfl os (unhide Hown) hbase [92, 45] rfl rfl (by simp) (by simp; omega) ?_; intro v1 w1 hb1 ho1 hv1)
    go_ret
    exact ⟨_, rfl, by rw [unhide HE]; exact ho1, hb1⟩
  go_enter Tryd.func52, Tryd.ntmps52
  go_wp2_with fail
  refine (isSpecial_any b _ h0 h1).mono ?_
  rintro e w1 ⟨hret, rfl⟩
  rcases hret.cases with ⟨rfl, hsp⟩ | ⟨rfl, hsp⟩
  · have HE := hide ((unhide hE).trans (if_pos (Or.inl hsp)))
    clear hE hsp hret
    go_wp2_with (at_builtin; refine app_litB (w := w1) _ rfl _ _ rfl base _ rfl os (unhide Hown) hbase [92, b] rfl rfl (by simp) (by simp; omega) ?_; intro v1 w1 hb1 ho1 hv1)
    go_ret
    exact ⟨_, rfl, by rw [unhide HE]; exact ho1, hb1⟩
  have hE2 := hide ((unhide hE).trans (if_neg (fun h => h.elim hsp b4)))
  clear hE hsp hret
  by_cases b5 : 32 ≤ b ∧ b ≤ 126
  · have HE := hide ((unhide hE2).trans (if_pos b5))
    obtain ⟨b5, b6⟩ := b5
    clear hE2
    go_wp2_with (at_builtin; refine app_litB (w := w1) _ rfl _ _ rfl base _ rfl os (unhide Hown) hbase [b] rfl rfl (by simp) (by simp; omega) ?_; intro v1 w1 hb1 ho1 hv1)
    go_ret
    exact ⟨_, rfl, by rw [unhide HE]; exact ho1, hb1⟩
  · have HE := hide ((unhide hE2).trans (if_neg b5))
    clear hE2
    have d : ¬ b ≤ 126 ∨ ¬ 32 ≤ b := by omega
    obtain ⟨n, rfl⟩ := Int.eq_ofNat_of_zero_le h0
    obtain ⟨p, hp⟩ : ∃ p, p = n / 16 := ⟨_, rfl⟩
    obtain ⟨q, hq⟩ : ∃ q, q = n % 16 := ⟨_, rfl⟩
    have f3 : p < 16 := by omega
    have f4 : q < 16 := by omega
    have v1 := hex_at p f3
    have v2 := hex_at q f4
    have e1 : ((n : Int)).tdiv 16 = (p : Int) := by rw [hp]; rfl
    have e2 : ((n : Int)).tmod 16 = (q : Int) := by rw [hq]; rfl
    have f1 : (p : Int) < 16 := by omega
    have f2 : (q : Int) < 16 := by omega
    have g1 : IntKind.i64.wrap (p : Int) = (p : Int) := k64i (by omega) (by omega)
    have g2 : IntKind.i64.wrap (q : Int) = (q : Int) := k64i (by omega) (by omega)
    obtain ⟨i0, hi, hz0, hz1, hz2⟩ := info_parts Tryd.zinByte
    have HE2 : Hid (B = [92, 120, hexd p, hexd q]) := by show B = _; rw [unhide HE, hp, hq]; rfl
    clear hp hq HE
    clear b5
    rcases d with d | d
    all_goals
      go_wp2_with fail
      go_region_law (refine step_append_lies _ rfl (.tmp 44) (.tmp 51) 26 rfl base 5 i0 (.int .u8 0) 1 1 Tryd.underlying26 hi hz0 hz1 hz2 rfl (by decide) (.slice oa os.length oc) os.length (os.map mB) (by simp [Act.eval]) (by refine Pushd.own (w := w1) (o := .cells #[.int .u8 92, .int .u8 120, .int .u8 (hexd p), .int .u8 (hexd q)] 5) ?_ (unhide Hown); exact ⟨rfl, rfl, rfl, rfl⟩) ⟨w1.heap.size, 0, none⟩ 4 4 [.int .u8 92, .int .u8 120, .int .u8 (hexd p), .int .u8 (hexd q)] (by simp [Act.eval]) rfl (by refine Pushd.news (w := w1) (cs := #[.int .u8 92, .int .u8 120, .int .u8 (hexd p), .int .u8 (hexd q)]) (t := 5) ?_; exact ⟨rfl, rfl, rfl, rfl⟩) (by intro u hu; simp only [List.mem_cons, List.not_mem_nil, or_false] at hu; rcases hu with rfl | rfl | rfl | rfl <;> rfl) (by decide) (by unfold maxLen; omega) (by omega) (by show base ≤ (w1.alloc _).heap.size; rw [sz_alloc]; omega) (w1.heap.size + 1) (sz_alloc w1 _) (fun g cap' w2 q1 q2 q3 q4 => ?_); have hs : Hid (w2.ownsRow base 5 1 (.slice (some ⟨g, 0, none⟩) (os.length + 4) cap') (os ++ B).length ((os ++ B).map mB) ∧ BK base w1 w2) := (by rw [unhide HE2, List.map_append, List.length_append]; exact ⟨q1, grownP (o := .cells #[.int .u8 92, .int .u8 120, .int .u8 (hexd p), .int .u8 (hexd q)] 5) (unhide Hown) hbase (by exact ⟨rfl, rfl, rfl, rfl⟩) q2⟩); clear q1 q2 q3 q4)
      all_goals go_wp2
      all_goals go_ret
      all_goals exact ⟨_, rfl, (unhide hs).1, (unhide hs).2⟩

end Go.Proofs.YtmhafibngbojcaaDoor

namespace Go.Proofs.YtmhafibngbojcaaDoor
open Go.Shelf
def Tryd.laysAppendInt_ren : Go.Shelf.Ren := ⟨fun | 176 => 55 | 249 => 65 | 288 => 67 | 283 => 69 | 284 => 70 | 285 => 71 | 286 => 72 | 129 => 75 | 317 => 74 | 318 => 76 | 319 => 77 | 320 => 78 | 337 => 79 | 338 => 80 | n => n, fun | 37 => 26 | 2 => 2 | 3 => 3 | 53 => 65 | 4 => 4 | 9 => 9 | 171 => 97 | 0 => 0 | 173 => 100 | 212 => 103 | 51 => 104 | 5 => 5 | 20 => 20 | 213 => 105 | 46 => 106 | 232 => 109 | 233 => 110 | n => n, fun | 17 => 0 | 18 => 2 | 19 => 3 | n => n⟩
theorem Tryd.laysAppendInt : Go.Proofs.LaysM.n176 Tryd.prog Tryd.laysAppendInt_ren := {
  mixed := by kernel_rfl
  f129 := Tryd.func75.trans (congrArg some (by kernel_rfl))
  f176 := Tryd.func55.trans (congrArg some (by kernel_rfl))
  f249 := Tryd.func65.trans (congrArg some (by kernel_rfl))
  f283 := Tryd.func69.trans (congrArg some (by kernel_rfl))
  f284 := Tryd.func70.trans (congrArg some (by kernel_rfl))
  f285 := Tryd.func71.trans (congrArg some (by kernel_rfl))
  f286 := Tryd.func72.trans (congrArg some (by kernel_rfl))
  f288 := Tryd.func67.trans (congrArg some (by kernel_rfl))
  f317 := Tryd.func74.trans (congrArg some (by kernel_rfl))
  f318 := Tryd.func76.trans (congrArg some (by kernel_rfl))
  f319 := Tryd.func77.trans (congrArg some (by kernel_rfl))
  f320 := Tryd.func78.trans (congrArg some (by kernel_rfl))
  f337 := Tryd.func79.trans (congrArg some (by kernel_rfl))
  f338 := Tryd.func80.trans (congrArg some (by kernel_rfl))
  t0 := Tryd.underlying0
  a0 := Tryd.isAgg0
  z0 := Tryd.sizeOf0
  v0 := Tryd.zeroValue0
  t2 := Tryd.underlying2
  a2 := Tryd.isAgg2
  z2 := Tryd.sizeOf2
  v2 := Tryd.zeroValue2
  t3 := Tryd.underlying3
  a3 := Tryd.isAgg3
  z3 := Tryd.sizeOf3
  v3 := Tryd.zeroValue3
  t4 := Tryd.underlying4
  a4 := Tryd.isAgg4
  z4 := Tryd.sizeOf4
  v4 := Tryd.zeroValue4
  t5 := Tryd.underlying5
  a5 := Tryd.isAgg5
  z5 := Tryd.sizeOf5
  v5 := Tryd.zeroValue5
  t9 := Tryd.underlying9
  a9 := Tryd.isAgg9
  z9 := Tryd.sizeOf9
  v9 := Tryd.zeroValue9
  t20 := Tryd.underlying20
  a20 := Tryd.isAgg20
  z20 := Tryd.sizeOf20
  v20 := Tryd.zeroValue20
  t37 := Tryd.underlying26
  a37 := Tryd.isAgg26
  z37 := Tryd.sizeOf26
  v37 := Tryd.zeroValue26
  t46 := Tryd.underlying106
  a46 := Tryd.isAgg106
  z46 := Tryd.sizeOf106
  v46 := Tryd.zeroValue106
  t51 := Tryd.underlying104
  a51 := Tryd.isAgg104
  z51 := Tryd.sizeOf104
  v51 := Tryd.zeroValue104
  t53 := Tryd.underlying65
  a53 := Tryd.isAgg65
  z53 := Tryd.sizeOf65
  v53 := Tryd.zeroValue65
  t171 := Tryd.underlying97
  a171 := Tryd.isAgg97
  z171 := Tryd.sizeOf97
  v171 := Tryd.zeroValue97
  t173 := Tryd.underlying100
  a173 := Tryd.isAgg100
  z173 := Tryd.sizeOf100
  v173 := Tryd.zeroValue100
  t212 := Tryd.underlying103
  a212 := Tryd.isAgg103
  z212 := Tryd.sizeOf103
  v212 := Tryd.zeroValue103
  t213 := Tryd.underlying105
  a213 := Tryd.isAgg105
  z213 := Tryd.sizeOf105
  t232 := Tryd.underlying109
  a232 := Tryd.isAgg109
  z232 := Tryd.sizeOf109
  v232 := Tryd.zeroValue109
  t233 := Tryd.underlying110
  a233 := Tryd.isAgg110
  z233 := Tryd.sizeOf110
  v233 := Tryd.zeroValue110
  g17 := by kernel_rfl
  g18 := by kernel_rfl
  g19 := by kernel_rfl
  i0 := by kernel_rfl
  i2 := by kernel_rfl
  i3 := by kernel_rfl
  i4 := by kernel_rfl
  i5 := by kernel_rfl
  i9 := by kernel_rfl
  i20 := by kernel_rfl
  i37 := by kernel_rfl
  i46 := by kernel_rfl
  i51 := by kernel_rfl
  i53 := by kernel_rfl
  i171 := by kernel_rfl
  i173 := by kernel_rfl
  i212 := by kernel_rfl
  i232 := by kernel_rfl
  i233 := by kernel_rfl
  m17 := by kernel_rfl
  m18 := by kernel_rfl
  m19 := by kernel_rfl }
end Go.Proofs.YtmhafibngbojcaaDoor

namespace Go.Proofs.YtmhafibngbojcaaDoor
open Go.RowKit

set_option maxHeartbeats 2000000 in
set_option maxRecDepth 100000 in
theorem appendRange_any (lo hi : Int) (h0 : 0 ≤ lo) (h1 : lo ≤ hi) (h2 : hi ≤ 255) : AppT 53 (fun v => #[v, .int .i64 lo, .int .i64 hi]) (rngT lo hi) := by
  intro base ov os w hown hbase hlen
  have Hown := hide hown
  obtain ⟨oa, oc, rfl⟩ := own_is hown
  have f6 : wrap64 (lo + 1) = lo + 1 := w64i (by omega) (by omega)
  have f7 : IntKind.i64.wrap (lo + 1) = lo + 1 := k64i (by omega) (by omega)
  have hb1 := byT_len lo
  have hb2 := byT_len hi
  have hl : os.length ≤ 100000000 := by omega
  have HL := hide hlen
  clear hown hlen
  have hp : (byT lo).length ≤ (rngT lo hi).length := by unfold rngT; simp only [List.length_append]; omega
  go_enter Tryd.func53, Tryd.ntmps53
  go_wp2_with fail
  refine (appendByte_any lo h0 (by omega) base _ os w (unhide Hown) hbase (by have := unhide HL; omega)).mono ?_
  rintro e w1 ⟨v1, rfl, ho1, hB1⟩
  obtain ⟨X, hX⟩ : ∃ X, X = os ++ byT lo := ⟨_, rfl⟩
  rw [← hX] at ho1
  have hxl : X.length ≤ 200000000 := by rw [hX, List.length_append]; omega
  have HX := hide hX
  have Ho1 := hide ho1
  obtain ⟨a1, c1, rfl⟩ := own_is ho1
  have hz1 := hB1.size
  clear ho1 Hown hX
  by_cases g0 : hi = lo
  · have HE : Hid (os ++ rngT lo hi = X) := by show os ++ rngT lo hi = X; rw [unhide HX]; unfold rngT; rw [if_neg (by omega), if_neg (by omega)]; simp
    have g0' : (hi == lo) = true := by simpa using g0
    clear h1 g0
    go_wp2
    go_ret
    exact ⟨_, rfl, by rw [unhide HE]; exact unhide Ho1, hB1⟩
  have g0' : (hi == lo) = false := by simpa using g0
  by_cases g1 : lo + 1 < hi
  · have HE : Hid (os ++ rngT lo hi = X ++ [45] ++ byT hi) := by show os ++ rngT lo hi = _; rw [unhide HX]; unfold rngT; rw [if_pos g1, if_pos (by omega)]; simp
    have HL2 : Hid ((X ++ [45]).length + (byT hi).length ≤ 100000000) := by
      have h1 := congrArg List.length (unhide HE)
      have h2 := unhide HL
      rw [List.length_append, List.length_append] at h1
      show (X ++ [45]).length + (byT hi).length ≤ 100000000
      omega
    go_wp2_with (at_builtin; refine app_litB (w := w1) _ rfl _ _ rfl base _ rfl X (unhide Ho1) (by omega) [45] rfl rfl (by simp) (by rw [List.length_singleton]; omega) ?_; intro v2 w2 hb2' ho2 hv2; obtain ⟨Y, hY⟩ : ∃ Y, Y = X ++ [45] := ⟨_, rfl⟩; rw [← hY] at ho2; have HY := hide hY; have Ho2 := hide ho2; obtain ⟨a2, c2, rfl⟩ := own_is ho2; clear ho2 hY)
    have hz2 := hb2'.size
    clear Ho1
    refine (appendByte_any hi (by omega) h2 base _ Y _ (unhide Ho2) (by omega) (by rw [unhide HY]; exact unhide HL2)).mono ?_
    rintro e w3 ⟨v3, rfl, ho3, hB3⟩
    rw [unhide HY, ← unhide HE] at ho3
    obtain ⟨Z, hZ⟩ : ∃ Z, Z = os ++ rngT lo hi := ⟨_, rfl⟩
    rw [← hZ] at ho3
    have HZ := hide hZ
    have Ho3 := hide ho3
    obtain ⟨a3, c3, rfl⟩ := own_is ho3
    clear ho3 hZ
    go_wp2
    go_ret
    exact ⟨_, rfl, by rw [← unhide HZ]; exact unhide Ho3, hB1.trans (hb2'.trans hB3)⟩
  · have HE : Hid (os ++ rngT lo hi = X ++ byT hi) := by show os ++ rngT lo hi = _; rw [unhide HX]; unfold rngT; rw [if_neg g1, if_pos (by omega)]; simp
    have HL2 : Hid (X.length + (byT hi).length ≤ 100000000) := by
      have h1 := congrArg List.length (unhide HE)
      have h2 := unhide HL
      rw [List.length_append, List.length_append] at h1
      show X.length + (byT hi).length ≤ 100000000
      omega
    go_wp2_with fail
    refine (appendByte_any hi (by omega) h2 base _ X _ (unhide Ho1) (by omega) (unhide HL2)).mono ?_
    rintro e w3 ⟨v3, rfl, ho3, hB3⟩
    rw [← unhide HE] at ho3
    obtain ⟨Z, hZ⟩ : ∃ Z, Z = os ++ rngT lo hi := ⟨_, rfl⟩
    rw [← hZ] at ho3
    have HZ := hide hZ
    have Ho3 := hide ho3
    obtain ⟨a3, c3, rfl⟩ := own_is ho3
    clear ho3 hZ
    go_wp2
    go_ret
    exact ⟨_, rfl, by rw [← unhide HZ]; exact unhide Ho3, hB1.trans hB3⟩

theorem dd_small {u : Nat} (h : u < 10) : Lib.byteCells (Lib.decDigits u) = [.int .u8 ((48 + u : Nat) : Int)] := by
  rw [Lib.decDigits, dif_pos h]
  simp [Lib.byteCells]
  omega
theorem dd_big {u : Nat} (h : ¬ u < 10) : Lib.byteCells (Lib.decDigits u) = Lib.byteCells (Lib.decDigits (u / 10)) ++ [.int .u8 ((48 + u % 10 : Nat) : Int)] := by
  rw [Lib.decDigits, dif_neg h]
  simp [Lib.byteCells]
  omega
theorem dec_itoa (v : Int) (h0 : 0 ≤ v) (h1 : v < 1000) : Lib.byteCells (Lib.itoa v) = (decT v).map mB := by
  obtain ⟨n, rfl⟩ := Int.eq_ofNat_of_zero_le h0
  unfold Lib.itoa
  rw [if_neg (by omega), Int.toNat_natCast]
  unfold decT
  by_cases q1 : n < 10
  · rw [dd_small q1, if_pos (by omega)]; simp [mB]
  · rw [if_neg (by omega)]
    by_cases q2 : n < 100
    · rw [dd_big q1, dd_small (by omega), if_pos (by omega)]
      simp only [mB, List.map_cons, List.map_nil, List.cons_append, List.nil_append]
      simp only [List.cons.injEq, Value.int.injEq, and_true, true_and]
      omega
    · rw [dd_big q1, dd_big (by omega), dd_small (by omega), if_neg (by omega)]
      simp only [mB, List.map_cons, List.map_nil, List.cons_append, List.nil_append]
      simp only [List.cons.injEq, Value.int.injEq, and_true, true_and]
      omega

/-- The library's table of powers of ten lies below base. -/
abbrev TB (base : Nat) (w : World) : Prop := Lib.TabBelow Tryd.prog base w "internal/strconv.uint64pow10" .u64 Lib.pow10Tab
/-- This function puts T behind the list that it is given, where the table lies. -/
def AppK (F : FuncId) (args : Value → Array Value) (T : List Int) : Prop := ∀ (base : Nat) (ov : Value) (os : List Int) (w : World), w.ownsRow base 5 1 ov os.length (os.map mB) → base ≤ w.heap.size → TB base w → os.length + T.length ≤ 100000000 →
  Calls Tryd.prog F (args ov) w fun e w' => ∃ v', e = .returned v' ∧ w'.ownsRow base 5 1 v' (os ++ T).length ((os ++ T).map mB) ∧ BK base w w'

theorem appendInt_any (v : Int) (h0 : 0 ≤ v) (h1 : v < 1000) (base : Nat) (ov : Value) (os : List Int) (w : World) (hown : w.ownsRow base 5 1 ov os.length (os.map mB)) (hbase : base ≤ w.heap.size) (htb : TB base w) (hlen : os.length ≤ 1000000000) :
    Calls Tryd.prog 55 #[ov, .int .i64 v, .int .i64 10] w fun e w' => ∃ v', e = .returned v' ∧ w'.ownsRow base 5 1 v' (os ++ decT v).length ((os ++ decT v).map mB) ∧ BK base w w' := by
  refine (Any.strconv_AppendInt_10 Tryd.laysAppendInt base os.length v (by omega) (by omega) ov (os.map mB) w hown hbase (by omega) htb).mono ?_
  rintro e w' ⟨v', rfl, ho, hb, hk⟩
  refine ⟨v', rfl, ?_, hb, hk⟩
  rw [dec_itoa v h0 h1] at ho
  have hl : (Lib.itoa v).length = (decT v).length := by
    have := congrArg List.length (dec_itoa v h0 h1)
    simpa [Lib.byteCells_length] using this
  rw [hl, ← List.map_append] at ho
  rw [List.length_append]
  exact ho

end Go.Proofs.YtmhafibngbojcaaDoor
