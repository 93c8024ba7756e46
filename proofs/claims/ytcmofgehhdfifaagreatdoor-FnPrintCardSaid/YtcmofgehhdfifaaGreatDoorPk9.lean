import Derived.Test.YtcmofgehhdfifaaGreatDoorPk5
import Derived.RangeFuncBox
import Derived.Test.YtcmofgehhdfifaaGreatDoorPk4
import Derived.Test.YtcmofgehhdfifaaGreatDoorPk3
import Derived.WalkLawsBesides
namespace Go.Proofs.YtcmofgehhdfifaaGreatDoor
open Go.RowKit
theorem Boxed.under {w w' : World} {B m : Nat} {t : TypeId} {v : Value} (h : Boxed w B t v) (hb : Below m w w') (hm : B < m) : Boxed w' B t v := (hb.block B hm).trans h
structure Cl (α : Type) where
  v : Value
  xs : List α
  b : Nat
def Cl.ok {α : Type} (mk : α → Value) (d : α) (e : TypeId) (w : World) (p : Cl α) : Prop :=
  ∃ a cap, p.v = .slice a p.xs.length cap ∧ (p.xs.length ≤ cap ∧ cap ≤ maxLen) ∧ (0 < p.xs.length → ∃ off, a = some ⟨p.b, off, none⟩ ∧ (∃ c, w.heap[p.b]? = some (.cells c e (0, 0))) ∧ ∀ i : Nat, i < p.xs.length → w.cell? ⟨p.b, off + i, none⟩ = some (mk (p.xs[i]?.getD d)))
theorem Cl.ok.same {α : Type} {mk : α → Value} {d : α} {e : TypeId} {w w' : World} {p : Cl α} (h : p.ok mk d e w) (hs : 0 < p.xs.length → w'.heap[p.b]? = w.heap[p.b]?) : p.ok mk d e w' := by
  obtain ⟨a, cap, e1, hl, hc⟩ := h
  refine ⟨a, cap, e1, hl, fun hp => ?_⟩
  obtain ⟨off, e2, ⟨c, h1⟩, h2⟩ := hc hp
  exact ⟨off, e2, ⟨c, (hs hp).trans h1⟩, fun i hi => by rw [World.cell?_of_block (w := w) (a := ⟨p.b, off + i, none⟩) (hs hp)]; exact h2 i hi⟩
theorem Cl.ok.lt {α : Type} {mk : α → Value} {d : α} {e : TypeId} {w : World} {p : Cl α} (h : p.ok mk d e w) (hp : 0 < p.xs.length) : p.b < w.heap.size := by
  obtain ⟨a, cap, e1, hl, hc⟩ := h
  obtain ⟨off, e2, ⟨c, h1⟩, h2⟩ := hc hp
  exact (Array.getElem?_eq_some_iff.1 h1).1
theorem Cl.ok.below {α : Type} {mk : α → Value} {d : α} {e : TypeId} {m : Nat} {w w' : World} {p : Cl α} (h : p.ok mk d e w) (hb : Below m w w') (hm : w.heap.size ≤ m) : p.ok mk d e w' := h.same (fun hp => hb.block _ (by have := h.lt hp; omega))
theorem Cl.ok.at {α : Type} {mk : α → Value} {d : α} {e : TypeId} {w : World} {p : Cl α} (h : p.ok mk d e w) : SlAt mk d 0 w.heap.size w p.v p.xs := by
  obtain ⟨a, cap, e1, hl, hc⟩ := id h
  refine ⟨a, cap, e1, by omega, fun hp => ?_⟩
  obtain ⟨off, e2, -, h2⟩ := hc hp
  exact ⟨p.b, off, e2, Nat.zero_le _, h.lt hp, h2⟩
theorem Cl.ok.cap {α : Type} {mk : α → Value} {d : α} {e : TypeId} {w : World} {p : Cl α} (h : p.ok mk d e w) : CapOk p.v := by
  obtain ⟨a, cap, e1, hl, hc⟩ := h
  rw [e1]
  exact CapOk.mk hl.1 hl.2
theorem Cl.ok.foot {α : Type} {mk : α → Value} {d : α} {e : TypeId} {w : World} {p : Cl α} (h : p.ok mk d e w) : SlF mk d (fun k => 0 < p.xs.length ∧ k = p.b) w p.v p.xs := by
  obtain ⟨a, cap, e1, hl, hc⟩ := h
  by_cases hp : 0 < p.xs.length
  · refine ⟨p.b, p.b + 1, ⟨a, cap, e1, by omega, fun _ => ?_⟩, fun k h1 h2 => ⟨hp, by omega⟩⟩
    obtain ⟨off, e2, ⟨c, h1⟩, h2⟩ := hc hp
    exact ⟨p.b, off, e2, Nat.le_refl _, Nat.lt_succ_self _, ⟨c, e, h1⟩, h2⟩
  · exact ⟨0, 0, ⟨a, cap, e1, by omega, fun h => absurd h hp⟩, fun k h1 h2 => by omega⟩
theorem Cl.ok.one {α : Type} {mk : α → Value} {d : α} {e : TypeId} {w : World} {p : Cl α} (h : p.ok mk d e w) : p.v.oneCell' = true := by
  obtain ⟨a, cap, e1, -⟩ := h
  rw [e1]
  rfl
def ApartC {α : Type} (ps : List (Cl α)) : Prop := ps.Pairwise (fun p q => 0 < p.xs.length → 0 < q.xs.length → p.b ≠ q.b)
structure LL {α : Type} (mk : α → Value) (d : α) (e te : TypeId) (base : Nat) (w : World) (v : Value) (ps : List (Cl α)) : Prop where
  own : w.ownsRow base te 1 v ps.length (ps.map Cl.v)
  ok : ∀ p ∈ ps, p.ok mk d e w
  lo : ∀ p ∈ ps, 0 < p.xs.length → base ≤ p.b
  apart : ApartC ps
theorem LL.nil {α : Type} {mk : α → Value} {d : α} {e te : TypeId} {base : Nat} {w : World} : LL mk d e te base w (.slice none 0 0) [] := ⟨World.ownsRow_nil _ _ _ _, by simp, by simp, List.Pairwise.nil⟩
theorem LL.keep {α : Type} {mk : α → Value} {d : α} {e te : TypeId} {base m : Nat} {w w' : World} {v : Value} {ps : List (Cl α)} (h : LL mk d e te base w v ps) (hb : Below m w w') (hm : w.heap.size ≤ m) : LL mk d e te base w' v ps :=
  ⟨own_keep h.own hb hm, fun p hp => (h.ok p hp).below hb hm, h.lo, h.apart⟩
theorem LL.not_row {α : Type} {mk : α → Value} {d : α} {e te : TypeId} {base : Nat} {w : World} {v : Value} {ps : List (Cl α)} (hte : te ≠ e) (h : LL mk d e te base w v ps) {p : Cl α} {q : Cl α} (hq : q.ok mk d e w) (_ : p = q) (hp : 0 < q.xs.length) : some q.b ≠ v.ownBlock := by
  intro e1
  obtain ⟨a, cap, -, -, hc⟩ := hq
  obtain ⟨off, -, ⟨c, h1⟩, -⟩ := hc hp
  rcases h.own.2 with ⟨rfl, _⟩ | ⟨g, cap', cur, rfl, _, hgb, _⟩
  · simp [Value.ownBlock] at e1
  · obtain rfl : q.b = g := by simpa [Value.ownBlock] using e1
    rw [h1] at hgb
    simp at hgb
    exact hte hgb.2.symm
theorem pushd_alloc (w : World) (o : Obj) : Pushd w (w.alloc o) o := ⟨rfl, rfl, rfl, rfl⟩
theorem LL.app {α : Type} {mk : α → Value} {d : α} {e te : TypeId} {base : Nat} {w W w' : World} {v v' : Value} {ps : List (Cl α)} {p : Cl α} {o : Obj} (hte : te ≠ e) (h : LL mk d e te base w v ps) (hbase : base ≤ w.heap.size) (hp : p.ok mk d e w) (hplo : 0 < p.xs.length → base ≤ p.b)
    (hnew : ∀ q ∈ ps, 0 < q.xs.length → 0 < p.xs.length → q.b ≠ p.b) (hP : Pushd w W o) (h1 : w'.ownsRow base te 1 v' (ps.length + 1) (ps.map Cl.v ++ [p.v])) (hg : W.grownBy w' v.ownBlock) : LL mk d e te base w' v' (ps ++ [p]) ∧ Below base w w' := by
  have hk : ∀ q : Cl α, q.ok mk d e w → q.ok mk d e w' := fun q hq => by
    refine hq.same (fun hq0 => ?_)
    have hlt := hq.lt hq0
    rw [hg.block q.b (by rw [hP.size]; omega) (h.not_row hte hq rfl hq0), hP.old hlt]
  refine ⟨⟨by rw [List.length_append, List.map_append]; exact h1, fun q hq => ?_, fun q hq hq0 => ?_, ?_⟩, (hP.below.mono hbase).grown hg (by rw [hP.size]; omega) (fun k hk => (h.own.lt k hk).1)⟩
  · rcases List.mem_append.1 hq with hq | hq
    · exact hk q (h.ok q hq)
    · rw [List.mem_singleton] at hq
      subst hq
      exact hk q hp
  · rcases List.mem_append.1 hq with hq | hq
    · exact h.lo q hq hq0
    · rw [List.mem_singleton] at hq
      subst hq
      exact hplo hq0
  · refine List.pairwise_append.2 ⟨h.apart, List.pairwise_singleton _ _, fun q hq r hr => ?_⟩
    rw [List.mem_singleton] at hr
    subst hr
    exact hnew q hq
theorem LL.foot {α : Type} {mk : α → Value} {d : α} {e te : TypeId} {base : Nat} {w : World} {v : Value} {ps : List (Cl α)} (hte : te ≠ e) (h : LL mk d e te base w v ps) (hl : ps.length ≤ maxLen) : SsF mk d (Rng base w.heap.size) w v (ps.map Cl.xs) := by
  have hlen := h.own.1
  rcases h.own.2 with ⟨rfl, hz⟩ | ⟨g, cap, cur, rfl, hbg, hg, hnc, hcm, hcs, htake⟩
  · have : ps = [] := List.eq_nil_of_length_eq_zero hz
    subst this
    exact SsF.nil _ _ _ _ _ _ (Nat.zero_le _)
  · have hgl : g < w.heap.size := (h.own.lt g rfl).2
    have hget : ∀ i : Nat, i < ps.length → ∃ p, ps[i]? = some p ∧ p ∈ ps := fun i hi => ⟨ps[i], by simp [hi], List.getElem_mem hi⟩
    refine ⟨some ⟨g, 0, none⟩, cap, by rw [List.length_map], ⟨by rw [List.length_map]; exact hnc, hcm⟩, fun _ => ⟨g, 0, fun i => ((ps[i]?).map Cl.v).getD undef, fun i k => ∃ p, ps[i]? = some p ∧ 0 < p.xs.length ∧ k = p.b, rfl, ⟨hbg, hgl⟩, ⟨cur, te, hg⟩, fun i hi => ?_, fun i hi => ?_, fun i hi k hk => ?_, fun i j hi hj hne k hk hk' => ?_⟩⟩
    · rw [List.length_map] at hi
      obtain ⟨p, hp, -⟩ := hget i hi
      show w.cell? ⟨g, 0 + i, none⟩ = some (((ps[i]?).map Cl.v).getD undef)
      rw [Nat.zero_add, h.own.cellAt i (by omega), List.getElem?_map, hp]
      rfl
    · rw [List.length_map] at hi
      obtain ⟨p, hp, hm⟩ := hget i hi
      have e1 : ((ps[i]?).map Cl.v).getD undef = p.v := by rw [hp]; rfl
      have e2 : ((ps.map Cl.xs)[i]?).getD [] = p.xs := by rw [List.getElem?_map, hp]; rfl
      show SlF mk d _ w (((ps[i]?).map Cl.v).getD undef) (((ps.map Cl.xs)[i]?).getD []) ∧ CapOk (((ps[i]?).map Cl.v).getD undef)
      rw [e1, e2]
      exact ⟨(h.ok p hm).foot.mono (fun k hk => ⟨p, hp, hk.1, hk.2⟩), (h.ok p hm).cap⟩
    · obtain ⟨p, hp, hp0, rfl⟩ := hk
      have hm : p ∈ ps := List.mem_of_getElem? hp
      refine ⟨⟨h.lo p hm hp0, (h.ok p hm).lt hp0⟩, fun e1 => ?_⟩
      exact h.not_row hte (h.ok p hm) rfl hp0 (by rw [e1]; rfl)
    · obtain ⟨p, hp, hp0, rfl⟩ := hk
      obtain ⟨q, hq, hq0, e1⟩ := hk'
      rw [List.length_map] at hi hj
      have hpair := List.pairwise_iff_getElem.1 h.apart
      have ep : ps[i]'hi = p := by rw [List.getElem?_eq_getElem hi] at hp; exact Option.some.inj hp
      have eq : ps[j]'hj = q := by rw [List.getElem?_eq_getElem hj] at hq; exact Option.some.inj hq
      rcases Nat.lt_or_gt_of_ne hne with hlt | hlt
      · exact hpair i j hi hj hlt (by rw [ep]; exact hp0) (by rw [eq]; exact hq0) (by rw [ep, eq]; exact e1)
      · exact hpair j i hj hi hlt (by rw [eq]; exact hq0) (by rw [ep]; exact hp0) (by rw [ep, eq]; exact e1.symm)
theorem row_lt {w : World} {B m : Nat} {t : TypeId} {F : Nat → Value} (hr : w.rowIs B t m F) : B < w.heap.size := by
  obtain ⟨c, hc, -⟩ := hr
  rcases Nat.lt_or_ge B w.heap.size with h | h
  · exact h
  · rw [Array.getElem?_eq_none h] at hc; cases hc
structure Obk (g : Nat) (w w' : World) : Prop where
  os : w'.os = w.os
  tape : w'.tape = w.tape
  output : w'.output = w.output
  size : w'.heap.size = w.heap.size
  block : ∀ k, k ≠ g → w'.heap[k]? = w.heap[k]?
theorem Obk.trans {g : Nat} {a b c : World} (h : Obk g a b) (k : Obk g b c) : Obk g a c := ⟨k.os.trans h.os, k.tape.trans h.tape, k.output.trans h.output, k.size.trans h.size, fun i hi => (k.block i hi).trans (h.block i hi)⟩
theorem Obk.refl (g : Nat) (w : World) : Obk g w w := ⟨rfl, rfl, rfl, rfl, fun _ _ => rfl⟩
theorem obk_put {w : World} {b : Nat} (o : Nat) (u : Value) : Obk b w (w.setCell ⟨b, o, none⟩ u) := ⟨rfl, rfl, rfl, by simp [World.setCell], fun k hk => Below.heap_setCell _ _ _ _ (by show k ≠ b; exact hk)⟩
theorem Obk.drew {g : Nat} {a b : World} (h : Obk g a b) : Obk g a b.drew := ⟨h.os, h.tape, h.output, h.size, h.block⟩
structure FrO (O : Nat → Prop) (w w' : World) : Prop where
  os : w'.os = w.os
  tape : w'.tape = w.tape
  output : w'.output = w.output
  size : w.heap.size ≤ w'.heap.size
  block : ∀ k, ¬ O k → w'.heap[k]? = w.heap[k]?
theorem FrO.refl (O : Nat → Prop) (w : World) : FrO O w w := ⟨rfl, rfl, rfl, Nat.le_refl _, fun _ _ => rfl⟩
theorem FrO.trans {O : Nat → Prop} {a b c : World} (h : FrO O a b) (k : FrO O b c) : FrO O a c := ⟨k.os.trans h.os, k.tape.trans h.tape, k.output.trans h.output, Nat.le_trans h.size k.size, fun i hi => (k.block i hi).trans (h.block i hi)⟩
theorem FrO.mono {O O' : Nat → Prop} {a b : World} (h : FrO O a b) (hO : ∀ k, O k → O' k) : FrO O' a b := ⟨h.os, h.tape, h.output, h.size, fun k hk => h.block k (fun e => hk (hO k e))⟩
theorem FrO.drew {O : Nat → Prop} {a b : World} (h : FrO O a b) : FrO O a b.drew := ⟨h.os, h.tape, h.output, h.size, h.block⟩
theorem FrO.below {O : Nat → Prop} {a b : World} {m : Nat} (h : FrO O a b) (hO : ∀ k, k < m → ¬ O k) : Below m a b := ⟨h.os, h.tape, h.output, h.size, fun k hk => h.block k (hO k hk)⟩
theorem own_blk {base e sz n : Nat} {w w' : World} {v : Value} {xs : List Value} (h : w.ownsRow base e sz v n xs) (hs : ∀ q, v.ownBlock = some q → w'.heap[q]? = w.heap[q]?) : w'.ownsRow base e sz v n xs := by
  refine ⟨h.1, ?_⟩
  rcases h.2 with hn | ⟨g, cap, cur, rfl, hb, hg, rest⟩
  · exact .inl hn
  · exact .inr ⟨g, cap, cur, rfl, hb, (hs g rfl).trans hg, rest⟩
theorem own_lt {base e sz n : Nat} {w : World} {v : Value} {xs : List Value} (h : w.ownsRow base e sz v n xs) : ∀ q, v.ownBlock = some q → q < w.heap.size := fun q hq => (h.lt q hq).2
def Sk (O : Nat → Prop) (a b : Nat) : Nat → Prop := fun k => O k ∧ (k < a ∨ b ≤ k)
theorem Sk.top {O : Nat → Prop} {a b m : Nat} (hO : ∀ k, a ≤ k → O k) (h : a ≤ m) (h2 : b ≤ m) : ∀ k, m ≤ k → Sk O a b k := fun k hk => ⟨hO k (by omega), Or.inr (by omega)⟩
structure Rdr (w : World) (N q : Nat) (tv : Value) (xs : List Int) (at' d : Nat) (ov : Bool) : Prop where
  row : Row4 w q 57 tv (.int .i64 (at' : Nat)) (.int .i64 (d : Nat)) (.bool ov)
  txt : SlAt mB 0 0 N w tv xs
  lt : N ≤ q
theorem SlAt.undr {α : Type} {mk : α → Value} {d : α} {lo n m : Nat} {w w' : World} {v : Value} {xs : List α} (h : SlAt mk d lo n w v xs) (hb : Below m w w') (hm : n ≤ m) : SlAt mk d lo n w' v xs := by
  obtain ⟨a, c, rfl, hl, hc⟩ := h
  refine ⟨a, c, rfl, hl, fun h0 => ?_⟩
  obtain ⟨b, off, rfl, h1, h2, h3⟩ := hc h0
  exact ⟨b, off, rfl, h1, h2, fun i hi => by rw [hb.cell (p := ⟨b, off + i, none⟩) (Nat.lt_of_lt_of_le h2 hm)]; exact h3 i hi⟩
theorem Rdr.drewN {w : World} {N q : Nat} {tv : Value} {xs : List Int} {at' d : Nat} {ov : Bool} (h : Rdr w N q tv xs at' d ov) (n : Nat) : Rdr (w.drewN n) N q tv xs at' d ov := ⟨h.row, h.txt, h.lt⟩
theorem obk_drewN (q : Nat) (w : World) (n : Nat) : Obk q w (w.drewN n) := ⟨rfl, rfl, rfl, rfl, fun _ _ => rfl⟩
theorem Rdr.step {w : World} {N q : Nat} {tv : Value} {xs : List Int} {at' d : Nat} {ov : Bool} (h : Rdr w N q tv xs at' d ov) : Rdr (w.setCell ⟨q, 1, none⟩ (.int .i64 ((at' : Int) + 1))) N q tv xs (at' + 1) d ov := by
  have e : (.int .i64 ((at' : Int) + 1) : Value) = .int .i64 ((at' + 1 : Nat) : Int) := by rw [Int.natCast_add]; rfl
  rw [e]
  have hb : Below N w (w.setCell ⟨q, 1, none⟩ (.int .i64 ((at' + 1 : Nat) : Int))) := by
    have h9 := obk_put (w := w) (b := q) 1 (.int .i64 ((at' + 1 : Nat) : Int))
    exact ⟨h9.os, h9.tape, h9.output, by rw [h9.size]; exact Nat.le_refl _, fun k hk => h9.block k (by have := h.lt; omega)⟩
  exact ⟨Row4.put1 h.row, h.txt.undr hb (Nat.le_refl _), h.lt⟩
def fltV (at' : Nat) : Value := .iface 91 (.agg #[.int .i64 (at' : Nat)])
set_option maxHeartbeats 1000000 in
theorem fail_any (w : World) (N q : Nat) (tv : Value) (xs : List Int) (at' d : Nat) (ov : Bool) (h : Rdr w N q tv xs at' d ov) :
    Calls Tryz.prog 53 #[.pointer (some ⟨q, 0, none⟩)] w fun e w' => e = .panicked [{ v := fltV at', recovered := false }] ∧ w' = w := by
  obtain ⟨k0, k1, k2, k3, -⟩ := h.row.facts
  go_enter Tryz.func53, Tryz.ntmps53
  go_wp2
  exact ⟨rfl, rfl, rfl⟩
def pkB (xs : List Int) (at' : Nat) : Int := xs[at']?.getD (-1)
set_option maxHeartbeats 2000000 in
theorem peek_any (w : World) (N q : Nat) (tv : Value) (xs : List Int) (at' d : Nat) (ov : Bool) (h : Rdr w N q tv xs at' d ov) (hb : ∀ x ∈ xs, 0 ≤ x ∧ x ≤ 255) (ha : at' ≤ xs.length) (hl : xs.length ≤ 100000) :
    Calls Tryz.prog 52 #[.pointer (some ⟨q, 0, none⟩)] w fun e w' => e = .returned (.int .i64 (pkB xs at')) ∧ ∃ n, w' = w.drewN n := by
  obtain ⟨k0, k1, k2, k3, -⟩ := h.row.facts
  obtain ⟨a, c, rfl, -, hc⟩ := id h.txt
  by_cases e : at' = xs.length
  · have e' : (at' : Int) = (xs.length : Int) := by omega
    have hp : pkB xs at' = -1 := by unfold pkB; rw [List.getElem?_eq_none (by omega)]; rfl
    have HP := hide hp
    clear h hc hp hb
    go_enter Tryz.func52, Tryz.ntmps52
    go_wp2_with fail
    go_quiet (fail)
    go_wp2
    go_ret
    rw [unhide HP]
    exact ⟨rfl, _, rfl⟩
  · have e' : ¬ (at' : Int) = (xs.length : Int) := by omega
    have hlt : at' < xs.length := by omega
    have hlt' : (at' : Int) < (xs.length : Int) := by omega
    obtain ⟨b, off, rfl, -, -, hcell⟩ := hc (by omega)
    have c0 := hcell at' hlt
    have hp : pkB xs at' = xs[at']?.getD 0 := by unfold pkB; rw [List.getElem?_eq_getElem hlt]; rfl
    have hx := hb (xs[at']?.getD 0) (by rw [List.getElem?_eq_getElem hlt]; exact List.getElem_mem hlt)
    obtain ⟨x, hxe⟩ : ∃ x, x = xs[at']?.getD 0 := ⟨_, rfl⟩
    rw [← hxe] at c0 hx hp
    unfold mB at c0
    have HP := hide hp
    obtain ⟨hx0, hx1⟩ := hx
    clear h hc hp hb hcell hxe
    go_enter Tryz.func52, Tryz.ntmps52
    go_wp2_with fail
    go_quiet (fail)
    go_wp2_with fail
    go_quiet (fail)
    go_wp2
    go_ret
    rw [unhide HP]
    exact ⟨rfl, _, drew2 _ _ _⟩
set_option maxHeartbeats 2000000 in
theorem rdNext_any (w : World) (N q : Nat) (tv : Value) (xs : List Int) (at' d : Nat) (ov : Bool) (h : Rdr w N q tv xs at' d ov) (hb : ∀ x ∈ xs, 0 ≤ x ∧ x ≤ 255) (ha : at' ≤ xs.length) (hl : xs.length ≤ 100000) :
    Calls Tryz.prog 101 #[.pointer (some ⟨q, 0, none⟩)] w fun e w' => (at' = xs.length ∧ e = .panicked [{ v := fltV at', recovered := false }] ∧ ∃ n, w' = w.drewN n) ∨ (at' < xs.length ∧ e = .returned (.int .i64 (xs[at']?.getD 0)) ∧ Rdr w' N q tv xs (at' + 1) d ov ∧ Obk q w w') := by
  have HP := hide (peek_any w N q tv xs at' d ov h hb ha hl)
  have H := hide h
  clear h
  go_enter Tryz.func101, Tryz.ntmps101
  go_wp2_with fail
  refine (unhide HP).mono ?_
  rintro e w1 ⟨rfl, n1, rfl⟩
  by_cases e : at' = xs.length
  · have hp : pkB xs at' = -1 := by unfold pkB; rw [List.getElem?_eq_none (by omega)]; rfl
    have h1 : Rdr (w.drewN n1) N q tv xs at' d ov := ⟨(unhide H).row, (unhide H).txt, (unhide H).lt⟩
    have HF := hide (fail_any _ N q tv xs at' d ov h1)
    rw [hp]
    clear hp h1
    go_wp2_with fail
    refine (unhide HF).mono ?_
    rintro e w2 ⟨rfl, rfl⟩
    go_wp2
    exact ⟨rfl, .inl ⟨e, by rw [e], _, rfl⟩⟩
  · have hlt : at' < xs.length := by omega
    have hp : pkB xs at' = xs[at']?.getD 0 := by unfold pkB; rw [List.getElem?_eq_getElem hlt]; rfl
    have hx := hb (xs[at']?.getD 0) (by rw [List.getElem?_eq_getElem hlt]; exact List.getElem_mem hlt)
    obtain ⟨x, hxe⟩ : ∃ x, x = xs[at']?.getD 0 := ⟨_, rfl⟩
    rw [← hxe] at hx hp
    have hx1 : ¬ x = -1 := by omega
    have h1 : Rdr (w.drewN n1) N q tv xs at' d ov := ⟨(unhide H).row, (unhide H).txt, (unhide H).lt⟩
    obtain ⟨k0, k1, k2, k3, fz⟩ := h1.row.facts
    have H1 := hide h1
    have hfz := World.rowIs.frozen (unhide H1).row 1
    have HX := hide hxe
    rw [hp]
    clear hp h1 hb hxe
    go_wp2
    go_ret
    rw [← unhide HX]
    exact .inr ⟨hlt, rfl, (unhide H1).step, (obk_drewN q w n1).trans (obk_put 1 _)⟩
set_option maxHeartbeats 2000000 in
theorem take_any (w : World) (N q : Nat) (tv : Value) (xs : List Int) (at' d : Nat) (ov : Bool) (b : Int) (h : Rdr w N q tv xs at' d ov) (hb : ∀ x ∈ xs, 0 ≤ x ∧ x ≤ 255) (ha : at' ≤ xs.length) (hl : xs.length ≤ 100000) :
    Calls Tryz.prog 50 #[.pointer (some ⟨q, 0, none⟩), .int .i64 b] w fun e w' => (pkB xs at' ≠ b ∧ e = .returned (.bool false) ∧ ∃ n, w' = w.drewN n) ∨ (pkB xs at' = b ∧ e = .returned (.bool true) ∧ Rdr w' N q tv xs (at' + 1) d ov ∧ Obk q w w') := by
  have HP := hide (peek_any w N q tv xs at' d ov h hb ha hl)
  have H := hide h
  clear h hb
  obtain ⟨y, hy⟩ : ∃ y, y = pkB xs at' := ⟨_, rfl⟩
  rw [← hy] at HP ⊢
  clear hy
  go_enter Tryz.func50, Tryz.ntmps50
  go_wp2_with fail
  refine (unhide HP).mono ?_
  rintro e w1 ⟨rfl, n1, rfl⟩
  have H1 := hide ((unhide H).drewN n1)
  obtain ⟨k0, k1, k2, k3, -⟩ := (unhide H1).row.facts
  have hfz := World.rowIs.frozen (unhide H1).row 1
  by_cases e : y = b
  · subst e
    go_wp2
    go_ret
    exact ⟨rfl, (unhide H1).step, (obk_drewN q w n1).trans (obk_put 1 _)⟩
  · go_wp2
    go_ret
    exact .inl ⟨e, rfl, _, rfl⟩
set_option maxHeartbeats 2000000 in
theorem expect_any (w : World) (N q : Nat) (tv : Value) (xs : List Int) (at' d : Nat) (ov : Bool) (b : Int) (h : Rdr w N q tv xs at' d ov) (hb : ∀ x ∈ xs, 0 ≤ x ∧ x ≤ 255) (ha : at' ≤ xs.length) (hl : xs.length ≤ 100000) :
    Calls Tryz.prog 106 #[.pointer (some ⟨q, 0, none⟩), .int .i64 b] w fun e w' => (pkB xs at' ≠ b ∧ e = .panicked [{ v := fltV at', recovered := false }] ∧ ∃ n, w' = w.drewN n) ∨ (pkB xs at' = b ∧ e = .returned (.tuple #[]) ∧ Rdr w' N q tv xs (at' + 1) d ov ∧ Obk q w w') := by
  have HP := hide (take_any w N q tv xs at' d ov b h hb ha hl)
  have H := hide h
  clear h hb
  go_enter Tryz.func106, Tryz.ntmps106
  go_wp2_with fail
  refine (unhide HP).mono ?_
  rintro e w1 (⟨hne, rfl, n1, rfl⟩ | ⟨heq, rfl, h1, h2⟩)
  · have HF := hide (fail_any _ N q tv xs at' d ov ((unhide H).drewN n1))
    go_wp2_with fail
    refine (unhide HF).mono ?_
    rintro e w2 ⟨rfl, rfl⟩
    go_wp2
    exact ⟨rfl, .inl ⟨hne, rfl, _, rfl⟩⟩
  · go_wp2
    first | (refine bodyPost_ret (results_none rfl _ _ _) rfl ?_) | (refine bodyPost_end (results_none rfl _ _ _) rfl ?_)
    exact .inr ⟨heq, rfl, h1, h2⟩
def Flt (e : Ending) : Prop := ∃ k : Nat, e = .panicked [{ v := fltV k, recovered := false }]
set_option maxHeartbeats 1000000 in
theorem isDigit_any (b : Int) (w : World) : Calls Tryz.prog 115 #[.int .i64 b] w fun e w' => e = .returned (.bool (isD b)) ∧ w' = w := by
  by_cases h1 : 48 ≤ b
  · by_cases h2 : b ≤ 57
    · have HD : Hid (isD b = true) := by show isD b = true; simp [isD, h1, h2]
      go_enter Tryz.func115, Tryz.ntmps115
      go_wp2
      go_ret
      rw [unhide HD]
      exact ⟨rfl, rfl⟩
    · have HD : Hid (isD b = false) := by show isD b = false; simp [isD, h2]
      go_enter Tryz.func115, Tryz.ntmps115
      go_wp2
      go_ret
      rw [unhide HD]
      exact ⟨rfl, rfl⟩
  · have HD : Hid (isD b = false) := by show isD b = false; simp [isD, h1]
    go_enter Tryz.func115, Tryz.ntmps115
    go_wp2
    go_ret
    rw [unhide HD]
    exact ⟨rfl, rfl⟩
set_option maxHeartbeats 4000000 in
theorem hexDigit_any (w : World) (N q : Nat) (tv : Value) (xs : List Int) (at' d : Nat) (ov : Bool) (h : Rdr w N q tv xs at' d ov) (hb : ∀ x ∈ xs, 0 ≤ x ∧ x ≤ 255) (ha : at' ≤ xs.length) (hl : xs.length ≤ 100000) :
    Calls Tryz.prog 123 #[.pointer (some ⟨q, 0, none⟩)] w fun e w' => ((at' = xs.length ∨ hexv (xs[at']?.getD 0) = none) ∧ Flt e ∧ Obk q w w') ∨ (at' < xs.length ∧ (∃ v, hexv (xs[at']?.getD 0) = some v ∧ e = .returned (.int .i64 v)) ∧ Rdr w' N q tv xs (at' + 1) d ov ∧ Obk q w w') := by
  have HP := hide (rdNext_any w N q tv xs at' d ov h hb ha hl)
  have hx : at' < xs.length → 0 ≤ xs[at']?.getD 0 ∧ xs[at']?.getD 0 ≤ 255 := fun hlt => hb (xs[at']?.getD 0) (by rw [List.getElem?_eq_getElem hlt]; exact List.getElem_mem hlt)
  obtain ⟨x, hxe⟩ : ∃ x, x = xs[at']?.getD 0 := ⟨_, rfl⟩
  rw [← hxe] at HP hx ⊢
  have HX := hide hx
  clear h hb hxe hx
  go_enter Tryz.func123, Tryz.ntmps123
  go_wp2_with fail
  refine (unhide HP).mono ?_
  rintro e w1 (⟨hat, rfl, n1, rfl⟩ | ⟨hlt, rfl, h1, hob⟩)
  · have HA := hide hat
    clear hat
    go_wp2
    exact ⟨rfl, .inl ⟨.inl (unhide HA), ⟨_, rfl⟩, obk_drewN q w n1⟩⟩
  · obtain ⟨hx0, hx1⟩ := unhide HX hlt
    have H1 := hide h1
    have HOB := hide hob
    have HID := hide (isDigit_any x w1)
    have HLT := hide hlt
    clear h1 hob hlt
    by_cases e1 : 48 ≤ x ∧ x ≤ 57
    · have hd : isD x = true := by simp [isD, e1]
      have HV : Hid (hexv x = some (x - 48)) := by show hexv x = _; unfold hexv; rw [if_pos e1]
      rw [hd] at HID
      obtain ⟨e1a, e1b⟩ := e1
      clear hd
      go_wp2_with fail
      refine (unhide HID).mono ?_
      rintro e w2 ⟨rfl, rfl⟩
      go_wp2
      go_ret
      exact .inr ⟨unhide HLT, ⟨_, unhide HV, rfl⟩, unhide H1, unhide HOB⟩
    · have hd : isD x = false := by simp [isD]; omega
      rw [hd] at HID
      clear hd
      go_wp2_with fail
      refine (unhide HID).mono ?_
      rintro e w2 ⟨rfl, rfl⟩
      by_cases e2 : 97 ≤ x ∧ x ≤ 102
      · have HV : Hid (hexv x = some (x - 97 + 10)) := by show hexv x = _; unfold hexv; rw [if_neg e1, if_pos e2]
        obtain ⟨e2a, e2b⟩ := e2
        clear e1
        go_wp2
        go_ret
        exact .inr ⟨unhide HLT, ⟨_, unhide HV, rfl⟩, unhide H1, unhide HOB⟩
      · by_cases e3 : 65 ≤ x ∧ x ≤ 70
        · have HV : Hid (hexv x = some (x - 65 + 10)) := by show hexv x = _; unfold hexv; rw [if_neg e1, if_neg e2, if_pos e3]
          obtain ⟨e3a, e3b⟩ := e3
          have e2c : ¬ 97 ≤ x := by omega
          clear e1 e2
          go_wp2
          go_ret
          exact .inr ⟨unhide HLT, ⟨_, unhide HV, rfl⟩, unhide H1, unhide HOB⟩
        · have HV : Hid (hexv x = none) := by show hexv x = _; unfold hexv; rw [if_neg e1, if_neg e2, if_neg e3]
          have HF := hide (fail_any _ N q tv xs (at' + 1) d ov (unhide H1))
          rcases (show (97 ≤ x ∧ ¬ x ≤ 102) ∨ (¬ 97 ≤ x ∧ 65 ≤ x ∧ ¬ x ≤ 70) ∨ (¬ 97 ≤ x ∧ ¬ 65 ≤ x) by omega) with ⟨a1, a2⟩ | ⟨a1, a2, a3⟩ | ⟨a1, a2⟩
          · have a3 : 65 ≤ x := by omega
            have a4 : ¬ x ≤ 70 := by omega
            clear e1 e2 e3
            go_wp2_with fail
            refine (unhide HF).mono ?_
            rintro e w3 ⟨rfl, rfl⟩
            go_wp2
            exact ⟨rfl, .inl ⟨.inr (unhide HV), ⟨_, rfl⟩, unhide HOB⟩⟩
          · clear e1 e2 e3
            go_wp2_with fail
            refine (unhide HF).mono ?_
            rintro e w3 ⟨rfl, rfl⟩
            go_wp2
            exact ⟨rfl, .inl ⟨.inr (unhide HV), ⟨_, rfl⟩, unhide HOB⟩⟩
          · clear e1 e2 e3
            go_wp2_with fail
            refine (unhide HF).mono ?_
            rintro e w3 ⟨rfl, rfl⟩
            go_wp2
            exact ⟨rfl, .inl ⟨.inr (unhide HV), ⟨_, rfl⟩, unhide HOB⟩⟩
def DgI (xs : List Int) (at' j : Nat) : Prop := j ≤ 4 ∧ at' + j ≤ xs.length ∧ ∀ i, i < j → isD (xs[at' + i]?.getD 0) = true
theorem numV_snoc (ds : List Int) (c : Int) : numV (ds ++ [c]) = numV ds * 10 + (c - 48) := by unfold numV; rw [List.foldl_append]; rfl
theorem drop_take {xs : List Int} {at' j : Nat} (h : at' + j < xs.length) : (xs.drop at').take (j + 1) = (xs.drop at').take j ++ [xs[at' + j]?.getD 0] := by
  rw [List.take_add_one, List.getElem?_drop, List.getElem?_eq_getElem h]
  rfl
theorem pow_le4 {j : Nat} (h : j < 4) : (10 : Int) ^ j ≤ 1000 := by
  match j, h with
  | 0, _ => exact (by decide)
  | 1, _ => exact (by decide)
  | 2, _ => exact (by decide)
  | 3, _ => exact (by decide)
theorem DgI.next {xs : List Int} {at' j : Nat} (h : DgI xs at' j) (h4 : j < 4) (hd : isD (pkB xs (at' + j)) = true) : DgI xs at' (j + 1) ∧ pkB xs (at' + j) = xs[at' + j]?.getD 0 := by
  have hlt : at' + j < xs.length := by
    apply Nat.lt_of_not_le
    intro e
    unfold pkB at hd
    rw [List.getElem?_eq_none e] at hd
    revert hd
    decide
  have hp : pkB xs (at' + j) = xs[at' + j]?.getD 0 := by unfold pkB; rw [List.getElem?_eq_getElem hlt]; rfl
  refine ⟨⟨by omega, by omega, fun i hi => ?_⟩, hp⟩
  by_cases e : i = j
  · subst e; rw [← hp]; exact hd
  · exact h.2.2 i (by omega)
theorem Row4.p3 {w : World} {b : Nat} {t : TypeId} {c0 c1 c2 c3 u : Value} (h : Row4 w b t c0 c1 c2 c3) : Row4 (w.setCell ⟨b, 3, none⟩ u) b t c0 c1 c2 u := (World.rowIs.set h 3 u).congr (fun i hi => by
    match i, hi with
    | 0, _ => rfl
    | 1, _ => rfl
    | 2, _ => rfl
    | 3, _ => rfl
    | k + 4, h => exact absurd h (by omega))
theorem Rdr.over {w : World} {N q : Nat} {tv : Value} {xs : List Int} {at' d : Nat} {ov : Bool} (h : Rdr w N q tv xs at' d ov) : Rdr (w.setCell ⟨q, 3, none⟩ (.bool true)) N q tv xs at' d true := by
  have hb : Below N w (w.setCell ⟨q, 3, none⟩ (.bool true)) := by
    have h9 := obk_put (w := w) (b := q) 3 (.bool true)
    exact ⟨h9.os, h9.tape, h9.output, by rw [h9.size]; exact Nat.le_refl _, fun k hk => h9.block k (by have := h.lt; omega)⟩
  exact ⟨Row4.p3 h.row, h.txt.undr hb (Nat.le_refl _), h.lt⟩
set_option maxHeartbeats 4000000 in
theorem readNumber_any (w : World) (N q : Nat) (tv : Value) (xs : List Int) (at' d : Nat) (ov : Bool) (h : Rdr w N q tv xs at' d ov) (hb : ∀ x ∈ xs, 0 ≤ x ∧ x ≤ 255) (ha : at' ≤ xs.length) (hl : xs.length ≤ 100000) :
    Calls Tryz.prog 105 #[.pointer (some ⟨q, 0, none⟩)] w fun e w' => ∃ k : Nat, DgI xs at' k ∧ (k < 4 → isD (pkB xs (at' + k)) = false) ∧ Obk q w w' ∧ ((k = 0 ∧ Flt e) ∨ (0 < k ∧ e = .returned (.int .i64 (numV ((xs.drop at').take k))) ∧ Rdr w' N q tv xs (at' + k) d (ov || decide (250 < numV ((xs.drop at').take k))))) := by
  have H := hide h
  have HB := hide hb
  clear h hb
  go_enter Tryz.func105, Tryz.ntmps105
  go_wp2_with fail
  go_loopw [3, 4] (fun nv jv wr => ∃ (j : Nat) (v : Int), jv = .int .i64 (j : Nat) ∧ nv = .int .i64 v ∧ v = numV ((xs.drop at').take j) ∧ 0 ≤ v ∧ v < (10 : Int) ^ j ∧ DgI xs at' j ∧ Rdr wr N q tv xs (at' + j) d ov ∧ Obk q w wr) (fun _ jv _ => 4 - (intOf jv).toNat)
  case atStart => exact ⟨0, 0, rfl, rfl, by simp [numV], by omega, by simp, ⟨by omega, by omega, fun i hi => by omega⟩, unhide H, obk_drewN q w 0⟩
  case round =>
    clear H
    obtain ⟨j, v, rfl, rfl, hv, hv0, hv1, hD, hR, hob⟩ := hrel
    obtain ⟨w1, rfl⟩ : ∃ w1, w1 = wr := ⟨_, rfl⟩
    by_cases hj : j < 4
    · have hj' : (j : Int) < 4 := by omega
      have hvb : v ≤ 999 := by have := pow_le4 hj; omega
      have HPK := hide (peek_any w1 N q tv xs (at' + j) d ov hR (unhide HB) hD.2.1 hl)
      have HVV := hide hv
      have HV1 := hide hv1
      have HD := hide hD
      have HR := hide hR
      have HOB := hide hob
      obtain ⟨y, hy⟩ : ∃ y, y = pkB xs (at' + j) := ⟨_, rfl⟩
      rw [← hy] at HPK
      have HY := hide hy
      clear hv hv1 hD hR hob hy
      go_wp2_with fail
      refine (unhide HPK).mono ?_
      rintro e w2 ⟨rfl, n2, rfl⟩
      have HID := hide (isDigit_any y (w1.drewN n2))
      cases hd : isD y with
      | true =>
        rw [hd] at HID
        obtain ⟨hD2, hp⟩ := (unhide HD).next hj (by rw [← unhide HY]; exact hd)
        have hyy : 48 ≤ y ∧ y ≤ 57 := by simpa [isD] using hd
        obtain ⟨y0, y1⟩ := hyy
        have HNX := hide (rdNext_any (w1.drewN n2) N q tv xs (at' + j) d ov ((unhide HR).drewN n2) (unhide HB) (unhide HD).2.1 hl)
        have hlt : at' + j < xs.length := by have := hD2.2.1; omega
        have hxy : xs[at' + j]?.getD 0 = y := by rw [← hp]; exact (unhide HY).symm
        have HVN : Hid (v * 10 + y - 48 = numV ((xs.drop at').take (j + 1))) := by
          show v * 10 + y - 48 = _
          rw [drop_take hlt, numV_snoc, ← unhide HVV, hxy]
          omega
        have HVB : Hid (v * 10 + y - 48 < (10 : Int) ^ (j + 1)) := by
          show _ < _
          have := unhide HV1
          rw [Int.pow_succ]
          omega
        rw [hxy] at HNX
        have HD2 := hide hD2
        have HLT := hide hlt
        clear hd hD2 hp hlt hxy
        go_wp2_with fail
        refine (unhide HID).mono ?_
        rintro e w3 ⟨rfl, rfl⟩
        go_wp2_with fail
        refine (unhide HNX).mono ?_
        rintro e w4 (⟨hat, -⟩ | ⟨-, rfl, h4, hob4⟩)
        · exact absurd hat (by have := unhide HLT; omega)
        have H4 := hide h4
        have HOB4 := hide (((unhide HOB).trans (obk_drewN q w1 n2)).trans hob4)
        clear h4 hob4
        go_wp2
        go_roundw
        case rel => exact ⟨j + 1, _, by go_num, rfl, unhide HVN, by omega, unhide HVB, unhide HD2, unhide H4, unhide HOB4⟩
        case measure => simp [intOf]; omega
      | false =>
        rw [hd] at HID
        have HDF : Hid (isD (pkB xs (at' + j)) = false) := by rw [← unhide HY]; exact hd
        clear hd
        go_wp2_with fail
        refine (unhide HID).mono ?_
        rintro e w3 ⟨rfl, rfl⟩
        have HEN : Hid (j < 4 → isD (pkB xs (at' + j)) = false) := fun _ => unhide HDF
        have HRX : Hid (Rdr (w1.drewN n2) N q tv xs (at' + j) d ov) := (unhide HR).drewN n2
        have HOX : Hid (Obk q w (w1.drewN n2)) := (unhide HOB).trans (obk_drewN q w1 n2)
        obtain ⟨k0, k1, k2, k3, -⟩ := (unhide HRX).row.facts
        have hfz := World.rowIs.frozen (unhide HRX).row 3
        by_cases hj0 : j = 0
        · have HF := hide (fail_any _ N q tv xs (at' + j) d ov (unhide HRX))
          have hj0' : (j : Int) = 0 := by omega
          go_wp2_with fail
          refine (unhide HF).mono ?_
          rintro e w5 ⟨rfl, rfl⟩
          go_wp2
          exact ⟨rfl, j, unhide HD, unhide HEN, unhide HOX, .inl ⟨hj0, _, rfl⟩⟩
        · have hj0' : ¬ (j : Int) = 0 := by omega
          have hj1 : 0 < j := by omega
          by_cases hbig : 250 < v
          · go_wp2
            go_ret
            refine ⟨j, unhide HD, unhide HEN, (unhide HOX).trans (obk_put 3 _), .inr ⟨hj1, by rw [← unhide HVV]; rfl, ?_⟩⟩
            rw [← unhide HVV, show (ov || decide (250 < v)) = true by simp [hbig]]
            exact (unhide HRX).over
          · go_wp2
            go_ret
            refine ⟨j, unhide HD, unhide HEN, unhide HOX, .inr ⟨hj1, by rw [← unhide HVV]; rfl, ?_⟩⟩
            rw [← unhide HVV, show (ov || decide (250 < v)) = ov by rw [decide_eq_false (by omega), Bool.or_false]]
            exact unhide HRX
    · have hj' : ¬ (j : Int) < 4 := by omega
      have HVV := hide hv
      have HD := hide hD
      have HEN : Hid (j < 4 → isD (pkB xs (at' + j)) = false) := fun q => absurd q hj
      have HR := hide hR
      have HOB := hide hob
      clear hv hv1 hD hR hob
      have HRX : Hid (Rdr w1 N q tv xs (at' + j) d ov) := unhide HR
      have HOX : Hid (Obk q w w1) := unhide HOB
      obtain ⟨k0, k1, k2, k3, -⟩ := (unhide HRX).row.facts
      have hfz := World.rowIs.frozen (unhide HRX).row 3
      by_cases hj0 : j = 0
      · exact absurd hj0 (by omega)
      · have hj0' : ¬ (j : Int) = 0 := by omega
        have hj1 : 0 < j := by omega
        by_cases hbig : 250 < v
        · go_wp2
          go_ret
          refine ⟨j, unhide HD, unhide HEN, (unhide HOX).trans (obk_put 3 _), .inr ⟨hj1, by rw [← unhide HVV]; rfl, ?_⟩⟩
          rw [← unhide HVV, show (ov || decide (250 < v)) = true by simp [hbig]]
          exact (unhide HRX).over
        · go_wp2
          go_ret
          refine ⟨j, unhide HD, unhide HEN, unhide HOX, .inr ⟨hj1, by rw [← unhide HVV]; rfl, ?_⟩⟩
          rw [← unhide HVV, show (ov || decide (250 < v)) = ov by rw [decide_eq_false (by omega), Bool.or_false]]
          exact unhide HRX
theorem dig_take : ∀ (k : Nat) (s : List Int), k ≤ s.length → (∀ i, i < k → isD (s[i]?.getD 0) = true) → isD (s[k]?.getD (-1)) = false → s.takeWhile isD = s.take k ∧ s.dropWhile isD = s.drop k
  | 0, [], _, _, _ => ⟨rfl, rfl⟩
  | 0, c :: s, _, _, h => by
    simp at h
    rw [List.takeWhile_cons, h, List.dropWhile_cons, h]
    exact ⟨rfl, rfl⟩
  | k + 1, [], h, _, _ => by simp at h
  | k + 1, c :: s, hl, hd, he => by
    have h0 : isD c = true := by have := hd 0 (by omega); simpa using this
    obtain ⟨h1, h2⟩ := dig_take k s (by simpa using hl) (fun i hi => by have := hd (i + 1) (by omega); simpa using this) (by simpa using he)
    rw [List.takeWhile_cons, if_pos h0, List.dropWhile_cons, if_pos h0, h1, h2]
    exact ⟨rfl, rfl⟩
theorem dig_more : ∀ (m : Nat) (s : List Int), m ≤ s.length → (∀ i, i < m → isD (s[i]?.getD 0) = true) → m ≤ (s.takeWhile isD).length
  | 0, _, _, _ => Nat.zero_le _
  | m + 1, [], h, _ => by simp at h
  | m + 1, c :: s, hl, hd => by
    have h0 : isD c = true := by have := hd 0 (by omega); simpa using this
    have := dig_more m s (by simpa using hl) (fun i hi => by have := hd (i + 1) (by omega); simpa using this)
    rw [List.takeWhile_cons, if_pos h0]
    simp
    exact this
theorem num1_of {xs : List Int} {at' k : Nat} (hD : DgI xs at' k) (he : k < 4 → isD (pkB xs (at' + k)) = false) :
    (k = 0 → num1 (xs.drop at') = none) ∧ (0 < k → isD (pkB xs (at' + k)) = false → num1 (xs.drop at') = some (numV ((xs.drop at').take k), xs.drop (at' + k))) ∧ (isD (pkB xs (at' + k)) = true → num1 (xs.drop at') = none) := by
  obtain ⟨h4, hl, hd⟩ := hD
  have hlen : k ≤ (xs.drop at').length := by rw [List.length_drop]; omega
  have hdd : ∀ i, i < k → isD ((xs.drop at')[i]?.getD 0) = true := fun i hi => by rw [List.getElem?_drop]; exact hd i hi
  have hpk : (xs.drop at')[k]?.getD (-1) = pkB xs (at' + k) := by rw [List.getElem?_drop]; rfl
  refine ⟨fun e => ?_, fun h0 hn => ?_, fun hy => ?_⟩
  · subst e
    obtain ⟨e1, -⟩ := dig_take 0 (xs.drop at') hlen hdd (by rw [hpk]; exact he (by omega))
    unfold num1
    rw [if_pos (.inl (by rw [e1]; rfl))]
  · obtain ⟨e1, e2⟩ := dig_take k (xs.drop at') hlen hdd (by rw [hpk]; exact hn)
    unfold num1
    have hk : ((xs.drop at').take k).length = k := by rw [List.length_take]; omega
    rw [e1, e2, hk, if_neg (by omega), List.drop_drop]
  · have hk4 : k = 4 := by
      apply Classical.byContradiction
      intro e
      rw [he (by omega)] at hy
      cases hy
    have hlt : at' + k < xs.length := by
      apply Nat.lt_of_not_le
      intro e
      unfold pkB at hy
      rw [List.getElem?_eq_none e] at hy
      revert hy
      decide
    have := dig_more (k + 1) (xs.drop at') (by rw [List.length_drop]; omega) (fun i hi => by
      by_cases e : i = k
      · subst e
        rw [List.getElem?_drop, List.getElem?_eq_getElem hlt]
        unfold pkB at hy
        rw [List.getElem?_eq_getElem hlt] at hy
        exact hy
      · exact hdd i (by omega))
    unfold num1
    rw [if_pos (.inr (by omega))]
theorem drop_pk {xs : List Int} {at' : Nat} {b : Int} (h0 : 0 ≤ b) (h : pkB xs at' = b) : xs.drop at' = b :: xs.drop (at' + 1) ∧ at' < xs.length := by
  have hlt : at' < xs.length := by
    apply Nat.lt_of_not_le
    intro e
    unfold pkB at h
    rw [List.getElem?_eq_none e] at h
    simp at h
    omega
  unfold pkB at h
  rw [List.getElem?_eq_getElem hlt] at h
  simp at h
  exact ⟨by rw [List.drop_eq_getElem_cons hlt, h], hlt⟩
theorem drop_ne {xs : List Int} {at' : Nat} {b : Int} (h : pkB xs at' ≠ b) : ∀ r, xs.drop at' ≠ b :: r := fun r e => by
  apply h
  have := congrArg (fun l => l[0]?) e
  simp at this
  unfold pkB
  rw [this]
  rfl
def BrR (e : Ending) (w w' : World) (N q : Nat) (tv : Value) (xs : List Int) (at' d : Nat) (ov : Bool) : Prop :=
  Obk q w w' ∧ ((brc (xs.drop at') = none ∧ Flt e) ∨ ∃ (lo hi : Int) (at2 : Nat), brc (xs.drop at') = some ((lo, hi), xs.drop at2) ∧ at2 ≤ xs.length ∧ e = .returned (.tuple #[.int .i64 lo, .int .i64 hi]) ∧ Rdr w' N q tv xs at2 d (ov || (decide (250 < lo) || decide (250 < hi))))
theorem brc2_ne {lo : Int} {s : List Int} (h1 : ∀ r, s ≠ 125 :: r) (h2 : ∀ r, s ≠ 44 :: r) : brc2 lo s = none := by
  cases s with
  | nil => rfl
  | cons c r =>
    rw [brc2, if_neg (fun e => h1 r (by rw [e])), if_neg (fun e => h2 r (by rw [e]))]
theorem brc3_num {lo : Int} {s : List Int} (h : ∀ r, s ≠ 125 :: r) : brc3 lo s = (num1 s).bind fun x => if x.1 < lo then none else match x.2 with
    | d :: r2 => if d = 125 then some ((lo, x.1), r2) else none
    | [] => none := by
  cases s with
  | nil => rfl
  | cons c r =>
    rw [brc3, if_neg (fun e => h r (by rw [e]))]
    rfl
set_option maxHeartbeats 8000000 in
theorem readBounds_any (w : World) (N q : Nat) (tv : Value) (xs : List Int) (at' d : Nat) (ov : Bool) (h : Rdr w N q tv xs at' d ov) (hb : ∀ x ∈ xs, 0 ≤ x ∧ x ≤ 255) (ha : at' ≤ xs.length) (hl : xs.length ≤ 100000) :
    Calls Tryz.prog 98 #[.pointer (some ⟨q, 0, none⟩)] w fun e w' => BrR e w w' N q tv xs at' d ov := by
  have HN := hide (readNumber_any w N q tv xs at' d ov h hb ha hl)
  have HB := hide hb
  clear h hb
  go_enter Tryz.func98, Tryz.ntmps98
  go_wp2_with fail
  refine (unhide HN).mono ?_
  rintro e w1 ⟨k, hD, he, hob, ⟨hk, hf⟩ | ⟨hk, rfl, hR⟩⟩
  · obtain ⟨z, rfl⟩ := hf
    have HX : Hid (brc (xs.drop at') = none) := by show brc _ = none; unfold brc; rw [(num1_of hD he).1 hk]; rfl
    have HOB := hide hob
    clear hD he hob hk
    go_wp2
    exact ⟨rfl, unhide HOB, .inl ⟨unhide HX, _, rfl⟩⟩
  · have hak := hD.2.1
    obtain ⟨lo, hlo⟩ : ∃ lo, lo = numV ((xs.drop at').take k) := ⟨_, rfl⟩
    rw [← hlo] at hR ⊢
    obtain ⟨-, n1, n2⟩ := num1_of hD he
    rw [← hlo] at n1
    obtain ⟨o1, ho1⟩ : ∃ o1, o1 = (ov || decide (250 < lo)) := ⟨_, rfl⟩
    rw [← ho1] at hR
    have HT := hide (take_any w1 N q tv xs (at' + k) d o1 125 hR (unhide HB) hak hl)
    have HR := hide hR
    have HOB := hide hob
    have HN1 := hide (n1 hk)
    have HN2 := hide n2
    have HO1 := hide ho1
    clear hD he hob hR hlo n1 n2 ho1 HN
    go_wp2_with fail
    refine (unhide HT).mono ?_
    rintro e w2 (⟨hne, rfl, m2, rfl⟩ | ⟨heq, rfl, h2, hob2⟩)
    · have hR2 := (unhide HR).drewN m2
      have HE := hide (expect_any (w1.drewN m2) N q tv xs (at' + k) d o1 44 hR2 (unhide HB) hak hl)
      have HNE := hide hne
      clear hne hR2 HT
      go_wp2_with fail
      refine (unhide HE).mono ?_
      rintro e w3 (⟨hne2, rfl, m3, rfl⟩ | ⟨heq, rfl, h3, hob3⟩)
      · have HX : Hid (brc (xs.drop at') = none) := by
          show brc _ = none
          unfold brc
          cases hdg : isD (pkB xs (at' + k)) with
          | true => rw [unhide HN2 hdg]; rfl
          | false => rw [unhide HN1 hdg, Option.bind_some]; exact brc2_ne (drop_ne (unhide HNE)) (drop_ne hne2)
        clear hne2
        go_wp2
        exact ⟨rfl, (unhide HOB).trans (obk_drewN q w1 _), .inl ⟨unhide HX, _, rfl⟩⟩
      · obtain ⟨hdr, hlt⟩ := drop_pk (by omega) heq
        have hnd : isD (pkB xs (at' + k)) = false := by rw [heq]; decide
        have HX : Hid (brc (xs.drop at') = brc3 lo (xs.drop (at' + k + 1))) := by
          show brc _ = _
          unfold brc
          rw [unhide HN1 hnd, Option.bind_some, hdr, brc2, if_neg (by decide), if_pos rfl]
        have hak2 : at' + k + 1 ≤ xs.length := by omega
        have HOB3 := hide (((unhide HOB).trans (obk_drewN q w1 m2)).trans hob3)
        have HT2 := hide (take_any w3 N q tv xs (at' + k + 1) d o1 125 h3 (unhide HB) hak2 hl)
        have H3 := hide h3
        clear hdr heq hnd hlt h3 hob3 HE HR HOB
        go_wp2_with fail
        refine (unhide HT2).mono ?_
        rintro e w4 (⟨hne4, rfl, m4, rfl⟩ | ⟨heq4, rfl, h4, hob4⟩)
        · have HN5 := hide (readNumber_any (w3.drewN m4) N q tv xs (at' + k + 1) d o1 ((unhide H3).drewN m4) (unhide HB) hak2 hl)
          have HY : Hid (brc (xs.drop at') = (num1 (xs.drop (at' + k + 1))).bind fun x => if x.1 < lo then none else match x.2 with
              | d :: r2 => if d = 125 then some ((lo, x.1), r2) else none
              | [] => none) := by
            show brc _ = _
            rw [unhide HX, brc3_num (drop_ne hne4)]
          clear hne4 HT2 H3
          go_wp2_with fail
          refine (unhide HN5).mono ?_
          rintro e w5 ⟨k2, hD, he, hob5, ⟨hk2, hf⟩ | ⟨hk2, rfl, hR5⟩⟩
          · obtain ⟨z, rfl⟩ := hf
            have HZ : Hid (brc (xs.drop at') = none) := by show brc _ = none; rw [unhide HY, (num1_of hD he).1 hk2]; rfl
            have HOB5 := hide (((unhide HOB3).trans (obk_drewN q w3 m4)).trans hob5)
            clear hD he hob5 hk2
            go_wp2
            exact ⟨rfl, unhide HOB5, .inl ⟨unhide HZ, _, rfl⟩⟩
          · have hak5 := hD.2.1
            obtain ⟨hi, hhi⟩ : ∃ hi, hi = numV ((xs.drop (at' + k + 1)).take k2) := ⟨_, rfl⟩
            rw [← hhi] at hR5 ⊢
            obtain ⟨-, n1, n2⟩ := num1_of hD he
            rw [← hhi] at n1
            obtain ⟨o5, ho5⟩ : ∃ o5, o5 = (o1 || decide (250 < hi)) := ⟨_, rfl⟩
            rw [← ho5] at hR5
            have HE5 := hide (expect_any w5 N q tv xs (at' + k + 1 + k2) d o5 125 hR5 (unhide HB) hak5 hl)
            have HOB5 := hide (((unhide HOB3).trans (obk_drewN q w3 m4)).trans hob5)
            have HM1 := hide (n1 hk2)
            have HM2 := hide n2
            have HO5 := hide ho5
            clear hD he hob5 hR5 hhi n1 n2 ho5 HN5
            go_wp2_with fail
            refine (unhide HE5).mono ?_
            rintro e w6 (⟨hne6, rfl, m6, rfl⟩ | ⟨heq6, rfl, h6, hob6⟩)
            · have HZ : Hid (brc (xs.drop at') = none) := by
                show brc _ = none
                rw [unhide HY]
                cases hdg : isD (pkB xs (at' + k + 1 + k2)) with
                | true => rw [unhide HM2 hdg]; rfl
                | false =>
                  rw [unhide HM1 hdg, Option.bind_some]
                  split
                  · rfl
                  · have h9 := drop_ne hne6
                    cases hs : xs.drop (at' + k + 1 + k2) with
                    | nil => rfl
                    | cons c r =>
                      simp only
                      rw [if_neg (fun e => h9 r (by rw [hs, e]))]
              clear hne6
              go_wp2
              exact ⟨rfl, (unhide HOB5).trans (obk_drewN q w5 _), .inl ⟨unhide HZ, _, rfl⟩⟩
            · obtain ⟨hdr, hlt⟩ := drop_pk (by omega) heq6
              have hnd : isD (pkB xs (at' + k + 1 + k2)) = false := by rw [heq6]; decide
              have hm := unhide HM1 hnd
              have HOB6 := hide ((unhide HOB5).trans hob6)
              have H6 := hide h6
              by_cases hlh : hi < lo
              · have HZ : Hid (brc (xs.drop at') = none) := by
                  show brc _ = none
                  rw [unhide HY, hm, Option.bind_some, if_pos hlh]
                have HF := hide (fail_any w6 N q tv xs _ d o5 h6)
                clear hdr heq6 hnd hm h6 hob6 hlt
                go_wp2_with fail
                refine (unhide HF).mono ?_
                rintro e w7 ⟨rfl, rfl⟩
                go_wp2
                exact ⟨rfl, unhide HOB6, .inl ⟨unhide HZ, _, rfl⟩⟩
              · have HZ : Hid (brc (xs.drop at') = some ((lo, hi), xs.drop (at' + k + 1 + k2 + 1))) := by
                  show brc _ = _
                  rw [unhide HY, hm, Option.bind_some, if_neg hlh, hdr]
                  simp
                have HF : Hid (Rdr w6 N q tv xs (at' + k + 1 + k2 + 1) d (ov || (decide (250 < lo) || decide (250 < hi)))) := by
                  rw [← Bool.or_assoc, ← unhide HO1, ← unhide HO5]
                  exact h6
                have hle : at' + k + 1 + k2 + 1 ≤ xs.length := by omega
                clear hdr heq6 hnd hm h6 hob6 hlt
                go_wp2
                go_ret2
                exact ⟨unhide HOB6, .inr ⟨lo, hi, _, unhide HZ, hle, rfl, unhide HF⟩⟩
        · obtain ⟨hdr, hlt⟩ := drop_pk (by omega) heq4
          have HY : Hid (brc (xs.drop at') = some ((lo, -1), xs.drop (at' + k + 1 + 1))) := by
            show brc _ = _
            rw [unhide HX, hdr, brc3, if_pos rfl]
          have HF : Hid (Rdr w4 N q tv xs (at' + k + 1 + 1) d (ov || (decide (250 < lo) || decide ((250 : Int) < -1)))) := by
            rw [show decide ((250 : Int) < -1) = false by decide, Bool.or_false, ← unhide HO1]
            exact h4
          have HOB4 := hide ((unhide HOB3).trans hob4)
          have hle : at' + k + 1 + 1 ≤ xs.length := by omega
          clear hdr heq4 hlt h4 hob4 HT2 H3
          go_wp2
          go_ret2
          exact ⟨unhide HOB4, .inr ⟨lo, -1, _, unhide HY, hle, rfl, unhide HF⟩⟩
    · obtain ⟨hdr, hlt⟩ := drop_pk (by omega) heq
      have hnd : isD (pkB xs (at' + k)) = false := by rw [heq]; decide
      have HX : Hid (brc (xs.drop at') = some ((lo, lo), xs.drop (at' + k + 1))) := by
        show brc _ = _
        unfold brc
        rw [unhide HN1 hnd, Option.bind_some, hdr, brc2, if_pos rfl]
      have HF : Hid (Rdr w2 N q tv xs (at' + k + 1) d (ov || (decide (250 < lo) || decide (250 < lo)))) := by rw [Bool.or_self, ← unhide HO1]; exact h2
      have HOB2 := hide ((unhide HOB).trans hob2)
      have hle : at' + k + 1 ≤ xs.length := by omega
      clear hdr heq hnd h2 hob2 hlt
      go_wp2
      go_ret2
      exact ⟨unhide HOB2, .inr ⟨lo, lo, _, unhide HX, hle, rfl, unhide HF⟩⟩
def inPs (set : List Int) (b : Int) : Prop := ∃ i : Nat, 2 * i + 1 < set.length ∧ set[2 * i]?.getD 0 ≤ b ∧ b ≤ set[2 * i + 1]?.getD 0
set_option maxHeartbeats 4000000 in
set_option maxRecDepth 100000 in
theorem l1has_any (v : Value) (set : List Int) (b : Int) (w : World) (hv : SlAt mI 0 0 w.heap.size w v set) (hl : set.length ≤ 1048576) :
    Calls Tryz.prog 65 #[v, .int .i64 b] w fun e w' => RetB e (inPs set b) ∧ w' = w := by
  obtain ⟨a, cap, rfl, -, hc⟩ := hv
  go_enter Tryz.func65, Tryz.ntmps65
  go_wp2_with fail
  go_loop [5] (fun iv => ∃ k : Nat, 2 * k ≤ set.length + 1 ∧ iv = .int .i64 ((2 * k : Nat) : Int) ∧ ∀ j : Nat, j < k → ¬ (set[2 * j]?.getD 0 ≤ b ∧ b ≤ set[2 * j + 1]?.getD 0)) (fun iv => set.length + 2 - (intOf iv).toNat)
  case atStart => exact ⟨0, Nat.zero_le _, rfl, fun j hj => absurd hj (Nat.not_lt_zero _)⟩
  case round =>
    obtain ⟨k, hk, rfl, hno⟩ := hrel
    have Hno := hide hno
    clear hno
    by_cases hlt : 2 * k + 1 < set.length
    · have h1' : ((2 * k : Nat) : Int) + 1 < (set.length : Int) := by omega
      have h2' : ((2 * k : Nat) : Int) < (set.length : Int) := by omega
      have h3' : (0 : Int) ≤ ((2 * k : Nat) : Int) + 1 := by omega
      obtain ⟨g, off, rfl, -, -, hcell⟩ := hc (by omega)
      have hx : w.cell? ⟨g, off + 2 * k, none⟩ = some (.int .i64 (set[2 * k]?.getD 0)) := hcell _ (by omega)
      have hy : w.cell? ⟨g, off + (2 * k + 1), none⟩ = some (.int .i64 (set[2 * k + 1]?.getD 0)) := hcell _ (by omega)
      have Hyes : Hid (set[2 * k]?.getD 0 ≤ b → b ≤ set[2 * k + 1]?.getD 0 → inPs set b) := fun q1 q2 => ⟨k, hlt, q1, q2⟩
      have Hnx : Hid (¬ (set[2 * k]?.getD 0 ≤ b ∧ b ≤ set[2 * k + 1]?.getD 0) → ∀ j : Nat, j < k + 1 → ¬ (set[2 * j]?.getD 0 ≤ b ∧ b ≤ set[2 * j + 1]?.getD 0)) := fun h j hj => by
        by_cases e : j = k
        · subst e; exact h
        · exact unhide Hno j (by omega)
      clear hcell hc Hno
      generalize set[2 * k]?.getD 0 = x at *
      generalize set[2 * k + 1]?.getD 0 = y at *
      have hk2 : 2 * (k + 1) ≤ set.length + 1 := by omega
      have hkm : set.length + 2 - 2 * (k + 1) < set.length + 2 - 2 * k := by omega
      have ek : ((2 * (k + 1) : Nat) : Int) = ((2 * k : Nat) : Int) + 2 := by omega
      have EK := hide ek
      have hkb : 2 * k ≤ 1048576 := by omega
      clear ek hlt hk
      generalize hm : 2 * k = m at *
      have HM := hide hm
      clear hm
      by_cases g1 : x ≤ b
      · by_cases g2 : b ≤ y
        · have HQ := hide (unhide Hyes g1 g2)
          clear Hyes Hnx
          go_wp2
          go_ret
          exact ⟨RetB.yes (unhide HQ), rfl⟩
        · have HQ := hide (unhide Hnx (fun h => g2 h.2))
          clear Hyes Hnx
          go_wp2
          go_round
          case rel => exact ⟨k + 1, hk2, by rw [unhide EK], unhide HQ⟩
          case measure => simp [intOf]; omega
      · have HQ := hide (unhide Hnx (fun h => g1 h.1))
        clear Hyes Hnx
        go_wp2
        go_round
        case rel => exact ⟨k + 1, hk2, by rw [unhide EK], unhide HQ⟩
        case measure => simp [intOf]; omega
    · have h1' : ¬ ((2 * k : Nat) : Int) + 1 < (set.length : Int) := by omega
      have hkb : 2 * k ≤ 1048577 := by omega
      have HQ : Hid (¬ inPs set b) := fun ⟨i, hi, h2⟩ => unhide Hno i (by omega) h2
      generalize hm : 2 * k = m at *
      clear hm
      go_wp2
      go_ret
      exact ⟨RetB.no (unhide HQ), rfl⟩
theorem ints_slAt {N : Nat} {w : World} {v : Value} {xs : List Int} (h : IntsAt 0 N w v xs) : SlAt mI 0 0 N w v xs := by
  obtain ⟨a, c, e, h1, -, h2⟩ := h
  exact ⟨a, c, e, h1, h2⟩
end Go.Proofs.YtcmofgehhdfifaaGreatDoor
