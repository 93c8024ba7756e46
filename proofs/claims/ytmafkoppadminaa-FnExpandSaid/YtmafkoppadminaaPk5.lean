import Derived.Test.YtmafkoppadminaaPk3
import Derived.RangeFuncBox
import Derived.Test.YtmafkoppadminaaM1
import Derived.Test.YtmafkoppadminaaB0
import Derived.Test.YtmafkoppadminaaPk1
import Derived.Laws.OwnMore
namespace Go.Proofs.Ytmafkoppadminaa
open Go.RowKit
theorem Boxed.under {w w' : World} {B m : Nat} {t : TypeId} {v : Value} (h : Boxed w B t v) (hb : Below m w w') (hm : B < m) : Boxed w' B t v := (hb.block B hm).trans h
structure Cl (α : Type) where
  v : Value
  xs : List α
  b : Nat
def Cl.ok {α : Type} (mk : α → Value) (d : α) (e : TypeId) (w : World) (p : Cl α) : Prop :=
  ∃ a cap, p.v = .slice a p.xs.length cap ∧ (p.xs.length ≤ cap ∧ cap ≤ maxLen) ∧ (0 < p.xs.length → ∃ off, a = some ⟨p.b, off, none⟩ ∧ (∃ c, w.heap[p.b]? = some (.cells c e (0, 0))) ∧ ∀ i : Nat, i < p.xs.length → w.cell? ⟨p.b, off + i, none⟩ = some (mk (p.xs[i]?.getD d)))
theorem Cl.ok.same {α : Type} {mk : α → Value} {d : α} {e : TypeId} {w w' : World} {p : Cl α} (h : p.ok mk d e w) (hs : 0 < p.xs.length → w'.heap[p.b]? = w.heap[p.b]?) : p.ok mk d e w' := by
  obtain ⟨a, cap, e1, hl, hc⟩ := h
  refine ⟨a, cap, e1, hl, fun hp => ?_⟩
  obtain ⟨off, e2, ⟨c, h1⟩, h2⟩ := hc hp
  exact ⟨off, e2, ⟨c, (hs hp).trans h1⟩, fun i hi => by rw [World.cell?_of_block (w := w) (a := ⟨p.b, off + i, none⟩) (hs hp)]; exact h2 i hi⟩
theorem Cl.ok.lt {α : Type} {mk : α → Value} {d : α} {e : TypeId} {w : World} {p : Cl α} (h : p.ok mk d e w) (hp : 0 < p.xs.length) : p.b < w.heap.size := by
  obtain ⟨a, cap, e1, hl, hc⟩ := h
  obtain ⟨off, e2, ⟨c, h1⟩, h2⟩ := hc hp
  exact (Array.getElem?_eq_some_iff.1 h1).1
theorem Cl.ok.below {α : Type} {mk : α → Value} {d : α} {e : TypeId} {m : Nat} {w w' : World} {p : Cl α} (h : p.ok mk d e w) (hb : Below m w w') (hm : w.heap.size ≤ m) : p.ok mk d e w' := h.same (fun hp => hb.block _ (by have := h.lt hp; omega))
theorem Cl.ok.at {α : Type} {mk : α → Value} {d : α} {e : TypeId} {w : World} {p : Cl α} (h : p.ok mk d e w) : SlAt mk d 0 w.heap.size w p.v p.xs := by
  obtain ⟨a, cap, e1, hl, hc⟩ := id h
  refine ⟨a, cap, e1, by omega, fun hp => ?_⟩
  obtain ⟨off, e2, -, h2⟩ := hc hp
  exact ⟨p.b, off, e2, Nat.zero_le _, h.lt hp, h2⟩
theorem Cl.ok.cap {α : Type} {mk : α → Value} {d : α} {e : TypeId} {w : World} {p : Cl α} (h : p.ok mk d e w) : CapOk p.v := by
  obtain ⟨a, cap, e1, hl, hc⟩ := h
  rw [e1]
  exact CapOk.mk hl.1 hl.2
theorem Cl.ok.foot {α : Type} {mk : α → Value} {d : α} {e : TypeId} {w : World} {p : Cl α} (h : p.ok mk d e w) : SlF mk d (fun k => 0 < p.xs.length ∧ k = p.b) w p.v p.xs := by
  obtain ⟨a, cap, e1, hl, hc⟩ := h
  by_cases hp : 0 < p.xs.length
  · refine ⟨p.b, p.b + 1, ⟨a, cap, e1, by omega, fun _ => ?_⟩, fun k h1 h2 => ⟨hp, by omega⟩⟩
    obtain ⟨off, e2, ⟨c, h1⟩, h2⟩ := hc hp
    exact ⟨p.b, off, e2, Nat.le_refl _, Nat.lt_succ_self _, ⟨c, e, h1⟩, h2⟩
  · exact ⟨0, 0, ⟨a, cap, e1, by omega, fun h => absurd h hp⟩, fun k h1 h2 => by omega⟩
theorem Cl.ok.one {α : Type} {mk : α → Value} {d : α} {e : TypeId} {w : World} {p : Cl α} (h : p.ok mk d e w) : p.v.oneCell' = true := by
  obtain ⟨a, cap, e1, -⟩ := h
  rw [e1]
  rfl
def ApartC {α : Type} (ps : List (Cl α)) : Prop := ps.Pairwise (fun p q => 0 < p.xs.length → 0 < q.xs.length → p.b ≠ q.b)
structure LL {α : Type} (mk : α → Value) (d : α) (e te : TypeId) (base : Nat) (w : World) (v : Value) (ps : List (Cl α)) : Prop where
  own : w.ownsRow base te 1 v ps.length (ps.map Cl.v)
  ok : ∀ p ∈ ps, p.ok mk d e w
  lo : ∀ p ∈ ps, 0 < p.xs.length → base ≤ p.b
  apart : ApartC ps
theorem LL.nil {α : Type} {mk : α → Value} {d : α} {e te : TypeId} {base : Nat} {w : World} : LL mk d e te base w (.slice none 0 0) [] := ⟨World.ownsRow_nil _ _ _ _, by simp, by simp, List.Pairwise.nil⟩
theorem LL.keep {α : Type} {mk : α → Value} {d : α} {e te : TypeId} {base m : Nat} {w w' : World} {v : Value} {ps : List (Cl α)} (h : LL mk d e te base w v ps) (hb : Below m w w') (hm : w.heap.size ≤ m) : LL mk d e te base w' v ps :=
  ⟨own_keep h.own hb hm, fun p hp => (h.ok p hp).below hb hm, h.lo, h.apart⟩
theorem LL.not_row {α : Type} {mk : α → Value} {d : α} {e te : TypeId} {base : Nat} {w : World} {v : Value} {ps : List (Cl α)} (hte : te ≠ e) (h : LL mk d e te base w v ps) {p : Cl α} {q : Cl α} (hq : q.ok mk d e w) (_ : p = q) (hp : 0 < q.xs.length) : some q.b ≠ v.ownBlock := by
  intro e1
  obtain ⟨a, cap, -, -, hc⟩ := hq
  obtain ⟨off, -, ⟨c, h1⟩, -⟩ := hc hp
  rcases h.own.2 with ⟨rfl, _⟩ | ⟨g, cap', cur, rfl, _, hgb, _⟩
  · simp [Value.ownBlock] at e1
  · obtain rfl : q.b = g := by simpa [Value.ownBlock] using e1
    rw [h1] at hgb
    simp at hgb
    exact hte hgb.2.symm
theorem pushd_alloc (w : World) (o : Obj) : Pushd w (w.alloc o) o := ⟨rfl, rfl, rfl, rfl⟩
theorem LL.app {α : Type} {mk : α → Value} {d : α} {e te : TypeId} {base : Nat} {w W w' : World} {v v' : Value} {ps : List (Cl α)} {p : Cl α} {o : Obj} (hte : te ≠ e) (h : LL mk d e te base w v ps) (hbase : base ≤ w.heap.size) (hp : p.ok mk d e w) (hplo : 0 < p.xs.length → base ≤ p.b)
    (hnew : ∀ q ∈ ps, 0 < q.xs.length → 0 < p.xs.length → q.b ≠ p.b) (hP : Pushd w W o) (h1 : w'.ownsRow base te 1 v' (ps.length + 1) (ps.map Cl.v ++ [p.v])) (hg : W.grownBy w' v.ownBlock) : LL mk d e te base w' v' (ps ++ [p]) ∧ Below base w w' := by
  have hk : ∀ q : Cl α, q.ok mk d e w → q.ok mk d e w' := fun q hq => by
    refine hq.same (fun hq0 => ?_)
    have hlt := hq.lt hq0
    rw [hg.block q.b (by rw [hP.size]; omega) (h.not_row hte hq rfl hq0), hP.old hlt]
  refine ⟨⟨by rw [List.length_append, List.map_append]; exact h1, fun q hq => ?_, fun q hq hq0 => ?_, ?_⟩, (hP.below.mono hbase).grown hg (by rw [hP.size]; omega) (fun k hk => (h.own.lt k hk).1)⟩
  · rcases List.mem_append.1 hq with hq | hq
    · exact hk q (h.ok q hq)
    · rw [List.mem_singleton] at hq
      subst hq
      exact hk q hp
  · rcases List.mem_append.1 hq with hq | hq
    · exact h.lo q hq hq0
    · rw [List.mem_singleton] at hq
      subst hq
      exact hplo hq0
  · refine List.pairwise_append.2 ⟨h.apart, List.pairwise_singleton _ _, fun q hq r hr => ?_⟩
    rw [List.mem_singleton] at hr
    subst hr
    exact hnew q hq
theorem LL.foot {α : Type} {mk : α → Value} {d : α} {e te : TypeId} {base : Nat} {w : World} {v : Value} {ps : List (Cl α)} (hte : te ≠ e) (h : LL mk d e te base w v ps) (hl : ps.length ≤ maxLen) : SsF mk d (Rng base w.heap.size) w v (ps.map Cl.xs) := by
  have hlen := h.own.1
  rcases h.own.2 with ⟨rfl, hz⟩ | ⟨g, cap, cur, rfl, hbg, hg, hnc, hcm, hcs, htake⟩
  · have : ps = [] := List.eq_nil_of_length_eq_zero hz
    subst this
    exact SsF.nil _ _ _ _ _ _ (Nat.zero_le _)
  · have hgl : g < w.heap.size := (h.own.lt g rfl).2
    have hget : ∀ i : Nat, i < ps.length → ∃ p, ps[i]? = some p ∧ p ∈ ps := fun i hi => ⟨ps[i], by simp [hi], List.getElem_mem hi⟩
    refine ⟨some ⟨g, 0, none⟩, cap, by rw [List.length_map], ⟨by rw [List.length_map]; exact hnc, hcm⟩, fun _ => ⟨g, 0, fun i => ((ps[i]?).map Cl.v).getD undef, fun i k => ∃ p, ps[i]? = some p ∧ 0 < p.xs.length ∧ k = p.b, rfl, ⟨hbg, hgl⟩, ⟨cur, te, hg⟩, fun i hi => ?_, fun i hi => ?_, fun i hi k hk => ?_, fun i j hi hj hne k hk hk' => ?_⟩⟩
    · rw [List.length_map] at hi
      obtain ⟨p, hp, -⟩ := hget i hi
      show w.cell? ⟨g, 0 + i, none⟩ = some (((ps[i]?).map Cl.v).getD undef)
      rw [Nat.zero_add, h.own.cellAt i (by omega), List.getElem?_map, hp]
      rfl
    · rw [List.length_map] at hi
      obtain ⟨p, hp, hm⟩ := hget i hi
      have e1 : ((ps[i]?).map Cl.v).getD undef = p.v := by rw [hp]; rfl
      have e2 : ((ps.map Cl.xs)[i]?).getD [] = p.xs := by rw [List.getElem?_map, hp]; rfl
      show SlF mk d _ w (((ps[i]?).map Cl.v).getD undef) (((ps.map Cl.xs)[i]?).getD []) ∧ CapOk (((ps[i]?).map Cl.v).getD undef)
      rw [e1, e2]
      exact ⟨(h.ok p hm).foot.mono (fun k hk => ⟨p, hp, hk.1, hk.2⟩), (h.ok p hm).cap⟩
    · obtain ⟨p, hp, hp0, rfl⟩ := hk
      have hm : p ∈ ps := List.mem_of_getElem? hp
      refine ⟨⟨h.lo p hm hp0, (h.ok p hm).lt hp0⟩, fun e1 => ?_⟩
      exact h.not_row hte (h.ok p hm) rfl hp0 (by rw [e1]; rfl)
    · obtain ⟨p, hp, hp0, rfl⟩ := hk
      obtain ⟨q, hq, hq0, e1⟩ := hk'
      rw [List.length_map] at hi hj
      have hpair := List.pairwise_iff_getElem.1 h.apart
      have ep : ps[i]'hi = p := by rw [List.getElem?_eq_getElem hi] at hp; exact Option.some.inj hp
      have eq : ps[j]'hj = q := by rw [List.getElem?_eq_getElem hj] at hq; exact Option.some.inj hq
      rcases Nat.lt_or_gt_of_ne hne with hlt | hlt
      · exact hpair i j hi hj hlt (by rw [ep]; exact hp0) (by rw [eq]; exact hq0) (by rw [ep, eq]; exact e1)
      · exact hpair j i hj hi hlt (by rw [eq]; exact hq0) (by rw [ep]; exact hp0) (by rw [ep, eq]; exact e1.symm)
theorem own_set {base e g n cap k : Nat} {w : World} {xs : List Value} {u : Value} (h : w.ownsRow base e 1 (.slice (some ⟨g, 0, none⟩) n cap) n xs) (_ : k < n) : (w.setCell ⟨g, k, none⟩ u).ownsRow base e 1 (.slice (some ⟨g, 0, none⟩) n cap) n (xs.set k u) := by
  have hlen := h.1
  rcases h.2 with ⟨e0, _⟩ | ⟨g', cap', cur, e0, hb, hg, hn, hm, hs, ht⟩
  · cases e0
  · cases e0
    refine ⟨by rw [List.length_set]; exact hlen, .inr ⟨g, cap, cur.setIfInBounds k u, rfl, hb, ?_, hn, hm, by rw [Array.size_setIfInBounds]; exact hs, ?_⟩⟩
    · simp [World.setCell, Array.getElem?_modify, hg]
    · rw [Array.toList_setIfInBounds, ← ht]
      rw [List.take_set]
theorem row_lt {w : World} {B m : Nat} {t : TypeId} {F : Nat → Value} (hr : w.rowIs B t m F) : B < w.heap.size := by
  obtain ⟨c, hc, -⟩ := hr
  rcases Nat.lt_or_ge B w.heap.size with h | h
  · exact h
  · rw [Array.getElem?_eq_none h] at hc; cases hc
/-! A pattern's text as tokens, its grammar, and how a list of tokens is split at its last place. -/
abbrev Tk := List Int ⊕ (Int × Int) ⊕ Bool ⊕ Unit
structure Tr where
  l : List El
  n : Int
def Tr.e : Tr := ⟨[⟨0, [], 0, 0⟩], 1⟩
def Tr.s (cs : List Int) : Tr := ⟨[⟨1, cs, 0, 0⟩], 1⟩
def Tr.cat (a b : Tr) : Tr := ⟨a.l ++ b.l ++ [⟨2, [], 0, 0⟩], cap (a.n + b.n)⟩
def Tr.alt (a b : Tr) : Tr := ⟨a.l ++ b.l ++ [⟨3, [], 0, 0⟩], cap (a.n + b.n)⟩
def Tr.rep (a : Tr) (lo hi : Int) : Tr := ⟨a.l ++ [⟨4, [], lo, hi⟩], cap (repSize a.n lo hi)⟩
structure GrC (P : Nat → List Tk → Tr → Prop) : Prop where
  set : ∀ cs : List Int, P 0 [.inl cs] (.s cs)
  grp : ∀ {ts : List Tk} {T : Tr}, P 3 ts T → P 0 (.inr (.inr (.inl true)) :: (ts ++ [.inr (.inr (.inl false))])) T
  atm : ∀ {ts : List Tk} {T : Tr}, P 0 ts T → P 1 ts T
  rep : ∀ {ts : List Tk} {T : Tr} (lo hi : Int), P 0 ts T → P 1 (ts ++ [.inr (.inl (lo, hi))]) (.rep T lo hi)
  one : ∀ {ts : List Tk} {T : Tr}, P 1 ts T → P 2 ts T
  more : ∀ {us vs : List Tk} {A B : Tr}, P 2 us A → P 1 vs B → P 2 (us ++ vs) (.cat A B)
  nil : P 3 [] .e
  cat : ∀ {ts : List Tk} {T : Tr}, P 2 ts T → P 3 ts T
  alt0 : ∀ {us : List Tk} {A : Tr}, P 3 us A → P 3 (us ++ [.inr (.inr (.inr ()))]) (.alt A .e)
  alt : ∀ {us vs : List Tk} {A B : Tr}, P 3 us A → P 2 vs B → P 3 (us ++ .inr (.inr (.inr ())) :: vs) (.alt A B)
def Gr (n : Nat) (ts : List Tk) (T : Tr) : Prop := ∀ P, GrC P → P n ts T
theorem Gr.set (cs : List Int) : Gr 0 [.inl cs] (.s cs) := fun _ c => c.set cs
theorem Gr.grp {ts : List Tk} {T : Tr} (h : Gr 3 ts T) : Gr 0 (.inr (.inr (.inl true)) :: (ts ++ [.inr (.inr (.inl false))])) T := fun P c => c.grp (h P c)
theorem Gr.atm {ts : List Tk} {T : Tr} (h : Gr 0 ts T) : Gr 1 ts T := fun P c => c.atm (h P c)
theorem Gr.rep {ts : List Tk} {T : Tr} (lo hi : Int) (h : Gr 0 ts T) : Gr 1 (ts ++ [.inr (.inl (lo, hi))]) (.rep T lo hi) := fun P c => c.rep lo hi (h P c)
theorem Gr.one {ts : List Tk} {T : Tr} (h : Gr 1 ts T) : Gr 2 ts T := fun P c => c.one (h P c)
theorem Gr.more {us vs : List Tk} {A B : Tr} (h : Gr 2 us A) (k : Gr 1 vs B) : Gr 2 (us ++ vs) (.cat A B) := fun P c => c.more (h P c) (k P c)
theorem Gr.nil : Gr 3 [] .e := fun _ c => c.nil
theorem Gr.cat {ts : List Tk} {T : Tr} (h : Gr 2 ts T) : Gr 3 ts T := fun P c => c.cat (h P c)
theorem Gr.alt0 {us : List Tk} {A : Tr} (h : Gr 3 us A) : Gr 3 (us ++ [.inr (.inr (.inr ()))]) (.alt A .e) := fun P c => c.alt0 (h P c)
theorem Gr.alt {us vs : List Tk} {A B : Tr} (h : Gr 3 us A) (k : Gr 2 vs B) : Gr 3 (us ++ .inr (.inr (.inr ())) :: vs) (.alt A B) := fun P c => c.alt (h P c) (k P c)
theorem Gr.ind {Q : Nat → List Tk → Tr → Prop} {n : Nat} {ts : List Tk} {T : Tr} (h : Gr n ts T)
    (set : ∀ cs : List Int, Q 0 [.inl cs] (.s cs))
    (grp : ∀ {ts : List Tk} {T : Tr}, Gr 3 ts T → Q 3 ts T → Q 0 (.inr (.inr (.inl true)) :: (ts ++ [.inr (.inr (.inl false))])) T)
    (atm : ∀ {ts : List Tk} {T : Tr}, Gr 0 ts T → Q 0 ts T → Q 1 ts T)
    (rep : ∀ {ts : List Tk} {T : Tr} (lo hi : Int), Gr 0 ts T → Q 0 ts T → Q 1 (ts ++ [.inr (.inl (lo, hi))]) (.rep T lo hi))
    (one : ∀ {ts : List Tk} {T : Tr}, Gr 1 ts T → Q 1 ts T → Q 2 ts T)
    (more : ∀ {us vs : List Tk} {A B : Tr}, Gr 2 us A → Gr 1 vs B → Q 2 us A → Q 1 vs B → Q 2 (us ++ vs) (.cat A B))
    (nil : Q 3 [] .e)
    (cat : ∀ {ts : List Tk} {T : Tr}, Gr 2 ts T → Q 2 ts T → Q 3 ts T)
    (alt0 : ∀ {us : List Tk} {A : Tr}, Gr 3 us A → Q 3 us A → Q 3 (us ++ [.inr (.inr (.inr ()))]) (.alt A .e))
    (alt : ∀ {us vs : List Tk} {A B : Tr}, Gr 3 us A → Gr 2 vs B → Q 3 us A → Q 2 vs B → Q 3 (us ++ .inr (.inr (.inr ())) :: vs) (.alt A B)) : Q n ts T :=
  (h (fun n ts T => Gr n ts T ∧ Q n ts T) ⟨fun cs => ⟨.set cs, set cs⟩, fun h => ⟨.grp h.1, grp h.1 h.2⟩, fun h => ⟨.atm h.1, atm h.1 h.2⟩, fun lo hi h => ⟨.rep lo hi h.1, rep lo hi h.1 h.2⟩, fun h => ⟨.one h.1, one h.1 h.2⟩, fun h k => ⟨.more h.1 k.1, more h.1 k.1 h.2 k.2⟩, ⟨.nil, nil⟩, fun h => ⟨.cat h.1, cat h.1 h.2⟩, fun h => ⟨.alt0 h.1, alt0 h.1 h.2⟩, fun h k => ⟨.alt h.1 k.1, alt h.1 k.1 h.2 k.2⟩⟩).2
def wl : Nat → List Tk → Option Nat
  | d, [] => some d
  | d, .inr (.inr (.inl true)) :: ts => wl (d + 1) ts
  | 0, .inr (.inr (.inl false)) :: _ => none
  | d + 1, .inr (.inr (.inl false)) :: ts => wl d ts
  | d, .inl _ :: ts => wl d ts
  | d, .inr (.inr (.inr ())) :: ts => wl d ts
  | d, .inr (.inl _) :: ts => wl d ts
theorem wl_app : ∀ (us vs : List Tk) (d : Nat), wl d (us ++ vs) = (wl d us).bind (fun k => wl k vs)
  | [], vs, d => by simp [wl]
  | .inr (.inr (.inl true)) :: us, vs, d => by simp only [List.cons_append, wl]; exact wl_app us vs _
  | .inr (.inr (.inl false)) :: us, vs, 0 => by simp [wl]
  | .inr (.inr (.inl false)) :: us, vs, d + 1 => by simp only [List.cons_append, wl]; exact wl_app us vs _
  | .inl _ :: us, vs, d => by simp only [List.cons_append, wl]; exact wl_app us vs _
  | .inr (.inr (.inr ())) :: us, vs, d => by simp only [List.cons_append, wl]; exact wl_app us vs _
  | .inr (.inl _) :: us, vs, d => by simp only [List.cons_append, wl]; exact wl_app us vs _
theorem wl_up : ∀ (ts : List Tk) (d k c : Nat), wl d ts = some k → wl (d + c) ts = some (k + c)
  | [], d, k, c, h => by simp [wl] at h ⊢; omega
  | .inr (.inr (.inl true)) :: ts, d, k, c, h => by
    simp only [wl] at h ⊢
    have := wl_up ts (d + 1) k c h
    rwa [show d + 1 + c = d + c + 1 by omega] at this
  | .inr (.inr (.inl false)) :: ts, 0, k, c, h => by simp [wl] at h
  | .inr (.inr (.inl false)) :: ts, d + 1, k, c, h => by
    simp only [wl] at h
    rw [show d + 1 + c = d + c + 1 by omega]
    simp only [wl]
    exact wl_up ts d k c h
  | .inl _ :: ts, d, k, c, h => by simp only [wl] at h ⊢; exact wl_up ts d k c h
  | .inr (.inr (.inr ())) :: ts, d, k, c, h => by simp only [wl] at h ⊢; exact wl_up ts d k c h
  | .inr (.inl _) :: ts, d, k, c, h => by simp only [wl] at h ⊢; exact wl_up ts d k c h
def NoBar (ts : List Tk) : Prop := ∀ us vs, ts = us ++ .inr (.inr (.inr ())) :: vs → wl 0 us ≠ some 0
theorem append_two {α : Type} : ∀ {a b c d : List α}, a ++ b = c ++ d → (∃ x, c = a ++ x ∧ b = x ++ d) ∨ ∃ x, a = c ++ x ∧ d = x ++ b := fun {a b c d} h => by
  rcases List.append_eq_append_iff.1 h with ⟨x, h1, h2⟩ | ⟨x, h1, h2⟩
  · exact .inl ⟨x, h1, h2⟩
  · exact .inr ⟨x, h1, h2⟩
theorem NoBar.app {us vs : List Tk} (hu : NoBar us) (hv : NoBar vs) (hb : wl 0 us = some 0) : NoBar (us ++ vs) := by
  intro xs ys h
  rcases append_two h with ⟨x, rfl, h2⟩ | ⟨x, h1, h2⟩
  · rw [wl_app, hb]
    exact hv x ys h2
  · cases x with
    | nil =>
      simp at h1 h2
      subst h1
      exact absurd rfl (hv [] ys h2.symm)
    | cons y x =>
      simp at h2
      obtain ⟨rfl, rfl⟩ := h2
      exact hu xs x h1
theorem NoBar.grp {ts : List Tk} (hb : wl 0 ts = some 0) : NoBar (.inr (.inr (.inl true)) :: (ts ++ [.inr (.inr (.inl false))])) := by
  intro us vs h he
  cases us with
  | nil => simp at h
  | cons u us =>
    simp at h
    obtain ⟨rfl, h⟩ := h
    simp only [wl] at he
    rcases append_two h with ⟨x, rfl, h2⟩ | ⟨x, rfl, h2⟩
    · cases x with
      | nil => simp at h2
      | cons y x => simp at h2
    · rw [wl_app] at hb
      cases e : wl 0 us with
      | none => rw [e] at hb; cases hb
      | some j =>
        have := wl_up us 0 j 1 e
        rw [show 0 + 1 = 1 from rfl] at this he
        rw [this] at he
        simp at he
theorem Gr.ne {n : Nat} {ts : List Tk} {T : Tr} (h : Gr n ts T) : n < 3 → ts ≠ [] := by
  refine h.ind (Q := fun n ts _ => n < 3 → ts ≠ []) ?_ ?_ ?_ ?_ ?_ ?_ ?_ ?_ ?_ ?_
  · intro cs _ h; cases h
  · intro ts T _ _ _ h; cases h
  · intro ts T _ ih _; exact ih (by omega)
  · intro ts T lo hi _ _ _ h; simp at h
  · intro ts T _ ih _; exact ih (by omega)
  · intro us vs A B _ _ i1 _ _ h; simp at h; exact i1 (by omega) h.1
  · intro h; omega
  · intro ts T _ _ h; omega
  · intro us A _ _ h; omega
  · intro us vs A B _ _ _ _ h; omega
/-! The tokens of a pattern's text. -/
def inR : List Int → Nat → Bool
  | lo :: hi :: xs, b => decide (lo ≤ (b : Int) ∧ (b : Int) ≤ hi) || inR xs b
  | _, _ => false
def emR (p : Nat → Bool) (b : Nat) : List Int := (if p b && (b == 0 || !p (b - 1)) then [(b : Int)] else []) ++ (if p b && (b == 255 || !p (b + 1)) then [(b : Int)] else [])
def cnn (p : Nat → Bool) : List Int := (List.range 256).flatMap (emR p)
def spcZ : List Int := [92, 46, 91, 93, 40, 41, 124, 42, 43, 63, 123, 125, 94, 36]
def isD (c : Int) : Bool := decide (48 ≤ c ∧ c ≤ 57)
def hexv (c : Int) : Option Int := if 48 ≤ c ∧ c ≤ 57 then some (c - 48) else if 97 ≤ c ∧ c ≤ 102 then some (c - 97 + 10) else if 65 ≤ c ∧ c ≤ 70 then some (c - 65 + 10) else none
def hex2 : List Int → Option (Int × List Int)
  | h :: l :: r => (hexv h).bind fun a => (hexv l).map fun b => (a * 16 + b, r)
  | _ => none
def besc : List Int → Option (Int × List Int)
  | [] => none
  | c :: r => if c ∈ spcZ ∨ c = 45 then some (c, r) else if c = 110 then some (10, r) else if c = 116 then some (9, r) else if c = 114 then some (13, r) else if c = 120 then hex2 r else none
def sesc : List Int → Option (List Int × List Int)
  | [] => none
  | c :: r => if c = 100 then some ([48, 57], r) else if c = 119 then some ([48, 57, 65, 90, 95, 95, 97, 122], r) else if c = 115 then some ([9, 10, 13, 13, 32, 32], r) else none
def chr1 : List Int → Option (Int × List Int)
  | [] => none
  | c :: r => if c = 92 then besc r else if c = 93 ∨ c = 91 ∨ c = 94 ∨ c = 45 then none else some (c, r)
def sesB : List Int → Option (List Int × List Int)
  | [] => none
  | c :: r => if c = 92 then sesc r else none
def rngB (p : Nat → Bool) (lo hi : Int) : Nat → Bool := fun b => p b || decide (lo ≤ (b : Int) ∧ (b : Int) ≤ hi)
def mem2 (p : Nat → Bool) (lo : Int) : List Int → Option ((Nat → Bool) × List Int)
  | [] => some (rngB p lo lo, [])
  | c :: r => if c = 45 then (chr1 r).bind fun x => if x.1 < lo then none else some (rngB p lo x.1, x.2) else some (rngB p lo lo, c :: r)
def mem1 (p : Nat → Bool) (s : List Int) : Option ((Nat → Bool) × List Int) :=
  match sesB s with
  | some (cs, r) => some (fun b => p b || inR cs b, r)
  | none => (chr1 s).bind fun x => mem2 p x.1 x.2
def clsG : Nat → (Nat → Bool) → List Int → Option ((Nat → Bool) × List Int)
  | 0, _, _ => none
  | _ + 1, _, [] => none
  | n + 1, p, c :: r => if c = 93 then some (p, r) else (mem1 p (c :: r)).bind fun x => clsG n x.1 x.2
def cls : List Int → Option (List Int × List Int)
  | [] => none
  | c :: r => if c = 94 then (clsG (r.length + 1) (fun _ => false) r).map fun x => (cnn (fun b => !x.1 b), x.2) else (clsG (r.length + 2) (fun _ => false) (c :: r)).map fun x => (cnn x.1, x.2)
def numV (ds : List Int) : Int := ds.foldl (fun v c => v * 10 + (c - 48)) 0
def num1 (s : List Int) : Option (Int × List Int) := if (s.takeWhile isD).length = 0 ∨ 4 < (s.takeWhile isD).length then none else some (numV (s.takeWhile isD), s.dropWhile isD)
def brc3 (lo : Int) : List Int → Option ((Int × Int) × List Int)
  | [] => none
  | c :: r => if c = 125 then some ((lo, -1), r) else (num1 (c :: r)).bind fun x => if x.1 < lo then none else match x.2 with
    | d :: r2 => if d = 125 then some ((lo, x.1), r2) else none
    | [] => none
def brc2 (lo : Int) : List Int → Option ((Int × Int) × List Int)
  | [] => none
  | c :: r => if c = 125 then some ((lo, lo), r) else if c = 44 then brc3 lo r else none
def brc (s : List Int) : Option ((Int × Int) × List Int) := (num1 s).bind fun x => brc2 x.1 x.2
def lx : List Int → Option (Tk × List Int)
  | [] => none
  | c :: r =>
    if c = 40 then some (.inr (.inr (.inl true)), r) else if c = 41 then some (.inr (.inr (.inl false)), r) else if c = 124 then some (.inr (.inr (.inr ())), r)
    else if c = 42 then some (.inr (.inl (0, -1)), r) else if c = 43 then some (.inr (.inl (1, -1)), r) else if c = 63 then some (.inr (.inl (0, 1)), r)
    else if c = 123 then (brc r).map fun x => (.inr (.inl (x.1.1, x.1.2)), x.2)
    else if c = 46 then some (.inl [0, 9, 11, 255], r)
    else if c = 91 then (cls r).map fun x => (.inl x.1, x.2)
    else if c = 92 then (match sesc r with
      | some x => some (.inl x.1, x.2)
      | none => (besc r).map fun x => (.inl [x.1, x.1], x.2))
    else if c ∈ spcZ then none else some (.inl [c, c], r)
def LocH {α : Type} (f : List Int → Option (α × List Int)) : Prop := ∀ s x r, f s = some (x, r) → ∃ p, s = p ++ r ∧ 0 < p.length ∧ ∀ r', r'.head? = r.head? → f (p ++ r') = some (x, r')
def Loc {α : Type} (f : List Int → Option (α × List Int)) : Prop := ∀ s x r, f s = some (x, r) → ∃ p, s = p ++ r ∧ 0 < p.length ∧ ∀ r', f (p ++ r') = some (x, r')
theorem Loc.h {α : Type} {f : List Int → Option (α × List Int)} (h : Loc f) : LocH f := fun s x r e => by
  obtain ⟨p, h1, h2, h3⟩ := h s x r e
  exact ⟨p, h1, h2, fun r' _ => h3 r'⟩
theorem hex2_loc : Loc hex2 := fun s x r h => by
  match s, h with
  | a :: b :: t, h =>
    simp only [hex2] at h
    cases ha : hexv a with
    | none => rw [ha] at h; cases h
    | some u =>
      cases hb : hexv b with
      | none => rw [ha, hb] at h; cases h
      | some v =>
        rw [ha, hb] at h
        simp at h
        obtain ⟨rfl, rfl⟩ := h
        exact ⟨[a, b], rfl, by simp, fun r' => by simp [hex2, ha, hb]⟩
theorem besc_loc : Loc besc := fun s x r h => by
  match s, h with
  | c :: t, h =>
    simp only [besc] at h
    split at h
    · rename_i h1
      simp at h
      obtain ⟨rfl, rfl⟩ := h
      exact ⟨[c], rfl, by simp, fun r' => by simp only [List.cons_append, List.nil_append, besc]; rw [if_pos h1]⟩
    · rename_i h1
      split at h
      · rename_i h2
        simp at h
        obtain ⟨rfl, rfl⟩ := h
        exact ⟨[c], rfl, by simp, fun r' => by simp only [List.cons_append, List.nil_append, besc]; rw [if_neg h1, if_pos h2]⟩
      · rename_i h2
        split at h
        · rename_i h3
          simp at h
          obtain ⟨rfl, rfl⟩ := h
          exact ⟨[c], rfl, by simp, fun r' => by simp only [List.cons_append, List.nil_append, besc]; rw [if_neg h1, if_neg h2, if_pos h3]⟩
        · rename_i h3
          split at h
          · rename_i h4
            simp at h
            obtain ⟨rfl, rfl⟩ := h
            exact ⟨[c], rfl, by simp, fun r' => by simp only [List.cons_append, List.nil_append, besc]; rw [if_neg h1, if_neg h2, if_neg h3, if_pos h4]⟩
          · rename_i h4
            split at h
            · rename_i h5
              obtain ⟨p, rfl, h6, h7⟩ := hex2_loc _ _ _ h
              exact ⟨c :: p, rfl, by simp, fun r' => by simp only [List.cons_append, besc]; rw [if_neg h1, if_neg h2, if_neg h3, if_neg h4, if_pos h5]; exact h7 r'⟩
            · cases h
theorem sesc_loc : Loc sesc := fun s x r h => by
  match s, h with
  | c :: t, h =>
    simp only [sesc] at h
    split at h
    · rename_i h1
      simp at h
      obtain ⟨rfl, rfl⟩ := h
      exact ⟨[c], rfl, by simp, fun r' => by simp only [List.cons_append, List.nil_append, sesc]; rw [if_pos h1]⟩
    · rename_i h1
      split at h
      · rename_i h2
        simp at h
        obtain ⟨rfl, rfl⟩ := h
        exact ⟨[c], rfl, by simp, fun r' => by simp only [List.cons_append, List.nil_append, sesc]; rw [if_neg h1, if_pos h2]⟩
      · rename_i h2
        split at h
        · rename_i h3
          simp at h
          obtain ⟨rfl, rfl⟩ := h
          exact ⟨[c], rfl, by simp, fun r' => by simp only [List.cons_append, List.nil_append, sesc]; rw [if_neg h1, if_neg h2, if_pos h3]⟩
        · cases h
theorem chr1_loc : Loc chr1 := fun s x r h => by
  match s, h with
  | c :: t, h =>
    simp only [chr1] at h
    split at h
    · rename_i h1
      obtain ⟨p, rfl, h6, h7⟩ := besc_loc _ _ _ h
      exact ⟨c :: p, rfl, by simp, fun r' => by simp only [List.cons_append, chr1]; rw [if_pos h1]; exact h7 r'⟩
    · rename_i h1
      split at h
      · cases h
      · rename_i h2
        simp at h
        obtain ⟨rfl, rfl⟩ := h
        exact ⟨[c], rfl, by simp, fun r' => by simp only [List.cons_append, List.nil_append, chr1]; rw [if_neg h1, if_neg h2]⟩
theorem sesB_loc : Loc sesB := fun s x r h => by
  match s, h with
  | c :: t, h =>
    simp only [sesB] at h
    split at h
    · rename_i h1
      obtain ⟨p, rfl, h6, h7⟩ := sesc_loc _ _ _ h
      exact ⟨c :: p, rfl, by simp, fun r' => by simp only [List.cons_append, sesB]; rw [if_pos h1]; exact h7 r'⟩
    · cases h
theorem grown_bl2 {base e n : Nat} {w w' : World} {v : Value} {xs : List Value} (h : w.ownsRow base e 1 v n xs) (hb : base ≤ w.heap.size) (hg : w.grownBy w' v.ownBlock) : Below base w w' := (Below.refl base w).grown hg hb (fun k hk => (h.lt k hk).1)
theorem app_i2 {w : World} {ops : Array Oper} {rest : List Oper} {o : Oper} {a : Act} {Q : Exit → Act → World → Prop} (hgd : o.guard = none) (s x : Operand)
    (ho : o.op = .call { callee := .builtin .append, args := #[s, x], argTypes := #[30, 30] }) (base : Nat) (v : Value) (hs : a.eval s = v) (y : Int) (hx : a.eval x = .slice (some ⟨w.heap.size, 0, none⟩) 1 1) (n : Nat) (xs : List Int) (hn : n = xs.length)
    (h1 : w.ownsRow base 3 1 v n (xs.map mI)) (hb : base ≤ w.heap.size) (hl : n ≤ 1000000)
    (h : ∀ v' w', w'.ownsRow base 3 1 v' (n + 1) ((xs ++ [y]).map mI) → Below base w w' → wpList Try.prog ops Q rest (a.put o.dst v') w') : wpList Try.prog ops Q (o :: rest) a (w.alloc (.cells #[.int .i64 y] 3)) := by
  subst hn
  obtain ⟨i0, hi, hz0, hz1, hz2⟩ := info_parts Try.zinInt
  refine wpList_append_own_at _ hgd s x 30 ho base 3 i0 (.int .i64 0) 1 8 Try.underlying30 hi hz0 hz1 hz2 rfl (by decide) v xs.length (xs.map mI) hs (h1.alloc _) ⟨w.heap.size, 0, none⟩ 1 1 [.int .i64 y] hx rfl (fun j y hj => by
    match j, hj with
    | 0, hj => exact (pushd_alloc w _).news 0 _ hj) (fun u hu => by rw [List.mem_singleton] at hu; subst hu; rfl) (by unfold maxLen; omega) (by omega) (by rw [sz_alloc]; omega) ?_
  intro v' w' r1 r2 _ r3
  refine h v' w' ?_ ((below1 w _).mono hb |>.trans (grown_bl2 (h1.alloc _) (by rw [sz_alloc]; omega) r2))
  rw [List.map_append]
  exact r1
def MkAt (w : World) (mb : Nat) (p : Nat → Bool) : Prop := w.rowIs mb 4 256 (fun j => .bool (p j))
def cnP (p : Nat → Bool) (k : Nat) : List Int := (List.range k).flatMap (emR p)
theorem cnP_s (p : Nat → Bool) (k : Nat) : cnP p (k + 1) = cnP p k ++ emR p k := by unfold cnP; rw [List.range_succ, List.flatMap_append]; simp
theorem emR_no {p : Nat → Bool} {k : Nat} (h : p k = false) : emR p k = [] := by simp [emR, h]
theorem emR_yes {p : Nat → Bool} {k : Nat} (h : p k = true) (s c : Bool) (hs : (k == 0 || !p (k - 1)) = s) (hc : (k == 255 || !p (k + 1)) = c) : emR p k = (if s then [(k : Int)] else []) ++ (if c then [(k : Int)] else []) := by
  simp only [emR, h, hs, hc, Bool.true_and]
theorem st_A {p : Nat → Bool} {k : Nat} (h : k = 0) : (k == 0 || !p (k - 1)) = true := by rw [h]; rfl
theorem st_B {p : Nat → Bool} {k : Nat} (h : p (k - 1) = false) : (k == 0 || !p (k - 1)) = true := by rw [h]; simp
theorem st_C {p : Nat → Bool} {k : Nat} (h0 : ¬ k = 0) (h : p (k - 1) = true) : (k == 0 || !p (k - 1)) = false := by rw [h]; simp [h0]
theorem cl_A {p : Nat → Bool} {k : Nat} (h : k = 255) : (k == 255 || !p (k + 1)) = true := by rw [h]; rfl
theorem cl_B {p : Nat → Bool} {k : Nat} (h : p (k + 1) = false) : (k == 255 || !p (k + 1)) = true := by rw [h]; simp
theorem cl_C {p : Nat → Bool} {k : Nat} (h0 : ¬ k = 255) (h : p (k + 1) = true) : (k == 255 || !p (k + 1)) = false := by rw [h]; simp [h0]
theorem len3 (A B C : List Int) : (A ++ B ++ C).length = A.length + B.length + C.length := by rw [List.length_append, List.length_append]
theorem emR_len (p : Nat → Bool) (k : Nat) : (emR p k).length ≤ 2 := by
  unfold emR
  rw [List.length_append]
  split <;> split <;> simp
theorem cnP_len (p : Nat → Bool) : ∀ k, (cnP p k).length ≤ 2 * k
  | 0 => by simp [cnP]
  | k + 1 => by
    rw [cnP_s, List.length_append]
    have := cnP_len p k
    have := emR_len p k
    omega
set_option maxHeartbeats 8000000 in
set_option maxRecDepth 100000 in
theorem l1ranges_any (mb : Nat) (p : Nat → Bool) (w : World) (hm : MkAt w mb p) :
    Calls Try.prog 57 #[.slice (some ⟨mb, 0, none⟩) 256 256] w fun e w' => ∃ v, e = .returned v ∧ w'.ownsRow w.heap.size 3 1 v (cnn p).length ((cnn p).map mI) ∧ Below w.heap.size w w' := by
  have hmb := row_lt hm
  have HM := hide hm
  clear hm
  go_enter Try.func57, Try.ntmps57
  go_wp2_with fail
  go_loopw [3, 4] (fun ov bv wr => ∃ (k n : Nat), k ≤ 256 ∧ bv = .int .i64 (k : Nat) ∧ n = (cnP p k).length ∧ wr.ownsRow w.heap.size 3 1 ov n ((cnP p k).map mI) ∧ Below w.heap.size w wr) (fun _ bv _ => 256 - (intOf bv).toNat)
  case atStart => exact ⟨0, 0, by omega, rfl, rfl, World.ownsRow_nil _ _ _ _, Below.refl _ _⟩
  case round =>
    obtain ⟨k, n, hk, rfl, hn, hown, hB⟩ := hrel
    obtain ⟨w3, rfl⟩ : ∃ w3, w3 = wr := ⟨_, rfl⟩
    obtain ⟨oa, oc, rfl⟩ := own_is hown
    have hz3 := hB.size
    have hn2 : n ≤ 600 := by rw [hn]; have := cnP_len p k; omega
    have HO := hide hown
    have HB := hide hB
    have HN := hide hn
    have rM := (unhide HM).of_block (hB.block mb hmb)
    clear hown hB hn
    by_cases hlt : k < 256
    · have hlt' : (k : Int) < 256 := by omega
      have x0 := rM.cell (i := k) hlt
      have HN1 : Hid (n + 1 = (cnP p k ++ [(k : Int)]).length) := by show _ = _; rw [List.length_append, List.length_singleton, ← unhide HN]
      cases hp : p k with
      | false =>
        rw [hp] at x0
        have HE : Hid (cnP p (k + 1) = cnP p k) := by show _ = _; rw [cnP_s, emR_no hp, List.append_nil]
        clear rM hp
        go_wp2
        go_roundw
        case rel => exact ⟨k + 1, n, by omega, by go_num, by rw [unhide HE]; exact unhide HN, by rw [unhide HE]; exact unhide HO, unhide HB⟩
        case measure => simp [intOf]; omega
      | true =>
        rw [hp] at x0
        by_cases k0 : k = 0
        · by_cases k5 : k = 255
          · omega
          · cases p2 : p (k + 1) with
            | false =>
              have HE : Hid (cnP p (k + 1) = cnP p k ++ [(k : Int)] ++ [(k : Int)]) := by
                show _ = _
                rw [cnP_s, emR_yes hp true true (st_A k0) (cl_B p2), List.append_assoc]
                rfl
              have kk0 : ((k : Int) == 0) = true := by simp; omega
              have kk5 : ((k : Int) == 255) = false := by simp; omega
              have kk6 : (k : Int) + 1 < 256 := by omega
              have HM2 : Hid (∀ W : World, Below w.heap.size w W → W.cell? ⟨mb, 0 + (k + 1), none⟩ = some (.bool false)) := fun W hW => by
                have h9 := ((unhide HM).of_block (hW.block mb hmb)).cell (i := k + 1) (by omega)
                rw [p2] at h9
                rw [Nat.zero_add]
                exact h9
              clear rM hp p2 k0 k5
              go_wp2_with (at_builtin; refine app_i2 rfl _ _ rfl w.heap.size (.slice oa n oc) rfl (k : Int) rfl n (cnP p k) (unhide HN) (unhide HO) hz3 (by omega) ?_)
              intro v4 w4 ho4 hb4
              obtain ⟨o4, d4, rfl⟩ := own_is ho4
              obtain ⟨L4, hL4⟩ : ∃ L4, L4 = cnP p k ++ [(k : Int)] := ⟨_, rfl⟩
              replace ho4 : w4.ownsRow w.heap.size 3 1 (.slice o4 (n + 1) d4) (n + 1) (L4.map mI) := by rw [hL4, List.map_append]; exact ho4
              have HL4 := hide hL4
              have HN4 : Hid (n + 1 = L4.length) := by rw [hL4]; exact unhide HN1
              clear hL4
              have HO4 := hide ho4
              have HB4 := hide ((unhide HB).trans hb4)
              have hz4 := hb4.size
              have x2 := unhide HM2 w4 (unhide HB4)
              rw [Nat.zero_add] at x2
              clear ho4 hb4
              go_wp2_with (at_builtin; refine app_i2 rfl _ _ rfl w.heap.size (.slice o4 (n + 1) d4) rfl (k : Int) rfl (n + 1) L4 (unhide HN4) (unhide HO4) (by omega) (by omega) ?_)
              intro v5 w5 ho5 hb5
              obtain ⟨o5, d5, rfl⟩ := own_is ho5
              have HO5 := hide ho5
              have HB5 := hide ((unhide HB4).trans hb5)
              clear ho5 hb5
              go_wp2
              go_roundw
              case rel => exact ⟨k + 1, n + 1 + 1, by omega, by go_num, by rw [unhide HE, len3, ← unhide HN]; rfl, by rw [unhide HE, ← unhide HL4]; simpa using unhide HO5, unhide HB5⟩
              case measure => simp [intOf]; omega
            | true =>
              have HE : Hid (cnP p (k + 1) = cnP p k ++ [(k : Int)] ++ []) := by
                show _ = _
                rw [cnP_s, emR_yes hp true false (st_A k0) (cl_C k5 p2), List.append_assoc]
                rfl
              have kk0 : ((k : Int) == 0) = true := by simp; omega
              have kk5 : ((k : Int) == 255) = false := by simp; omega
              have kk6 : (k : Int) + 1 < 256 := by omega
              have HM2 : Hid (∀ W : World, Below w.heap.size w W → W.cell? ⟨mb, 0 + (k + 1), none⟩ = some (.bool true)) := fun W hW => by
                have h9 := ((unhide HM).of_block (hW.block mb hmb)).cell (i := k + 1) (by omega)
                rw [p2] at h9
                rw [Nat.zero_add]
                exact h9
              clear rM hp p2 k0 k5
              go_wp2_with (at_builtin; refine app_i2 rfl _ _ rfl w.heap.size (.slice oa n oc) rfl (k : Int) rfl n (cnP p k) (unhide HN) (unhide HO) hz3 (by omega) ?_)
              intro v4 w4 ho4 hb4
              obtain ⟨o4, d4, rfl⟩ := own_is ho4
              obtain ⟨L4, hL4⟩ : ∃ L4, L4 = cnP p k ++ [(k : Int)] := ⟨_, rfl⟩
              replace ho4 : w4.ownsRow w.heap.size 3 1 (.slice o4 (n + 1) d4) (n + 1) (L4.map mI) := by rw [hL4, List.map_append]; exact ho4
              have HL4 := hide hL4
              have HN4 : Hid (n + 1 = L4.length) := by rw [hL4]; exact unhide HN1
              clear hL4
              have HO4 := hide ho4
              have HB4 := hide ((unhide HB).trans hb4)
              have hz4 := hb4.size
              have x2 := unhide HM2 w4 (unhide HB4)
              rw [Nat.zero_add] at x2
              clear ho4 hb4
              go_wp2
              go_roundw
              case rel => exact ⟨k + 1, n + 1, by omega, by go_num, by rw [unhide HE, len3, ← unhide HN]; rfl, by rw [unhide HE, ← unhide HL4]; simpa using unhide HO4, unhide HB4⟩
              case measure => simp [intOf]; omega
        · cases p1 : p (k - 1) with
          | false =>
            by_cases k5 : k = 255
            · have HE : Hid (cnP p (k + 1) = cnP p k ++ [(k : Int)] ++ [(k : Int)]) := by
                show _ = _
                rw [cnP_s, emR_yes hp true true (st_B p1) (cl_A k5), List.append_assoc]
                rfl
              have kk0 : ((k : Int) == 0) = false := by simp; omega
              have kk1 : (0 : Int) ≤ (k : Int) - 1 := by omega
              have kk2 : (k : Int) - 1 < 256 := by omega
              have x1 := rM.cell (i := k - 1) (by omega)
              rw [p1] at x1
              have kk3 : ((k : Int) - 1).toNat = k - 1 := by omega
              have kk5 : ((k : Int) == 255) = true := by simp; omega
              clear rM hp p1 k0 k5
              go_wp2_with (at_builtin; refine app_i2 rfl _ _ rfl w.heap.size (.slice oa n oc) rfl (k : Int) rfl n (cnP p k) (unhide HN) (unhide HO) hz3 (by omega) ?_)
              intro v4 w4 ho4 hb4
              obtain ⟨o4, d4, rfl⟩ := own_is ho4
              obtain ⟨L4, hL4⟩ : ∃ L4, L4 = cnP p k ++ [(k : Int)] := ⟨_, rfl⟩
              replace ho4 : w4.ownsRow w.heap.size 3 1 (.slice o4 (n + 1) d4) (n + 1) (L4.map mI) := by rw [hL4, List.map_append]; exact ho4
              have HL4 := hide hL4
              have HN4 : Hid (n + 1 = L4.length) := by rw [hL4]; exact unhide HN1
              clear hL4
              have HO4 := hide ho4
              have HB4 := hide ((unhide HB).trans hb4)
              have hz4 := hb4.size
              clear ho4 hb4
              go_wp2_with (at_builtin; refine app_i2 rfl _ _ rfl w.heap.size (.slice o4 (n + 1) d4) rfl (k : Int) rfl (n + 1) L4 (unhide HN4) (unhide HO4) (by omega) (by omega) ?_)
              intro v5 w5 ho5 hb5
              obtain ⟨o5, d5, rfl⟩ := own_is ho5
              have HO5 := hide ho5
              have HB5 := hide ((unhide HB4).trans hb5)
              clear ho5 hb5
              go_wp2
              go_roundw
              case rel => exact ⟨k + 1, n + 1 + 1, by omega, by go_num, by rw [unhide HE, len3, ← unhide HN]; rfl, by rw [unhide HE, ← unhide HL4]; simpa using unhide HO5, unhide HB5⟩
              case measure => simp [intOf]; omega
            · cases p2 : p (k + 1) with
              | false =>
                have HE : Hid (cnP p (k + 1) = cnP p k ++ [(k : Int)] ++ [(k : Int)]) := by
                  show _ = _
                  rw [cnP_s, emR_yes hp true true (st_B p1) (cl_B p2), List.append_assoc]
                  rfl
                have kk0 : ((k : Int) == 0) = false := by simp; omega
                have kk1 : (0 : Int) ≤ (k : Int) - 1 := by omega
                have kk2 : (k : Int) - 1 < 256 := by omega
                have x1 := rM.cell (i := k - 1) (by omega)
                rw [p1] at x1
                have kk3 : ((k : Int) - 1).toNat = k - 1 := by omega
                have kk5 : ((k : Int) == 255) = false := by simp; omega
                have kk6 : (k : Int) + 1 < 256 := by omega
                have HM2 : Hid (∀ W : World, Below w.heap.size w W → W.cell? ⟨mb, 0 + (k + 1), none⟩ = some (.bool false)) := fun W hW => by
                  have h9 := ((unhide HM).of_block (hW.block mb hmb)).cell (i := k + 1) (by omega)
                  rw [p2] at h9
                  rw [Nat.zero_add]
                  exact h9
                clear rM hp p1 p2 k0 k5
                go_wp2_with (at_builtin; refine app_i2 rfl _ _ rfl w.heap.size (.slice oa n oc) rfl (k : Int) rfl n (cnP p k) (unhide HN) (unhide HO) hz3 (by omega) ?_)
                intro v4 w4 ho4 hb4
                obtain ⟨o4, d4, rfl⟩ := own_is ho4
                obtain ⟨L4, hL4⟩ : ∃ L4, L4 = cnP p k ++ [(k : Int)] := ⟨_, rfl⟩
                replace ho4 : w4.ownsRow w.heap.size 3 1 (.slice o4 (n + 1) d4) (n + 1) (L4.map mI) := by rw [hL4, List.map_append]; exact ho4
                have HL4 := hide hL4
                have HN4 : Hid (n + 1 = L4.length) := by rw [hL4]; exact unhide HN1
                clear hL4
                have HO4 := hide ho4
                have HB4 := hide ((unhide HB).trans hb4)
                have hz4 := hb4.size
                have x2 := unhide HM2 w4 (unhide HB4)
                rw [Nat.zero_add] at x2
                clear ho4 hb4
                go_wp2_with (at_builtin; refine app_i2 rfl _ _ rfl w.heap.size (.slice o4 (n + 1) d4) rfl (k : Int) rfl (n + 1) L4 (unhide HN4) (unhide HO4) (by omega) (by omega) ?_)
                intro v5 w5 ho5 hb5
                obtain ⟨o5, d5, rfl⟩ := own_is ho5
                have HO5 := hide ho5
                have HB5 := hide ((unhide HB4).trans hb5)
                clear ho5 hb5
                go_wp2
                go_roundw
                case rel => exact ⟨k + 1, n + 1 + 1, by omega, by go_num, by rw [unhide HE, len3, ← unhide HN]; rfl, by rw [unhide HE, ← unhide HL4]; simpa using unhide HO5, unhide HB5⟩
                case measure => simp [intOf]; omega
              | true =>
                have HE : Hid (cnP p (k + 1) = cnP p k ++ [(k : Int)] ++ []) := by
                  show _ = _
                  rw [cnP_s, emR_yes hp true false (st_B p1) (cl_C k5 p2), List.append_assoc]
                  rfl
                have kk0 : ((k : Int) == 0) = false := by simp; omega
                have kk1 : (0 : Int) ≤ (k : Int) - 1 := by omega
                have kk2 : (k : Int) - 1 < 256 := by omega
                have x1 := rM.cell (i := k - 1) (by omega)
                rw [p1] at x1
                have kk3 : ((k : Int) - 1).toNat = k - 1 := by omega
                have kk5 : ((k : Int) == 255) = false := by simp; omega
                have kk6 : (k : Int) + 1 < 256 := by omega
                have HM2 : Hid (∀ W : World, Below w.heap.size w W → W.cell? ⟨mb, 0 + (k + 1), none⟩ = some (.bool true)) := fun W hW => by
                  have h9 := ((unhide HM).of_block (hW.block mb hmb)).cell (i := k + 1) (by omega)
                  rw [p2] at h9
                  rw [Nat.zero_add]
                  exact h9
                clear rM hp p1 p2 k0 k5
                go_wp2_with (at_builtin; refine app_i2 rfl _ _ rfl w.heap.size (.slice oa n oc) rfl (k : Int) rfl n (cnP p k) (unhide HN) (unhide HO) hz3 (by omega) ?_)
                intro v4 w4 ho4 hb4
                obtain ⟨o4, d4, rfl⟩ := own_is ho4
                obtain ⟨L4, hL4⟩ : ∃ L4, L4 = cnP p k ++ [(k : Int)] := ⟨_, rfl⟩
                replace ho4 : w4.ownsRow w.heap.size 3 1 (.slice o4 (n + 1) d4) (n + 1) (L4.map mI) := by rw [hL4, List.map_append]; exact ho4
                have HL4 := hide hL4
                have HN4 : Hid (n + 1 = L4.length) := by rw [hL4]; exact unhide HN1
                clear hL4
                have HO4 := hide ho4
                have HB4 := hide ((unhide HB).trans hb4)
                have hz4 := hb4.size
                have x2 := unhide HM2 w4 (unhide HB4)
                rw [Nat.zero_add] at x2
                clear ho4 hb4
                go_wp2
                go_roundw
                case rel => exact ⟨k + 1, n + 1, by omega, by go_num, by rw [unhide HE, len3, ← unhide HN]; rfl, by rw [unhide HE, ← unhide HL4]; simpa using unhide HO4, unhide HB4⟩
                case measure => simp [intOf]; omega
          | true =>
            by_cases k5 : k = 255
            · have HE : Hid (cnP p (k + 1) = cnP p k ++ [] ++ [(k : Int)]) := by
                show _ = _
                rw [cnP_s, emR_yes hp false true (st_C k0 p1) (cl_A k5), List.append_assoc]
                rfl
              have kk0 : ((k : Int) == 0) = false := by simp; omega
              have kk1 : (0 : Int) ≤ (k : Int) - 1 := by omega
              have kk2 : (k : Int) - 1 < 256 := by omega
              have x1 := rM.cell (i := k - 1) (by omega)
              rw [p1] at x1
              have kk3 : ((k : Int) - 1).toNat = k - 1 := by omega
              have kk5 : ((k : Int) == 255) = true := by simp; omega
              clear rM hp p1 k0 k5
              go_wp2_with (at_builtin; refine app_i2 rfl _ _ rfl w.heap.size (.slice oa n oc) rfl (k : Int) rfl (n) (cnP p k) (unhide HN) (unhide HO) (by omega) (by omega) ?_)
              intro v5 w5 ho5 hb5
              obtain ⟨o5, d5, rfl⟩ := own_is ho5
              have HO5 := hide ho5
              have HB5 := hide ((unhide HB).trans hb5)
              clear ho5 hb5
              go_wp2
              go_roundw
              case rel => exact ⟨k + 1, n + 1, by omega, by go_num, by rw [unhide HE, len3, ← unhide HN]; rfl, by rw [unhide HE]; simpa using unhide HO5, unhide HB5⟩
              case measure => simp [intOf]; omega
            · cases p2 : p (k + 1) with
              | false =>
                have HE : Hid (cnP p (k + 1) = cnP p k ++ [] ++ [(k : Int)]) := by
                  show _ = _
                  rw [cnP_s, emR_yes hp false true (st_C k0 p1) (cl_B p2), List.append_assoc]
                  rfl
                have kk0 : ((k : Int) == 0) = false := by simp; omega
                have kk1 : (0 : Int) ≤ (k : Int) - 1 := by omega
                have kk2 : (k : Int) - 1 < 256 := by omega
                have x1 := rM.cell (i := k - 1) (by omega)
                rw [p1] at x1
                have kk3 : ((k : Int) - 1).toNat = k - 1 := by omega
                have kk5 : ((k : Int) == 255) = false := by simp; omega
                have kk6 : (k : Int) + 1 < 256 := by omega
                have HM2 : Hid (∀ W : World, Below w.heap.size w W → W.cell? ⟨mb, 0 + (k + 1), none⟩ = some (.bool false)) := fun W hW => by
                  have h9 := ((unhide HM).of_block (hW.block mb hmb)).cell (i := k + 1) (by omega)
                  rw [p2] at h9
                  rw [Nat.zero_add]
                  exact h9
                have x2 := unhide HM2 w3 (unhide HB)
                rw [Nat.zero_add] at x2
                clear rM hp p1 p2 k0 k5
                go_wp2_with (at_builtin; refine app_i2 rfl _ _ rfl w.heap.size (.slice oa n oc) rfl (k : Int) rfl (n) (cnP p k) (unhide HN) (unhide HO) (by omega) (by omega) ?_)
                intro v5 w5 ho5 hb5
                obtain ⟨o5, d5, rfl⟩ := own_is ho5
                have HO5 := hide ho5
                have HB5 := hide ((unhide HB).trans hb5)
                clear ho5 hb5
                go_wp2
                go_roundw
                case rel => exact ⟨k + 1, n + 1, by omega, by go_num, by rw [unhide HE, len3, ← unhide HN]; rfl, by rw [unhide HE]; simpa using unhide HO5, unhide HB5⟩
                case measure => simp [intOf]; omega
              | true =>
                have HE : Hid (cnP p (k + 1) = cnP p k ++ [] ++ []) := by
                  show _ = _
                  rw [cnP_s, emR_yes hp false false (st_C k0 p1) (cl_C k5 p2), List.append_assoc]
                  rfl
                have kk0 : ((k : Int) == 0) = false := by simp; omega
                have kk1 : (0 : Int) ≤ (k : Int) - 1 := by omega
                have kk2 : (k : Int) - 1 < 256 := by omega
                have x1 := rM.cell (i := k - 1) (by omega)
                rw [p1] at x1
                have kk3 : ((k : Int) - 1).toNat = k - 1 := by omega
                have kk5 : ((k : Int) == 255) = false := by simp; omega
                have kk6 : (k : Int) + 1 < 256 := by omega
                have HM2 : Hid (∀ W : World, Below w.heap.size w W → W.cell? ⟨mb, 0 + (k + 1), none⟩ = some (.bool true)) := fun W hW => by
                  have h9 := ((unhide HM).of_block (hW.block mb hmb)).cell (i := k + 1) (by omega)
                  rw [p2] at h9
                  rw [Nat.zero_add]
                  exact h9
                have x2 := unhide HM2 w3 (unhide HB)
                rw [Nat.zero_add] at x2
                clear rM hp p1 p2 k0 k5
                go_wp2
                go_roundw
                case rel => exact ⟨k + 1, n, by omega, by go_num, by rw [unhide HE, len3, ← unhide HN]; rfl, by rw [unhide HE]; simpa using unhide HO, unhide HB⟩
                case measure => simp [intOf]; omega
    · obtain rfl : k = 256 := by omega
      go_wp2
      go_ret
      refine ⟨_, rfl, ?_, unhide HB⟩
      show w3.ownsRow _ _ _ (.slice oa n oc) (cnP p 256).length _
      rw [← unhide HN]
      exact unhide HO
theorem MkAt.eq {w : World} {mb : Nat} {p p' : Nat → Bool} (h : MkAt w mb p) (e : ∀ j, j < 256 → p' j = p j) : MkAt w mb p' := World.rowIs.congr h (fun j hj => by rw [e j hj])
theorem MkAt.put {w : World} {mb : Nat} {p : Nat → Bool} (h : MkAt w mb p) (k : Nat) (v : Bool) : MkAt (w.setCell ⟨mb, k, none⟩ (.bool v)) mb (fun j => if j = k then v else p j) := (World.rowIs.set h k (.bool v)).congr (fun j hj => by by_cases e : j = k <;> simp [e])
theorem mark_made (w : World) : MkAt (w.alloc (.cells (madeCells #[.bool false] 256) 4)) w.heap.size (fun _ => false) := World.rowIs_made w (.bool false) 256 4
structure Obk (g : Nat) (w w' : World) : Prop where
  os : w'.os = w.os
  tape : w'.tape = w.tape
  output : w'.output = w.output
  size : w'.heap.size = w.heap.size
  block : ∀ k, k ≠ g → w'.heap[k]? = w.heap[k]?
theorem Obk.trans {g : Nat} {a b c : World} (h : Obk g a b) (k : Obk g b c) : Obk g a c := ⟨k.os.trans h.os, k.tape.trans h.tape, k.output.trans h.output, k.size.trans h.size, fun i hi => (k.block i hi).trans (h.block i hi)⟩
theorem Obk.refl (g : Nat) (w : World) : Obk g w w := ⟨rfl, rfl, rfl, rfl, fun _ _ => rfl⟩
theorem obk_put {w : World} {b : Nat} (o : Nat) (u : Value) : Obk b w (w.setCell ⟨b, o, none⟩ u) := ⟨rfl, rfl, rfl, by simp [World.setCell], fun k hk => Below.heap_setCell _ _ _ _ (by show k ≠ b; exact hk)⟩
theorem Obk.drew {g : Nat} {a b : World} (h : Obk g a b) : Obk g a b.drew := ⟨h.os, h.tape, h.output, h.size, h.block⟩
structure FrO (O : Nat → Prop) (w w' : World) : Prop where
  os : w'.os = w.os
  tape : w'.tape = w.tape
  output : w'.output = w.output
  size : w.heap.size ≤ w'.heap.size
  block : ∀ k, ¬ O k → w'.heap[k]? = w.heap[k]?
theorem FrO.refl (O : Nat → Prop) (w : World) : FrO O w w := ⟨rfl, rfl, rfl, Nat.le_refl _, fun _ _ => rfl⟩
theorem FrO.trans {O : Nat → Prop} {a b c : World} (h : FrO O a b) (k : FrO O b c) : FrO O a c := ⟨k.os.trans h.os, k.tape.trans h.tape, k.output.trans h.output, Nat.le_trans h.size k.size, fun i hi => (k.block i hi).trans (h.block i hi)⟩
theorem FrO.mono {O O' : Nat → Prop} {a b : World} (h : FrO O a b) (hO : ∀ k, O k → O' k) : FrO O' a b := ⟨h.os, h.tape, h.output, h.size, fun k hk => h.block k (fun e => hk (hO k e))⟩
theorem FrO.drew {O : Nat → Prop} {a b : World} (h : FrO O a b) : FrO O a b.drew := ⟨h.os, h.tape, h.output, h.size, h.block⟩
theorem fro_of {O : Nat → Prop} {a b : World} (h : Below a.heap.size a b) (hO : ∀ k, a.heap.size ≤ k → O k) : FrO O a b := ⟨h.os, h.tape, h.output, h.size, fun k hk => h.block k (by apply Nat.lt_of_not_le; intro e; exact hk (hO k e))⟩
theorem Obk.fro {O : Nat → Prop} {g : Nat} {a b : World} (h : Obk g a b) (hO : O g) : FrO O a b := ⟨h.os, h.tape, h.output, by rw [h.size]; exact Nat.le_refl _, fun k hk => h.block k (fun e => hk (e ▸ hO))⟩
theorem FrO.below {O : Nat → Prop} {a b : World} {m : Nat} (h : FrO O a b) (hO : ∀ k, k < m → ¬ O k) : Below m a b := ⟨h.os, h.tape, h.output, h.size, fun k hk => h.block k (hO k hk)⟩
def Sk (O : Nat → Prop) (a b : Nat) : Nat → Prop := fun k => O k ∧ (k < a ∨ b ≤ k)
theorem Sk.top {O : Nat → Prop} {a b m : Nat} (hO : ∀ k, a ≤ k → O k) (h : a ≤ m) (h2 : b ≤ m) : ∀ k, m ≤ k → Sk O a b k := fun k hk => ⟨hO k (by omega), Or.inr (by omega)⟩
structure It where
  nl : Bool
  fi : List Nat
  la : List Nat
def It.sh (a : It) (c : Nat) : It := ⟨a.nl, a.fi.map (c + ·), a.la.map (c + ·)⟩
abbrev Lk := List Nat × List Nat
def shL (c : Nat) (ln : List Lk) : List Lk := ln.map (fun p => (p.1.map (c + ·), p.2.map (c + ·)))
def itCat (l r : It) : It := ⟨l.nl && r.nl, l.fi ++ (if l.nl then r.fi else []), (if r.nl then l.la else []) ++ r.la⟩
def itAlt (l r : It) : It := ⟨l.nl || r.nl, l.fi ++ r.fi, l.la ++ r.la⟩
def itRep (o : It) (mn : Int) : It := ⟨o.nl || decide (mn = 0), o.fi, o.la⟩
structure Ms where
  c : Nat
  st : List It
  ln : List Lk
  ss : List (List Int)
def oPush (s : Ms) (x : El) : Ms :=
  if x.kind = 0 then ⟨s.c, ⟨true, [], []⟩ :: s.st, s.ln, s.ss⟩
  else if x.kind = 1 then ⟨s.c + 1, ⟨false, [s.c], [s.c]⟩ :: s.st, s.ln, s.ss ++ [x.set]⟩ else
  match s.st with
  | [] => s
  | [o] => if x.kind = 4 then ⟨s.c, [itRep o x.mn], s.ln ++ [(o.la, o.fi)], s.ss⟩ else s
  | r :: l :: b => if x.kind = 4 then ⟨s.c, itRep r x.mn :: l :: b, s.ln ++ [(r.la, r.fi)], s.ss⟩
    else if x.kind = 2 then ⟨s.c, itCat l r :: b, s.ln ++ [(l.la, r.fi)], s.ss⟩ else ⟨s.c, itAlt l r :: b, s.ln, s.ss⟩
def oRun (s : Ms) : List El → Ms
  | [] => s
  | x :: r => oRun (oPush s x) r
theorem oRun_append (s : Ms) (a b : List El) : oRun s (a ++ b) = oRun (oRun s a) b := by
  induction a generalizing s with
  | nil => rfl
  | cons x r ih => simp [oRun, ih]
def SegO (L : List El) (n : Nat) (a : It) (ln : List Lk) (ss : List (List Int)) : Prop := ∀ s : Ms, oRun s L = ⟨s.c + n, a.sh s.c :: s.st, s.ln ++ shL s.c ln, s.ss ++ ss⟩
theorem SegO.one {L : List El} {n n' : Nat} {a a' : It} {ln ln' : List Lk} {ss ss' : List (List Int)} (h : SegO L n a ln ss) (k : SegO L n' a' ln' ss') : n = n' ∧ a.sh 0 = a'.sh 0 ∧ shL 0 ln = shL 0 ln' ∧ ss = ss' := by
  have := (h ⟨0, [], [], []⟩).symm.trans (k ⟨0, [], [], []⟩)
  simpa using this
theorem shiftS (c d : Nat) (xs : List Nat) : (xs.map (d + ·)).map (c + ·) = xs.map (c + d + ·) := by rw [List.map_map]; congr 1; funext x; simp; omega
theorem It.sh_sh (a : It) (c d : Nat) : (a.sh d).sh c = a.sh (c + d) := by unfold It.sh; simp only [shiftS]
theorem shL_app (c : Nat) (a b : List Lk) : shL c (a ++ b) = shL c a ++ shL c b := by simp [shL]
theorem shL_sh (c d : Nat) (a : List Lk) : shL c (shL d a) = shL (c + d) a := by
  unfold shL
  rw [List.map_map]
  congr 1
  funext p
  simp only [Function.comp, shiftS]
theorem cat_sh (l r : It) (c : Nat) : (itCat l r).sh c = itCat (l.sh c) (r.sh c) := by
  unfold itCat It.sh
  simp only [List.map_append]
  cases l.nl <;> cases r.nl <;> simp
theorem alt_sh (l r : It) (c : Nat) : (itAlt l r).sh c = itAlt (l.sh c) (r.sh c) := by
  unfold itAlt It.sh
  simp only [List.map_append]
theorem SegO.e : SegO [⟨0, [], 0, 0⟩] 0 ⟨true, [], []⟩ [] [] := fun s => by simp [oRun, oPush, It.sh, shL]
theorem SegO.s (xs : List Int) : SegO [⟨1, xs, 0, 0⟩] 1 ⟨false, [0], [0]⟩ [] [xs] := fun s => by simp [oRun, oPush, It.sh, shL]
theorem SegO.cat {A B : List El} {n m : Nat} {a b : It} {la lb : List Lk} {sa sb : List (List Int)} (ha : SegO A n a la sa) (hb : SegO B m b lb sb) :
    SegO (A ++ B ++ [⟨2, [], 0, 0⟩]) (n + m) (itCat a (b.sh n)) (la ++ shL n lb ++ [(a.la, (b.sh n).fi)]) (sa ++ sb) := fun s => by
  rw [oRun_append, oRun_append, ha, hb]
  simp only [oRun, oPush]
  simp only [shL_app, shL_sh, cat_sh, It.sh_sh, List.append_assoc]
  simp [shL, It.sh, Nat.add_assoc]
theorem SegO.alt {A B : List El} {n m : Nat} {a b : It} {la lb : List Lk} {sa sb : List (List Int)} (ha : SegO A n a la sa) (hb : SegO B m b lb sb) :
    SegO (A ++ B ++ [⟨3, [], 0, 0⟩]) (n + m) (itAlt a (b.sh n)) (la ++ shL n lb) (sa ++ sb) := fun s => by
  rw [oRun_append, oRun_append, ha, hb]
  simp only [oRun, oPush]
  simp only [shL_app, shL_sh, alt_sh, It.sh_sh, List.append_assoc]
  simp [Nat.add_assoc]
theorem SegO.rep {A : List El} {n : Nat} {a : It} {la : List Lk} {sa : List (List Int)} (ha : SegO A n a la sa) (mn mx : Int) :
    SegO (A ++ [⟨4, [], mn, mx⟩]) n (itRep a mn) (la ++ [(a.la, a.fi)]) sa := fun s => by
  rw [oRun_append, ha]
  simp only [oRun, oPush]
  obtain ⟨c, st, ln, ss⟩ := s
  cases st with
  | nil => simp [shL, itRep, It.sh]
  | cons q st => simp [shL, itRep, It.sh]
def inPs (set : List Int) (b : Int) : Prop := ∃ i : Nat, 2 * i + 1 < set.length ∧ set[2 * i]?.getD 0 ≤ b ∧ b ≤ set[2 * i + 1]?.getD 0
set_option maxHeartbeats 4000000 in
set_option maxRecDepth 100000 in
theorem l1has_any (v : Value) (set : List Int) (b : Int) (w : World) (hv : SlAt mI 0 0 w.heap.size w v set) (hl : set.length ≤ 1048576) :
    Calls Try.prog 48 #[v, .int .i64 b] w fun e w' => RetB e (inPs set b) ∧ w' = w := by
  obtain ⟨a, cap, rfl, -, hc⟩ := hv
  go_enter Try.func48, Try.ntmps48
  go_wp2_with fail
  go_loop [5] (fun iv => ∃ k : Nat, 2 * k ≤ set.length + 1 ∧ iv = .int .i64 ((2 * k : Nat) : Int) ∧ ∀ j : Nat, j < k → ¬ (set[2 * j]?.getD 0 ≤ b ∧ b ≤ set[2 * j + 1]?.getD 0)) (fun iv => set.length + 2 - (intOf iv).toNat)
  case atStart => exact ⟨0, Nat.zero_le _, rfl, fun j hj => absurd hj (Nat.not_lt_zero _)⟩
  case round =>
    obtain ⟨k, hk, rfl, hno⟩ := hrel
    have Hno := hide hno
    clear hno
    by_cases hlt : 2 * k + 1 < set.length
    · have h1' : ((2 * k : Nat) : Int) + 1 < (set.length : Int) := by omega
      have h2' : ((2 * k : Nat) : Int) < (set.length : Int) := by omega
      have h3' : (0 : Int) ≤ ((2 * k : Nat) : Int) + 1 := by omega
      obtain ⟨g, off, rfl, -, -, hcell⟩ := hc (by omega)
      have hx : w.cell? ⟨g, off + 2 * k, none⟩ = some (.int .i64 (set[2 * k]?.getD 0)) := hcell _ (by omega)
      have hy : w.cell? ⟨g, off + (2 * k + 1), none⟩ = some (.int .i64 (set[2 * k + 1]?.getD 0)) := hcell _ (by omega)
      have Hyes : Hid (set[2 * k]?.getD 0 ≤ b → b ≤ set[2 * k + 1]?.getD 0 → inPs set b) := fun q1 q2 => ⟨k, hlt, q1, q2⟩
      have Hnx : Hid (¬ (set[2 * k]?.getD 0 ≤ b ∧ b ≤ set[2 * k + 1]?.getD 0) → ∀ j : Nat, j < k + 1 → ¬ (set[2 * j]?.getD 0 ≤ b ∧ b ≤ set[2 * j + 1]?.getD 0)) := fun h j hj => by
        by_cases e : j = k
        · subst e; exact h
        · exact unhide Hno j (by omega)
      clear hcell hc Hno
      generalize set[2 * k]?.getD 0 = x at *
      generalize set[2 * k + 1]?.getD 0 = y at *
      have hk2 : 2 * (k + 1) ≤ set.length + 1 := by omega
      have hkm : set.length + 2 - 2 * (k + 1) < set.length + 2 - 2 * k := by omega
      have ek : ((2 * (k + 1) : Nat) : Int) = ((2 * k : Nat) : Int) + 2 := by omega
      have EK := hide ek
      have hkb : 2 * k ≤ 1048576 := by omega
      clear ek hlt hk
      generalize hm : 2 * k = m at *
      have HM := hide hm
      clear hm
      by_cases g1 : x ≤ b
      · by_cases g2 : b ≤ y
        · have HQ := hide (unhide Hyes g1 g2)
          clear Hyes Hnx
          go_wp2
          go_ret
          exact ⟨RetB.yes (unhide HQ), rfl⟩
        · have HQ := hide (unhide Hnx (fun h => g2 h.2))
          clear Hyes Hnx
          go_wp2
          go_round
          case rel => exact ⟨k + 1, hk2, by rw [unhide EK], unhide HQ⟩
          case measure => simp [intOf]; omega
      · have HQ := hide (unhide Hnx (fun h => g1 h.1))
        clear Hyes Hnx
        go_wp2
        go_round
        case rel => exact ⟨k + 1, hk2, by rw [unhide EK], unhide HQ⟩
        case measure => simp [intOf]; omega
    · have h1' : ¬ ((2 * k : Nat) : Int) + 1 < (set.length : Int) := by omega
      have hkb : 2 * k ≤ 1048577 := by omega
      have HQ : Hid (¬ inPs set b) := fun ⟨i, hi, h2⟩ => unhide Hno i (by omega) h2
      generalize hm : 2 * k = m at *
      clear hm
      go_wp2
      go_ret
      exact ⟨RetB.no (unhide HQ), rfl⟩
theorem ints_slAt {N : Nat} {w : World} {v : Value} {xs : List Int} (h : IntsAt 0 N w v xs) : SlAt mI 0 0 N w v xs := by
  obtain ⟨a, c, e, h1, -, h2⟩ := h
  exact ⟨a, c, e, h1, h2⟩
end Go.Proofs.Ytmafkoppadminaa
