import Derived.Test.YtjefklagedidmaaGreatP3
import Derived.Test.YtjefklagedidmaaGreatP2
import Derived.RangeFuncBox
import Derived.Test.YtjefklagedidmaaGreatP1
import Derived.Lib.SliceRun
import Derived.Deep.RegionHeld3
import Derived.Deep.RegionWith
namespace Go.Proofs.YtjefklagedidmaaGreat
open Go.RowKit

/-- Nothing of the block is frozen. -/
def Free (w : World) (b : Nat) : Prop := ∃ c t, w.heap[b]? = some (.cells c t (0, 0))
theorem Free.same {w w' : World} {b : Nat} (h : Free w b) (e : w'.heap[b]? = w.heap[b]?) : Free w' b := by
  obtain ⟨c, t, hb⟩ := h
  exact ⟨c, t, e.trans hb⟩
theorem Free.put {w : World} {b b' o : Nat} {u : Value} (h : Free w b) : Free (w.setCell ⟨b', o, none⟩ u) b := by
  by_cases e : b = b'
  · subst e; exact own_put h
  · exact h.same (Below.heap_setCell _ _ _ _ (by exact e))

/-- The blocks from lo on and below n. -/
def Rng (lo n : Nat) (k : Nat) : Prop := lo ≤ k ∧ k < n

/-- Outside the blocks of S the world w' is as w was. -/
structure ChgF (S : Nat → Prop) (w w' : World) : Prop where
  os : w'.os = w.os
  tape : w'.tape = w.tape
  output : w'.output = w.output
  size : w'.heap.size = w.heap.size
  block : ∀ k, ¬ S k → w'.heap[k]? = w.heap[k]?
theorem ChgF.refl (S : Nat → Prop) (w : World) : ChgF S w w := ⟨rfl, rfl, rfl, rfl, fun _ _ => rfl⟩
theorem ChgF.trans {S : Nat → Prop} {a b c : World} (h : ChgF S a b) (k : ChgF S b c) : ChgF S a c :=
  ⟨k.os.trans h.os, k.tape.trans h.tape, k.output.trans h.output, k.size.trans h.size, fun i hi => (k.block i hi).trans (h.block i hi)⟩
theorem ChgF.mono {S T : Nat → Prop} {a b : World} (h : ChgF S a b) (hs : ∀ k, S k → T k) : ChgF T a b := ⟨h.os, h.tape, h.output, h.size, fun k hk => h.block k (fun q => hk (hs k q))⟩
theorem Chg.foot {lo n : Nat} {S : Nat → Prop} {a b : World} (h : Chg lo n a b) (hs : ∀ k, lo ≤ k → k < n → S k) : ChgF S a b := ⟨h.os, h.tape, h.output, h.size, fun k hk => h.block k (by
  by_cases e : lo ≤ k ∧ k < n
  · exact absurd (hs k e.1 e.2) hk
  · omega)⟩
theorem ChgF.chg {lo n : Nat} {a b : World} (h : ChgF (Rng lo n) a b) : Chg lo n a b := ⟨h.os, h.tape, h.output, h.size, fun k hk => h.block k (by unfold Rng; omega)⟩
theorem ChgF.below {S : Nat → Prop} {lo : Nat} {w w' : World} (h : ChgF S w w') (hs : ∀ k, S k → lo ≤ k) : Below lo w w' := ⟨h.os, h.tape, h.output, by rw [h.size]; exact Nat.le_refl _, fun k hk => h.block k (fun q => by have := hs k q; omega)⟩
theorem ChgF.put {S : Nat → Prop} {a w : World} (h : ChgF S a w) {b o : Nat} (h1 : S b) (u : Value) : ChgF S a (w.setCell ⟨b, o, none⟩ u) :=
  h.trans ⟨rfl, rfl, rfl, by simp [World.setCell], fun k hk => Below.heap_setCell _ _ _ _ (by show k ≠ b; intro e; subst e; exact hk h1)⟩

/-- v is a slice, element by element mk of xs, in the blocks of S, which nothing has frozen. -/
def SlF {α : Type} (mk : α → Value) (d : α) (S : Nat → Prop) (w : World) (v : Value) (xs : List α) : Prop :=
  ∃ lo n, SlW mk d lo n w v xs ∧ ∀ k, lo ≤ k → k < n → S k
theorem SlW.foot {α : Type} {mk : α → Value} {d : α} {lo n : Nat} {w : World} {v : Value} {xs : List α} (h : SlW mk d lo n w v xs) : SlF mk d (Rng lo n) w v xs := ⟨lo, n, h, fun _ h1 h2 => ⟨h1, h2⟩⟩
theorem SlF.same {α : Type} {mk : α → Value} {d : α} {S : Nat → Prop} {w w' : World} {v : Value} {xs : List α} (h : SlF mk d S w v xs) (hs : ∀ k, S k → w'.heap[k]? = w.heap[k]?) : SlF mk d S w' v xs := by
  obtain ⟨lo, n, h1, h2⟩ := h
  exact ⟨lo, n, h1.same (fun k k1 k2 => hs k (h2 k k1 k2)), h2⟩
theorem SlF.mono {α : Type} {mk : α → Value} {d : α} {S T : Nat → Prop} {w : World} {v : Value} {xs : List α} (h : SlF mk d S w v xs) (hs : ∀ k, S k → T k) : SlF mk d T w v xs := by
  obtain ⟨lo, n, h1, h2⟩ := h
  exact ⟨lo, n, h1, fun k k1 k2 => hs k (h2 k k1 k2)⟩
theorem SlF.at {α : Type} {mk : α → Value} {d : α} {S : Nat → Prop} {N : Nat} {w : World} {v : Value} {xs : List α} (h : SlF mk d S w v xs) (hs : ∀ k, S k → k < N) : SlAt mk d 0 N w v xs := by
  obtain ⟨lo, n, ⟨a, cap, rfl, hl, hc⟩, h2⟩ := h
  refine ⟨a, cap, rfl, hl, fun hp => ?_⟩
  obtain ⟨b, off, rfl, h3, h4, h5, hcell⟩ := hc hp
  exact ⟨b, off, rfl, Nat.zero_le _, hs b (h2 b h3 h4), hcell⟩
theorem SlF.val {α : Type} {mk : α → Value} {d : α} {S : Nat → Prop} {w : World} {v : Value} {xs : List α} (h : SlF mk d S w v xs) : ∃ a cap, v = .slice a xs.length cap := by
  obtain ⟨lo, n, ⟨a, cap, e, -⟩, -⟩ := h
  exact ⟨a, cap, e⟩

/-- v is a slice of slices that reads as xss, in blocks below N. -/
def SsAt {α : Type} (mk : α → Value) (d : α) (N : Nat) (w : World) (v : Value) (xss : List (List α)) : Prop :=
  ∃ a cap, v = .slice a xss.length cap ∧ (xss.length ≤ cap ∧ cap ≤ maxLen) ∧
    (0 < xss.length → ∃ b off, a = some ⟨b, off, none⟩ ∧ b < N ∧ ∀ i : Nat, i < xss.length → ∃ s, w.cell? ⟨b, off + i, none⟩ = some s ∧ SlAt mk d 0 N w s (xss[i]?.getD []) ∧ CapOk s)
theorem SsAt.below {α : Type} {mk : α → Value} {d : α} {m : Nat} {w w' : World} {v : Value} {xss : List (List α)} (h : SsAt mk d w.heap.size w v xss) (hb : Below m w w') (hm : w.heap.size ≤ m) : SsAt mk d w'.heap.size w' v xss := by
  obtain ⟨a, cap, rfl, hl, hc⟩ := h
  refine ⟨a, cap, rfl, hl, fun hp => ?_⟩
  obtain ⟨b, off, rfl, h1, h2⟩ := hc hp
  refine ⟨b, off, rfl, by have := hb.size; omega, fun i hi => ?_⟩
  obtain ⟨s, h3, h4, h5⟩ := h2 i hi
  exact ⟨s, by rw [hb.cell (p := ⟨b, off + i, none⟩) (by show b < m; omega)]; exact h3, h4.below hb hm, h5⟩
theorem SsAt.drewN {α : Type} {mk : α → Value} {d : α} {n : Nat} {w : World} {v : Value} {xss : List (List α)} (h : SsAt mk d n w v xss) (q : Nat) : SsAt mk d n (w.drewN q) v xss := h

/-- v is a slice of slices, xss, that owns its memory, in the blocks of S: the row of the slices and one for each slice, all apart. -/
def SsF {α : Type} (mk : α → Value) (d : α) (S : Nat → Prop) (w : World) (v : Value) (xss : List (List α)) : Prop :=
  ∃ a cap, v = .slice a xss.length cap ∧ (xss.length ≤ cap ∧ cap ≤ maxLen) ∧ (0 < xss.length → ∃ (b off : Nat) (sv : Nat → Value) (T : Nat → Nat → Prop), a = some ⟨b, off, none⟩ ∧ S b ∧ Free w b ∧
    (∀ i : Nat, i < xss.length → w.cell? ⟨b, off + i, none⟩ = some (sv i)) ∧ (∀ i : Nat, i < xss.length → SlF mk d (T i) w (sv i) (xss[i]?.getD []) ∧ CapOk (sv i)) ∧
    (∀ i : Nat, i < xss.length → ∀ k, T i k → S k ∧ k ≠ b) ∧ ∀ i j : Nat, i < xss.length → j < xss.length → i ≠ j → ∀ k, T i k → ¬ T j k)
theorem SsF.same {α : Type} {mk : α → Value} {d : α} {S : Nat → Prop} {w w' : World} {v : Value} {xss : List (List α)} (h : SsF mk d S w v xss) (hs : ∀ k, S k → w'.heap[k]? = w.heap[k]?) : SsF mk d S w' v xss := by
  obtain ⟨a, cap, rfl, hl, hc⟩ := h
  refine ⟨a, cap, rfl, hl, fun hp => ?_⟩
  obtain ⟨b, off, sv, T, e, h1, h2, h3, h4, h5, h6⟩ := hc hp
  exact ⟨b, off, sv, T, e, h1, h2.same (hs b h1), fun i hi => by rw [World.cell?_of_block (w := w) (a := ⟨b, off + i, none⟩) (hs b h1)]; exact h3 i hi, fun i hi => ⟨(h4 i hi).1.same (fun k hk => hs k (h5 i hi k hk).1), (h4 i hi).2⟩, h5, h6⟩
theorem SsF.mono {α : Type} {mk : α → Value} {d : α} {S S' : Nat → Prop} {w : World} {v : Value} {xss : List (List α)} (h : SsF mk d S w v xss) (hs : ∀ k, S k → S' k) : SsF mk d S' w v xss := by
  obtain ⟨a, cap, rfl, hl, hc⟩ := h
  refine ⟨a, cap, rfl, hl, fun hp => ?_⟩
  obtain ⟨b, off, sv, T, e, h1, h2, h3, h4, h5, h6⟩ := hc hp
  exact ⟨b, off, sv, T, e, hs b h1, h2, h3, h4, fun i hi k hk => ⟨hs k (h5 i hi k hk).1, (h5 i hi k hk).2⟩, h6⟩
theorem SsF.at {α : Type} {mk : α → Value} {d : α} {S : Nat → Prop} {N : Nat} {w : World} {v : Value} {xss : List (List α)} (h : SsF mk d S w v xss) (hs : ∀ k, S k → k < N) : SsAt mk d N w v xss := by
  obtain ⟨a, cap, rfl, hl, hc⟩ := h
  refine ⟨a, cap, rfl, hl, fun hp => ?_⟩
  obtain ⟨b, off, sv, T, e, h1, h2, h3, h4, h5, h6⟩ := hc hp
  exact ⟨b, off, e, hs b h1, fun i hi => ⟨sv i, h3 i hi, (h4 i hi).1.at (fun k hk => hs k (h5 i hi k hk).1), (h4 i hi).2⟩⟩
theorem SsF.keep {α : Type} {mk : α → Value} {d : α} {lo n m : Nat} {w w' : World} {v : Value} {xss : List (List α)} (h : SsF mk d (Rng lo n) w v xss) (hb : Below m w w') (hn : n ≤ m) : SsF mk d (Rng lo n) w' v xss := h.same (fun k hk => hb.block k (by unfold Rng at hk; omega))
theorem SsF.all {α : Type} {mk : α → Value} {d : α} {lo n : Nat} {w : World} {v : Value} {xss : List (List α)} (h : SsF mk d (Rng lo n) w v xss) (hn : n ≤ w.heap.size) : SsAt mk d w.heap.size w v xss := h.at (fun k hk => by unfold Rng at hk; omega)
theorem SsF.nil {α : Type} (mk : α → Value) (d : α) (S : Nat → Prop) (w : World) (a : Option Addr) (cap : Nat) (hc : cap ≤ maxLen) : SsF mk d S w (.slice a 0 cap) ([] : List (List α)) := ⟨a, cap, rfl, ⟨Nat.zero_le _, hc⟩, fun h => absurd h (by simp)⟩

/-- The part of a copy that is made. -/
def PartS {α : Type} (mk : α → Value) (d : α) (t : TypeId) (N : Nat) (w : World) (xss : List (List α)) (k : Nat) : Prop :=
  ∃ (f : Nat → Value) (T : Nat → Nat → Prop), w.rowIs N t xss.length f ∧ (∀ i : Nat, i < k → SlF mk d (T i) w (f i) (xss[i]?.getD []) ∧ CapOk (f i)) ∧ (∀ i : Nat, i < k → ∀ j, T i j → N < j ∧ j < w.heap.size) ∧
    ∀ i j : Nat, i < k → j < k → i ≠ j → ∀ q, T i q → ¬ T j q
theorem partS_step {α : Type} {mk : α → Value} {d : α} {t : TypeId} {N k : Nat} {wr w1 : World} {xss : List (List α)} {v : Value} (h : PartS mk d t N wr xss k) (hk : k < xss.length) (hb : Below wr.heap.size wr w1)
    (hv : SlW mk d wr.heap.size w1.heap.size w1 v (xss[k]?.getD [])) (hcv : CapOk v) : PartS mk d t N (w1.setCell ⟨N, k, none⟩ v) xss (k + 1) := by
  obtain ⟨f, T, hrow, h4, h5, h6⟩ := h
  have hN := hrow.lt
  have hz := hb.size
  have hrow1 := hrow.of_block (hb.block N hN)
  have hput : ∀ k', k' ≠ N → (w1.setCell ⟨N, k, none⟩ v).heap[k']? = w1.heap[k']? := fun k' hne => Below.heap_setCell _ _ _ _ (by exact hne)
  refine ⟨_, fun i => if i = k then Rng wr.heap.size w1.heap.size else T i, hrow1.set k v, fun i hi => ?_, fun i hi j hj => ?_, fun i j hi hj hne q hq hq' => ?_⟩
  · by_cases e : i = k
    · subst e
      simp only [if_true]
      exact ⟨hv.foot.same (fun k' hk' => hput k' (by unfold Rng at hk'; omega)), hcv⟩
    · simp only [e, if_false]
      refine ⟨((h4 i (by omega)).1.same (w' := w1) (fun k' hk' => hb.block k' (h5 i (by omega) k' hk').2)).same (fun k' hk' => hput k' ?_), (h4 i (by omega)).2⟩
      have := h5 i (by omega) k' hk'
      omega
  · rw [sz_put]
    by_cases e : i = k
    · simp only [e, if_true] at hj; unfold Rng at hj; omega
    · simp only [e, if_false] at hj
      have := h5 i (by omega) j hj
      omega
  · by_cases e1 : i = k
    · by_cases e2 : j = k
      · omega
      · simp only [e1, e2, if_true, if_false] at hq hq'
        have := h5 j (by omega) q hq'
        unfold Rng at hq
        omega
    · by_cases e2 : j = k
      · simp only [e1, e2, if_true, if_false] at hq hq'
        have := h5 i (by omega) q hq
        unfold Rng at hq'
        omega
      · simp only [e1, e2, if_false] at hq hq'
        exact h6 i j (by omega) (by omega) hne q hq hq'
theorem partS_done {α : Type} {mk : α → Value} {d : α} {t : TypeId} {N cap : Nat} {w : World} {xss : List (List α)} (h : PartS mk d t N w xss xss.length) (hl : xss.length ≤ cap ∧ cap ≤ maxLen) : SsF mk d (Rng N w.heap.size) w (.slice (some ⟨N, 0, none⟩) xss.length cap) xss := by
  obtain ⟨f, T, hrow, h4, h5, h6⟩ := h
  have hN := hrow.lt
  have hfr : Free w N := by obtain ⟨c, hcb, -⟩ := hrow; exact ⟨c, t, hcb⟩
  exact ⟨_, cap, rfl, hl, fun _ => ⟨N, 0, f, T, rfl, ⟨Nat.le_refl _, hN⟩, hfr, fun i hi => by rw [Nat.zero_add]; exact hrow.cell hi, h4, fun i hi k hk => by have := h5 i hi k hk; unfold Rng; omega, h6⟩⟩

/-- How many elements all lists have, and the marks. -/
def tot {α : Type} : List (List α) → Nat
  | [] => 0
  | x :: r => x.length + tot r
def marksL {α β : Type} (c : Int → Nat → List β) (k : Int) : List (List α) → List (List β)
  | [] => []
  | x :: r => c k x.length :: marksL c (k + x.length) r
theorem marksL_len {α β : Type} (c : Int → Nat → List β) (k : Int) (xss : List (List α)) : (marksL c k xss).length = xss.length := by
  induction xss generalizing k with
  | nil => rfl
  | cons x r ih => simp [marksL, ih]
theorem marksL_get {α β : Type} (c : Int → Nat → List β) (k : Int) (xss : List (List α)) (i : Nat) (h : i < xss.length) : (marksL c k xss)[i]?.getD [] = c (k + tot (xss.take i)) (xss[i]?.getD []).length := by
  induction xss generalizing k i with
  | nil => simp at h
  | cons x r ih =>
    cases i with
    | zero => simp [marksL, tot]
    | succ i => simp only [marksL, List.getElem?_cons_succ, List.take_succ_cons, tot]; rw [ih _ i (by simpa using h)]; congr 1; omega
theorem tot_step {α : Type} (xss : List (List α)) (i : Nat) (h : i < xss.length) : tot (xss.take (i + 1)) = tot (xss.take i) + (xss[i]?.getD []).length := by
  induction xss generalizing i with
  | nil => simp at h
  | cons x r ih =>
    cases i with
    | zero => simp [tot]
    | succ i => simp only [List.take_succ_cons, tot, List.getElem?_cons_succ]; rw [ih i (by simpa using h)]; omega
theorem tot_take {α : Type} (xss : List (List α)) (i : Nat) : tot (xss.take i) ≤ tot xss := by
  induction xss generalizing i with
  | nil => simp [tot]
  | cons x r ih => cases i with
    | zero => simp [tot]
    | succ i => have := ih i; simp only [List.take_succ_cons, tot]; omega
theorem tot_get {α : Type} (xss : List (List α)) (i : Nat) : (xss[i]?.getD []).length ≤ tot xss := by
  by_cases h : i < xss.length
  · have h1 := tot_step xss i h
    have h2 := tot_take xss (i + 1)
    omega
  · rw [List.getElem?_eq_none (by omega)]; simp

/-- While the lists are marked: the first m are. -/
def mixL {α : Type} (ys xss : List (List α)) (m i : Nat) : List α := if i < m then ys[i]?.getD [] else xss[i]?.getD []
def MkS {α : Type} (mk : α → Value) (d : α) (S : Nat → Prop) (w0 w : World) (ys xss : List (List α)) (b off : Nat) (sv : Nat → Value) (T : Nat → Nat → Prop) (m : Nat) : Prop :=
  Free w b ∧ (∀ i : Nat, i < xss.length → w.cell? ⟨b, off + i, none⟩ = some (sv i)) ∧ (∀ i : Nat, i < xss.length → SlF mk d (T i) w (sv i) (mixL ys xss m i) ∧ CapOk (sv i)) ∧ ChgF S w0 w
theorem mkS_step {α : Type} {mk : α → Value} {d : α} {S : Nat → Prop} {w0 wr w1 : World} {ys xss : List (List α)} {b off : Nat} {sv : Nat → Value} {T : Nat → Nat → Prop} {m : Nat} (h : MkS mk d S w0 wr ys xss b off sv T m) (hm : m < xss.length)
    (h5 : ∀ i : Nat, i < xss.length → ∀ k, T i k → S k ∧ k ≠ b) (h6 : ∀ i j : Nat, i < xss.length → j < xss.length → i ≠ j → ∀ k, T i k → ¬ T j k)
    (hc : ChgF (T m) wr w1) (hs : SlF mk d (T m) w1 (sv m) (ys[m]?.getD [])) : MkS mk d S w0 w1 ys xss b off sv T (m + 1) := by
  obtain ⟨hu, h3, h4, hch⟩ := h
  have eb : w1.heap[b]? = wr.heap[b]? := hc.block b (fun q => (h5 m hm b q).2 rfl)
  refine ⟨hu.same eb, fun i hi => by rw [World.cell?_of_block (w := wr) (a := ⟨b, off + i, none⟩) eb]; exact h3 i hi, fun i hi => ?_, hch.trans (hc.mono (fun k hk => (h5 m hm k hk).1))⟩
  by_cases e : i = m
  · subst e
    unfold mixL
    rw [if_pos (by omega)]
    exact ⟨hs, (h4 i hi).2⟩
  · have e2 : mixL ys xss (m + 1) i = mixL ys xss m i := by
      unfold mixL
      by_cases e3 : i < m
      · rw [if_pos e3, if_pos (by omega)]
      · rw [if_neg e3, if_neg (by omega)]
    rw [e2]
    exact ⟨(h4 i hi).1.same (fun k hk => hc.block k (h6 i m hi hm e k hk)), (h4 i hi).2⟩

theorem SsAt.take {α : Type} {mk : α → Value} {d : α} {N k cap b off : Nat} {w : World} {xss : List (List α)} (hk : k ≤ xss.length) (hl : xss.length ≤ cap ∧ cap ≤ maxLen) (hb : b < N)
    (hc : ∀ i : Nat, i < xss.length → ∃ s, w.cell? ⟨b, off + i, none⟩ = some s ∧ SlAt mk d 0 N w s (xss[i]?.getD []) ∧ CapOk s) : SsAt mk d N w (.slice (some ⟨b, off, none⟩) k cap) (xss.take k) := by
  have e : (xss.take k).length = k := by simp; omega
  refine ⟨_, cap, by rw [e], ⟨by omega, hl.2⟩, fun _ => ⟨b, off, rfl, hb, fun i hi => ?_⟩⟩
  rw [e] at hi
  obtain ⟨s, h1, h2⟩ := hc i (by omega)
  exact ⟨s, h1, by rw [List.getElem?_take, if_pos hi]; exact h2⟩
theorem SsAt.drop {α : Type} {mk : α → Value} {d : α} {N k m cap b off : Nat} {w : World} {xss : List (List α)} (hk : k + m = xss.length) (hl : m ≤ cap ∧ cap ≤ maxLen) (hb : b < N)
    (hc : ∀ i : Nat, i < xss.length → ∃ s, w.cell? ⟨b, off + i, none⟩ = some s ∧ SlAt mk d 0 N w s (xss[i]?.getD []) ∧ CapOk s) : SsAt mk d N w (.slice (some ⟨b, off + k, none⟩) m cap) (xss.drop k) := by
  have e : (xss.drop k).length = m := by simp; omega
  refine ⟨_, cap, by rw [e], ⟨by omega, hl.2⟩, fun _ => ⟨b, off + k, rfl, hb, fun i hi => ?_⟩⟩
  rw [e] at hi
  obtain ⟨s, h1, h2⟩ := hc (k + i) (by omega)
  exact ⟨s, by rw [Nat.add_assoc]; exact h1, by rw [List.getElem?_drop]; exact h2⟩

theorem tot_drop {α : Type} (xss : List (List α)) (i : Nat) : tot (xss.drop i) ≤ tot xss := by
  induction xss generalizing i with
  | nil => simp [tot]
  | cons x r ih => cases i with
    | zero => simp
    | succ i => have := ih i; simp only [List.drop_succ_cons, tot]; omega


end Go.Proofs.YtjefklagedidmaaGreat

namespace Go.Proofs.YtjefklagedidmaaGreat
open Go.RowKit

theorem Boxed.under {w w' : World} {B m : Nat} {t : TypeId} {v : Value} (h : Boxed w B t v) (hb : Below m w w') (hm : B < m) : Boxed w' B t v := (hb.block B hm).trans h

/-- A list that lies in one block, and where. -/
structure Cl (α : Type) where
  v : Value
  xs : List α
  b : Nat

/-- p's value reads as p's list, in p's block, whose cells are of type e. -/
def Cl.ok {α : Type} (mk : α → Value) (d : α) (e : TypeId) (w : World) (p : Cl α) : Prop :=
  ∃ a cap, p.v = .slice a p.xs.length cap ∧ (p.xs.length ≤ cap ∧ cap ≤ maxLen) ∧ (0 < p.xs.length → ∃ off, a = some ⟨p.b, off, none⟩ ∧ (∃ c, w.heap[p.b]? = some (.cells c e (0, 0))) ∧ ∀ i : Nat, i < p.xs.length → w.cell? ⟨p.b, off + i, none⟩ = some (mk (p.xs[i]?.getD d)))
theorem Cl.ok.same {α : Type} {mk : α → Value} {d : α} {e : TypeId} {w w' : World} {p : Cl α} (h : p.ok mk d e w) (hs : 0 < p.xs.length → w'.heap[p.b]? = w.heap[p.b]?) : p.ok mk d e w' := by
  obtain ⟨a, cap, e1, hl, hc⟩ := h
  refine ⟨a, cap, e1, hl, fun hp => ?_⟩
  obtain ⟨off, e2, ⟨c, h1⟩, h2⟩ := hc hp
  exact ⟨off, e2, ⟨c, (hs hp).trans h1⟩, fun i hi => by rw [World.cell?_of_block (w := w) (a := ⟨p.b, off + i, none⟩) (hs hp)]; exact h2 i hi⟩
theorem Cl.ok.lt {α : Type} {mk : α → Value} {d : α} {e : TypeId} {w : World} {p : Cl α} (h : p.ok mk d e w) (hp : 0 < p.xs.length) : p.b < w.heap.size := by
  obtain ⟨a, cap, e1, hl, hc⟩ := h
  obtain ⟨off, e2, ⟨c, h1⟩, h2⟩ := hc hp
  exact (Array.getElem?_eq_some_iff.1 h1).1
theorem Cl.ok.below {α : Type} {mk : α → Value} {d : α} {e : TypeId} {m : Nat} {w w' : World} {p : Cl α} (h : p.ok mk d e w) (hb : Below m w w') (hm : w.heap.size ≤ m) : p.ok mk d e w' := h.same (fun hp => hb.block _ (by have := h.lt hp; omega))
theorem Cl.ok.at {α : Type} {mk : α → Value} {d : α} {e : TypeId} {w : World} {p : Cl α} (h : p.ok mk d e w) : SlAt mk d 0 w.heap.size w p.v p.xs := by
  obtain ⟨a, cap, e1, hl, hc⟩ := id h
  refine ⟨a, cap, e1, by omega, fun hp => ?_⟩
  obtain ⟨off, e2, -, h2⟩ := hc hp
  exact ⟨p.b, off, e2, Nat.zero_le _, h.lt hp, h2⟩
theorem Cl.ok.cap {α : Type} {mk : α → Value} {d : α} {e : TypeId} {w : World} {p : Cl α} (h : p.ok mk d e w) : CapOk p.v := by
  obtain ⟨a, cap, e1, hl, hc⟩ := h
  rw [e1]
  exact CapOk.mk hl.1 hl.2
theorem Cl.ok.foot {α : Type} {mk : α → Value} {d : α} {e : TypeId} {w : World} {p : Cl α} (h : p.ok mk d e w) : SlF mk d (fun k => 0 < p.xs.length ∧ k = p.b) w p.v p.xs := by
  obtain ⟨a, cap, e1, hl, hc⟩ := h
  by_cases hp : 0 < p.xs.length
  · refine ⟨p.b, p.b + 1, ⟨a, cap, e1, by omega, fun _ => ?_⟩, fun k h1 h2 => ⟨hp, by omega⟩⟩
    obtain ⟨off, e2, ⟨c, h1⟩, h2⟩ := hc hp
    exact ⟨p.b, off, e2, Nat.le_refl _, Nat.lt_succ_self _, ⟨c, e, h1⟩, h2⟩
  · exact ⟨0, 0, ⟨a, cap, e1, by omega, fun h => absurd h hp⟩, fun k h1 h2 => by omega⟩
theorem Cl.ok.one {α : Type} {mk : α → Value} {d : α} {e : TypeId} {w : World} {p : Cl α} (h : p.ok mk d e w) : p.v.oneCell' = true := by
  obtain ⟨a, cap, e1, -⟩ := h
  rw [e1]
  rfl

/-- What owns its row is such a list. -/
theorem own_cl {mk : Int → Value} {base e n : Nat} {w : World} {v : Value} {xs : List Int} (h : w.ownsRow base e 1 v n (xs.map mk)) : ∃ b, Cl.ok mk 0 e w ⟨v, xs, b⟩ ∧ (0 < xs.length → base ≤ b) := by
  have hlen := h.1
  rw [List.length_map, Nat.mul_one] at hlen
  rcases h.2 with ⟨rfl, hz⟩ | ⟨g, cap, cur, rfl, hbg, hg, hnc, hcm, hcs, htake⟩
  · exact ⟨0, ⟨none, 0, by show Value.slice none 0 0 = _; rw [hlen, hz], by show xs.length ≤ 0 ∧ _; exact ⟨by omega, Nat.zero_le _⟩, fun hp => by have : 0 < xs.length := hp; omega⟩, fun hp => by omega⟩
  · refine ⟨g, ⟨some ⟨g, 0, none⟩, cap, by rw [hlen], ⟨by show xs.length ≤ cap; omega, hcm⟩, fun hp => ⟨0, rfl, ⟨cur, hg⟩, fun i hi => ?_⟩⟩, fun _ => hbg⟩
    have hi' : i < xs.length := hi
    show w.cell? ⟨g, 0 + i, none⟩ = some (mk (xs[i]?.getD 0))
    rw [Nat.zero_add, h.cellAt i (by omega), List.getElem?_map, List.getElem?_eq_getElem hi']
    rfl

def ApartC {α : Type} (ps : List (Cl α)) : Prop := ps.Pairwise (fun p q => 0 < p.xs.length → 0 < q.xs.length → p.b ≠ q.b)

/-- v is a row of its own of such lists, ps, which lie apart. -/
structure LL {α : Type} (mk : α → Value) (d : α) (e te : TypeId) (base : Nat) (w : World) (v : Value) (ps : List (Cl α)) : Prop where
  own : w.ownsRow base te 1 v ps.length (ps.map Cl.v)
  ok : ∀ p ∈ ps, p.ok mk d e w
  lo : ∀ p ∈ ps, 0 < p.xs.length → base ≤ p.b
  apart : ApartC ps
theorem LL.nil {α : Type} {mk : α → Value} {d : α} {e te : TypeId} {base : Nat} {w : World} : LL mk d e te base w (.slice none 0 0) [] := ⟨World.ownsRow_nil _ _ _ _, by simp, by simp, List.Pairwise.nil⟩
theorem LL.keep {α : Type} {mk : α → Value} {d : α} {e te : TypeId} {base m : Nat} {w w' : World} {v : Value} {ps : List (Cl α)} (h : LL mk d e te base w v ps) (hb : Below m w w') (hm : w.heap.size ≤ m) : LL mk d e te base w' v ps :=
  ⟨own_keep h.own hb hm, fun p hp => (h.ok p hp).below hb hm, h.lo, h.apart⟩

/-- The row's own block is none of the lists' blocks. -/
theorem LL.not_row {α : Type} {mk : α → Value} {d : α} {e te : TypeId} {base : Nat} {w : World} {v : Value} {ps : List (Cl α)} (hte : te ≠ e) (h : LL mk d e te base w v ps) {p : Cl α} {q : Cl α} (hq : q.ok mk d e w) (_ : p = q) (hp : 0 < q.xs.length) : some q.b ≠ v.ownBlock := by
  intro e1
  obtain ⟨a, cap, -, -, hc⟩ := hq
  obtain ⟨off, -, ⟨c, h1⟩, -⟩ := hc hp
  rcases h.own.2 with ⟨rfl, _⟩ | ⟨g, cap', cur, rfl, _, hgb, _⟩
  · simp [Value.ownBlock] at e1
  · obtain rfl : q.b = g := by simpa [Value.ownBlock] using e1
    rw [h1] at hgb
    simp at hgb
    exact hte hgb.2.symm

theorem pushd_alloc (w : World) (o : Obj) : Pushd w (w.alloc o) o := ⟨rfl, rfl, rfl, rfl⟩

/-- One list more. -/
theorem LL.app {α : Type} {mk : α → Value} {d : α} {e te : TypeId} {base : Nat} {w W w' : World} {v v' : Value} {ps : List (Cl α)} {p : Cl α} {o : Obj} (hte : te ≠ e) (h : LL mk d e te base w v ps) (hbase : base ≤ w.heap.size) (hp : p.ok mk d e w) (hplo : 0 < p.xs.length → base ≤ p.b)
    (hnew : ∀ q ∈ ps, 0 < q.xs.length → 0 < p.xs.length → q.b ≠ p.b) (hP : Pushd w W o) (h1 : w'.ownsRow base te 1 v' (ps.length + 1) (ps.map Cl.v ++ [p.v])) (hg : W.grownBy w' v.ownBlock) : LL mk d e te base w' v' (ps ++ [p]) ∧ Below base w w' := by
  have hk : ∀ q : Cl α, q.ok mk d e w → q.ok mk d e w' := fun q hq => by
    refine hq.same (fun hq0 => ?_)
    have hlt := hq.lt hq0
    rw [hg.block q.b (by rw [hP.size]; omega) (h.not_row hte hq rfl hq0), hP.old hlt]
  refine ⟨⟨by rw [List.length_append, List.map_append]; exact h1, fun q hq => ?_, fun q hq hq0 => ?_, ?_⟩, (hP.below.mono hbase).grown hg (by rw [hP.size]; omega) (fun k hk => (h.own.lt k hk).1)⟩
  · rcases List.mem_append.1 hq with hq | hq
    · exact hk q (h.ok q hq)
    · rw [List.mem_singleton] at hq
      subst hq
      exact hk q hp
  · rcases List.mem_append.1 hq with hq | hq
    · exact h.lo q hq hq0
    · rw [List.mem_singleton] at hq
      subst hq
      exact hplo hq0
  · refine List.pairwise_append.2 ⟨h.apart, List.pairwise_singleton _ _, fun q hq r hr => ?_⟩
    rw [List.mem_singleton] at hr
    subst hr
    exact hnew q hq

/-- As the laws' functions want it. -/
theorem LL.foot {α : Type} {mk : α → Value} {d : α} {e te : TypeId} {base : Nat} {w : World} {v : Value} {ps : List (Cl α)} (hte : te ≠ e) (h : LL mk d e te base w v ps) (hl : ps.length ≤ maxLen) : SsF mk d (Rng base w.heap.size) w v (ps.map Cl.xs) := by
  have hlen := h.own.1
  rcases h.own.2 with ⟨rfl, hz⟩ | ⟨g, cap, cur, rfl, hbg, hg, hnc, hcm, hcs, htake⟩
  · have : ps = [] := List.eq_nil_of_length_eq_zero hz
    subst this
    exact SsF.nil _ _ _ _ _ _ (Nat.zero_le _)
  · have hgl : g < w.heap.size := (h.own.lt g rfl).2
    have hget : ∀ i : Nat, i < ps.length → ∃ p, ps[i]? = some p ∧ p ∈ ps := fun i hi => ⟨ps[i], by simp [hi], List.getElem_mem hi⟩
    refine ⟨some ⟨g, 0, none⟩, cap, by rw [List.length_map], ⟨by rw [List.length_map]; exact hnc, hcm⟩, fun _ => ⟨g, 0, fun i => ((ps[i]?).map Cl.v).getD undef, fun i k => ∃ p, ps[i]? = some p ∧ 0 < p.xs.length ∧ k = p.b, rfl, ⟨hbg, hgl⟩, ⟨cur, te, hg⟩, fun i hi => ?_, fun i hi => ?_, fun i hi k hk => ?_, fun i j hi hj hne k hk hk' => ?_⟩⟩
    · rw [List.length_map] at hi
      obtain ⟨p, hp, -⟩ := hget i hi
      show w.cell? ⟨g, 0 + i, none⟩ = some (((ps[i]?).map Cl.v).getD undef)
      rw [Nat.zero_add, h.own.cellAt i (by omega), List.getElem?_map, hp]
      rfl
    · rw [List.length_map] at hi
      obtain ⟨p, hp, hm⟩ := hget i hi
      have e1 : ((ps[i]?).map Cl.v).getD undef = p.v := by rw [hp]; rfl
      have e2 : ((ps.map Cl.xs)[i]?).getD [] = p.xs := by rw [List.getElem?_map, hp]; rfl
      show SlF mk d _ w (((ps[i]?).map Cl.v).getD undef) (((ps.map Cl.xs)[i]?).getD []) ∧ CapOk (((ps[i]?).map Cl.v).getD undef)
      rw [e1, e2]
      exact ⟨(h.ok p hm).foot.mono (fun k hk => ⟨p, hp, hk.1, hk.2⟩), (h.ok p hm).cap⟩
    · obtain ⟨p, hp, hp0, rfl⟩ := hk
      have hm : p ∈ ps := List.mem_of_getElem? hp
      refine ⟨⟨h.lo p hm hp0, (h.ok p hm).lt hp0⟩, fun e1 => ?_⟩
      exact h.not_row hte (h.ok p hm) rfl hp0 (by rw [e1]; rfl)
    · obtain ⟨p, hp, hp0, rfl⟩ := hk
      obtain ⟨q, hq, hq0, e1⟩ := hk'
      rw [List.length_map] at hi hj
      have hpair := List.pairwise_iff_getElem.1 h.apart
      have ep : ps[i]'hi = p := by rw [List.getElem?_eq_getElem hi] at hp; exact Option.some.inj hp
      have eq : ps[j]'hj = q := by rw [List.getElem?_eq_getElem hj] at hq; exact Option.some.inj hq
      rcases Nat.lt_or_gt_of_ne hne with hlt | hlt
      · exact hpair i j hi hj hlt (by rw [ep]; exact hp0) (by rw [eq]; exact hq0) (by rw [ep, eq]; exact e1)
      · exact hpair j i hj hi hlt (by rw [eq]; exact hq0) (by rw [ep]; exact hp0) (by rw [ep, eq]; exact e1.symm)

/-- One store into a row of its own. -/
theorem own_set {base e g n cap k : Nat} {w : World} {xs : List Value} {u : Value} (h : w.ownsRow base e 1 (.slice (some ⟨g, 0, none⟩) n cap) n xs) (_ : k < n) : (w.setCell ⟨g, k, none⟩ u).ownsRow base e 1 (.slice (some ⟨g, 0, none⟩) n cap) n (xs.set k u) := by
  have hlen := h.1
  rcases h.2 with ⟨e0, _⟩ | ⟨g', cap', cur, e0, hb, hg, hn, hm, hs, ht⟩
  · cases e0
  · cases e0
    refine ⟨by rw [List.length_set]; exact hlen, .inr ⟨g, cap, cur.setIfInBounds k u, rfl, hb, ?_, hn, hm, by rw [Array.size_setIfInBounds]; exact hs, ?_⟩⟩
    · simp [World.setCell, Array.getElem?_modify, hg]
    · rw [Array.toList_setIfInBounds, ← ht]
      rw [List.take_set]

end Go.Proofs.YtjefklagedidmaaGreat

namespace Go.Proofs.YtjefklagedidmaaGreat
open Go.RowKit

/-- The lexicographic comparison: -1, 0 or 1. -/
def lexc : List Int → List Int → Int
  | [], [] => 0
  | [], _ :: _ => -1
  | _ :: _, [] => 1
  | x :: xs, y :: ys => if x < y then -1 else if y < x then 1 else lexc xs ys

theorem lexc_vals : ∀ xs ys : List Int, lexc xs ys = -1 ∨ lexc xs ys = 0 ∨ lexc xs ys = 1
  | [], [] => by simp [lexc]
  | [], _ :: _ => by simp [lexc]
  | _ :: _, [] => by simp [lexc]
  | x :: xs, y :: ys => by
    simp only [lexc]
    split
    · simp
    · split
      · simp
      · exact lexc_vals xs ys
theorem lexc_zero : ∀ {xs ys : List Int}, lexc xs ys = 0 ↔ xs = ys
  | [], [] => by simp [lexc]
  | [], _ :: _ => by simp [lexc]
  | _ :: _, [] => by simp [lexc]
  | x :: xs, y :: ys => by
    simp only [lexc, List.cons.injEq]
    have ih := lexc_zero (xs := xs) (ys := ys)
    by_cases h1 : x < y
    · rw [if_pos h1]
      constructor
      · intro h; omega
      · rintro ⟨rfl, -⟩; omega
    · rw [if_neg h1]
      by_cases h2 : y < x
      · rw [if_pos h2]
        constructor
        · intro h; omega
        · rintro ⟨rfl, -⟩; omega
      · rw [if_neg h2, ih]
        constructor
        · intro h; exact ⟨by omega, h⟩
        · rintro ⟨-, h⟩; exact h
theorem lexc_swap : ∀ xs ys : List Int, lexc ys xs = - lexc xs ys
  | [], [] => by simp [lexc]
  | [], _ :: _ => by simp [lexc]
  | _ :: _, [] => by simp [lexc]
  | x :: xs, y :: ys => by
    simp only [lexc]
    have ih := lexc_swap xs ys
    by_cases h1 : x < y
    · rw [if_pos h1, if_neg (by omega), if_pos h1]
      rfl
    · by_cases h2 : y < x
      · rw [if_pos h2, if_neg h1, if_pos h2]
      · rw [if_neg h2, if_neg h1, if_neg h1, if_neg h2, ih]
theorem lexc_trans : ∀ {xs ys zs : List Int}, lexc xs ys < 0 → lexc ys zs < 0 → lexc xs zs < 0
  | [], [], _, h, _ => by simp [lexc] at h
  | _ :: _, [], _, h, _ => by simp [lexc] at h
  | _, _ :: _, [], _, h => by simp [lexc] at h
  | [], _ :: _, _ :: _, _, _ => by simp [lexc]
  | x :: xs, y :: ys, z :: zs, h1, h2 => by
    simp only [lexc] at h1 h2 ⊢
    have ih := lexc_trans (xs := xs) (ys := ys) (zs := zs)
    by_cases a1 : x < y
    · by_cases b1 : y < z
      · rw [if_pos (by omega)]; omega
      · rw [if_neg b1] at h2
        by_cases b2 : z < y
        · rw [if_pos b2] at h2; omega
        · rw [if_pos (by omega)]; omega
    · rw [if_neg a1] at h1
      by_cases a2 : y < x
      · rw [if_pos a2] at h1; omega
      · rw [if_neg a2] at h1
        by_cases b1 : y < z
        · rw [if_pos (by omega)]; omega
        · rw [if_neg b1] at h2
          by_cases b2 : z < y
          · rw [if_pos b2] at h2; omega
          · rw [if_neg b2] at h2
            rw [if_neg (by omega), if_neg (by omega)]
            exact ih h1 h2

theorem drop_cons {xs : List Int} {i : Nat} (h : i < xs.length) : xs.drop i = xs[i]?.getD 0 :: xs.drop (i + 1) := by
  rw [List.drop_eq_getElem_cons h]
  simp [h]
theorem drop_nil {xs : List Int} : xs.drop xs.length = [] := by simp

set_option maxHeartbeats 400000 in
theorem cmpInt_any (x y : Int) (w : World) : Calls Tryz.prog 81 #[.int .i64 x, .int .i64 y] w fun e w' => e = .returned (.int .i64 (if x < y then -1 else if y < x then 1 else 0)) ∧ w' = w := by
  by_cases h1 : x < y
  · rw [if_pos h1]
    go_enter Tryz.func81, Tryz.ntmps81
    go_wp2
    go_ret
    exact ⟨rfl, rfl⟩
  · rw [if_neg h1]
    by_cases h2 : y < x
    · rw [if_pos h2]
      go_enter Tryz.func81, Tryz.ntmps81
      go_wp2
      go_ret
      exact ⟨rfl, rfl⟩
    · rw [if_neg h2]
      go_enter Tryz.func81, Tryz.ntmps81
      go_wp2
      go_ret
      exact ⟨rfl, rfl⟩

set_option maxHeartbeats 1000000 in
set_option maxRecDepth 100000 in
theorem compare_any (u v : Value) (xs ys : List Int) (w : World) (hu : SlAt mI 0 0 w.heap.size w u xs) (hv : SlAt mI 0 0 w.heap.size w v ys) :
    Calls Tryz.prog 42 #[u, v] w fun e w' => e = .returned (.int .i64 (lexc xs ys)) ∧ w' = w := by
  obtain ⟨a, cap, rfl, hl, hc⟩ := hu
  obtain ⟨a2, cap2, rfl, hl2, hc2⟩ := hv
  unfold maxLen at hl hl2
  go_enter Tryz.func42, Tryz.ntmps42
  go_wp2_with fail
  go_loop [11] (fun i => ∃ k : Nat, k ≤ xs.length ∧ k ≤ ys.length ∧ i = .int .i64 k ∧ lexc xs ys = lexc (xs.drop k) (ys.drop k)) (fun i => xs.length - (intOf i).toNat)
  case atStart => exact ⟨0, Nat.zero_le _, Nat.zero_le _, rfl, rfl⟩
  case round =>
    obtain ⟨k, hk, hk2, rfl, he⟩ := hrel
    have He := hide he
    clear he
    by_cases h1 : k < xs.length
    · have h1' : (k : Int) < (xs.length : Int) := by omega
      obtain ⟨b, off, rfl, -, -, hcell⟩ := hc (by omega)
      have hx : w.cell? ⟨b, off + k, none⟩ = some (.int .i64 (xs[k]?.getD 0)) := hcell k h1
      by_cases h2 : k < ys.length
      · have h2' : (k : Int) < (ys.length : Int) := by omega
        obtain ⟨b2, off2, rfl, -, -, hcell2⟩ := hc2 (by omega)
        have hy : w.cell? ⟨b2, off2 + k, none⟩ = some (.int .i64 (ys[k]?.getD 0)) := hcell2 k h2
        have Hst : Hid (lexc xs ys = if xs[k]?.getD 0 < ys[k]?.getD 0 then -1 else if ys[k]?.getD 0 < xs[k]?.getD 0 then 1 else lexc (xs.drop (k + 1)) (ys.drop (k + 1))) := by
          have := unhide He
          rw [drop_cons h1, drop_cons h2] at this
          exact this
        clear hcell hcell2 hc hc2 He
        generalize xs[k]?.getD 0 = x at *
        generalize ys[k]?.getD 0 = y at *
        go_wp2_with fail
        refine (cmpInt_any x y _).mono ?_
        rintro e w1 ⟨rfl, rfl⟩
        by_cases g1 : x < y
        · simp only [if_pos g1]
          have Hq := unhide Hst
          rw [if_pos g1] at Hq
          have HQ := hide Hq
          clear Hq Hst
          go_wp2
          go_ret
          exact ⟨ret_int (unhide HQ).symm, rfl⟩
        · have Hq := unhide Hst
          rw [if_neg g1] at Hq
          by_cases g2 : y < x
          · simp only [if_neg g1, if_pos g2]
            rw [if_pos g2] at Hq
            have HQ := hide Hq
            clear Hq Hst
            go_wp2
            go_ret
            exact ⟨ret_int (unhide HQ).symm, rfl⟩
          · simp only [if_neg g1, if_neg g2]
            rw [if_neg g2] at Hq
            have HQ := hide Hq
            clear Hq Hst
            go_wp2
            go_round
            case rel => exact ⟨k + 1, by omega, by omega, by go_num, unhide HQ⟩
            case measure => simp [intOf]; omega
      · obtain rfl : k = ys.length := by omega
        have HQ : Hid (lexc xs ys = 1) := by
          have := unhide He
          rw [drop_cons h1, drop_nil] at this
          exact this
        clear hcell hc hc2 He
        generalize xs[ys.length]?.getD 0 = x at *
        go_wp2
        go_ret
        exact ⟨ret_int (unhide HQ).symm, rfl⟩
    · obtain rfl : k = xs.length := by omega
      clear hc hc2
      by_cases h2 : xs.length < ys.length
      · have h2' : (xs.length : Int) < (ys.length : Int) := by omega
        have HQ : Hid (lexc xs ys = -1) := by
          have := unhide He
          rw [drop_nil, drop_cons h2] at this
          exact this
        go_wp2
        go_ret
        exact ⟨ret_int (unhide HQ).symm, rfl⟩
      · have h2' : ¬ (xs.length : Int) < (ys.length : Int) := by omega
        have HQ : Hid (lexc xs ys = 0) := by
          have := unhide He
          rw [drop_nil, show xs.length = ys.length by omega, drop_nil] at this
          exact this
        go_wp2
        go_ret
        exact ⟨ret_int (unhide HQ).symm, rfl⟩

set_option maxHeartbeats 1000000 in
set_option maxRecDepth 100000 in
theorem l3less_any (u v : Value) (xs ys : List Int) (w : World) (hu : SlAt mI 0 0 w.heap.size w u xs) (hv : SlAt mI 0 0 w.heap.size w v ys) :
    Calls Tryz.prog 52 #[u, v] w fun e w' => RetB e (lexc xs ys < 0) ∧ ∃ q, w' = w.drewN q := by
  obtain ⟨a, cap, rfl, hl, hc⟩ := hu
  obtain ⟨a2, cap2, rfl, hl2, hc2⟩ := hv
  unfold maxLen at hl hl2
  go_enter Tryz.func52, Tryz.ntmps52
  go_wp2_with fail
  go_loopw [5] (fun i wr => (∃ k : Nat, k ≤ xs.length ∧ k ≤ ys.length ∧ i = .int .i64 k ∧ lexc xs ys = lexc (xs.drop k) (ys.drop k)) ∧ ∃ q, wr = w.drewN q) (fun i _ => xs.length - (intOf i).toNat)
  case atStart => exact ⟨⟨0, Nat.zero_le _, Nat.zero_le _, rfl, rfl⟩, 0, rfl⟩
  case round =>
    obtain ⟨⟨k, hk, hk2, rfl, he⟩, q, rfl⟩ := hrel
    have He := hide he
    clear he
    by_cases h1 : k < xs.length
    · have h1' : (k : Int) < (xs.length : Int) := by omega
      obtain ⟨b, off, rfl, -, -, hcell⟩ := hc (by omega)
      have hx : w.cell? ⟨b, off + k, none⟩ = some (.int .i64 (xs[k]?.getD 0)) := hcell k h1
      by_cases h2 : k < ys.length
      · have h2' : (k : Int) < (ys.length : Int) := by omega
        obtain ⟨b2, off2, rfl, -, -, hcell2⟩ := hc2 (by omega)
        have hy : w.cell? ⟨b2, off2 + k, none⟩ = some (.int .i64 (ys[k]?.getD 0)) := hcell2 k h2
        have Hst : Hid (lexc xs ys = if xs[k]?.getD 0 < ys[k]?.getD 0 then -1 else if ys[k]?.getD 0 < xs[k]?.getD 0 then 1 else lexc (xs.drop (k + 1)) (ys.drop (k + 1))) := by
          have := unhide He
          rw [drop_cons h1, drop_cons h2] at this
          exact this
        clear hcell hcell2 hc hc2 He
        generalize xs[k]?.getD 0 = x at *
        generalize ys[k]?.getD 0 = y at *
        by_cases g0 : x = y
        · subst g0
          have Hq := unhide Hst
          rw [if_neg (Int.lt_irrefl _), if_neg (Int.lt_irrefl _)] at Hq
          have HQ := hide Hq
          clear Hq Hst
          go_wp2_with fail
          go_quiet (fail)
          go_wp2
          go_roundw
          case rel => exact ⟨⟨k + 1, by omega, by omega, by go_num, unhide HQ⟩, _, rfl⟩
          case measure => simp [intOf]; omega
        · have g0' : (x != y) = true := by simp [g0]
          have HQ : Hid (lexc xs ys < 0 ↔ x < y) := by
            have := unhide Hst
            by_cases g1 : x < y
            · rw [if_pos g1] at this
              exact ⟨fun _ => g1, fun _ => by omega⟩
            · rw [if_neg g1, if_pos (by omega)] at this
              exact ⟨fun h => by omega, fun h => absurd h g1⟩
          clear Hst
          go_wp2_with fail
          go_quiet (fail)
          go_wp2_with fail
          go_quiet (fail)
          go_wp2
          go_ret
          exact ⟨RetB.of (by rw [unhide HQ]; simp), _, drew3 _ _ _ _⟩
      · obtain rfl : k = ys.length := by omega
        have h2' : ¬ (xs.length : Int) < (ys.length : Int) := by omega
        have h3' : decide ((xs.length : Int) < (ys.length : Int)) = false := decide_eq_false h2'
        have HQ : Hid (lexc xs ys = 1) := by
          have := unhide He
          rw [drop_cons h1, drop_nil] at this
          exact this
        clear hcell hc hc2 He
        go_wp2
        go_ret
        exact ⟨RetB.no (by rw [unhide HQ]; omega), _, rfl⟩
    · obtain rfl : k = xs.length := by omega
      clear hc hc2
      have HQ : Hid (lexc xs ys < 0 ↔ xs.length < ys.length) := by
        have := unhide He
        by_cases h2 : xs.length < ys.length
        · rw [drop_nil, drop_cons h2] at this
          exact ⟨fun _ => h2, fun _ => by rw [this]; simp [lexc]⟩
        · rw [drop_nil, show xs.length = ys.length by omega, drop_nil] at this
          exact ⟨fun h => by rw [this] at h; simp [lexc] at h, fun h => absurd h h2⟩
      go_wp2
      go_ret
      exact ⟨RetB.of (by rw [unhide HQ]; simp), _, rfl⟩

set_option maxHeartbeats 1000000 in
set_option maxRecDepth 100000 in
theorem l1same_any (u v : Value) (xs ys : List Int) (w : World) (hu : SlAt mI 0 0 w.heap.size w u xs) (hv : SlAt mI 0 0 w.heap.size w v ys) :
    Calls Tryz.prog 53 #[u, v] w fun e w' => RetB e (xs = ys) ∧ ∃ q, w' = w.drewN q := by
  obtain ⟨a, cap, rfl, hl, hc⟩ := hu
  obtain ⟨a2, cap2, rfl, hl2, hc2⟩ := hv
  unfold maxLen at hl hl2
  by_cases hn : xs.length = ys.length
  · have hn' : ((xs.length : Int) != (ys.length : Int)) = false := by simp [hn]
    have HN := hide hn
    have hle1 : xs.length ≤ ys.length := by omega
    have hle2 : ys.length ≤ xs.length := by omega
    clear hn
    go_enter Tryz.func53, Tryz.ntmps53
    go_wp2_with fail
    go_loopw [5] (fun i wr => (∃ k : Nat, k ≤ xs.length ∧ i = .int .i64 k ∧ ∀ j : Nat, j < k → xs[j]?.getD 0 = ys[j]?.getD 0) ∧ ∃ q, wr = w.drewN q) (fun i _ => xs.length - (intOf i).toNat)
    case atStart => exact ⟨⟨0, Nat.zero_le _, rfl, fun j hj => absurd hj (Nat.not_lt_zero _)⟩, 0, rfl⟩
    case round =>
      obtain ⟨⟨k, hk, rfl, he⟩, q, rfl⟩ := hrel
      have He := hide he
      clear he
      by_cases h1 : k < xs.length
      · have h1' : (k : Int) < (xs.length : Int) := by omega
        have h2' : (k : Int) < (ys.length : Int) := by omega
        obtain ⟨b, off, rfl, -, -, hcell⟩ := hc (by omega)
        obtain ⟨b2, off2, rfl, -, -, hcell2⟩ := hc2 (by omega)
        have hx : w.cell? ⟨b, off + k, none⟩ = some (.int .i64 (xs[k]?.getD 0)) := hcell k h1
        have hy : w.cell? ⟨b2, off2 + k, none⟩ = some (.int .i64 (ys[k]?.getD 0)) := hcell2 k (by omega)
        have Hst : Hid (xs[k]?.getD 0 = ys[k]?.getD 0 → ∀ j : Nat, j < k + 1 → xs[j]?.getD 0 = ys[j]?.getD 0) := fun h j hj => by
          by_cases e : j = k
          · subst e; exact h
          · exact unhide He j (by omega)
        have Hno : Hid (xs[k]?.getD 0 ≠ ys[k]?.getD 0 → xs ≠ ys) := fun h e => h (by rw [e])
        clear hcell hcell2 hc hc2 He
        generalize xs[k]?.getD 0 = x at *
        generalize ys[k]?.getD 0 = y at *
        by_cases g0 : x = y
        · subst g0
          have HQ := hide (unhide Hst rfl)
          clear Hst Hno
          go_wp2_with fail
          go_quiet (fail)
          go_wp2
          go_roundw
          case rel => exact ⟨⟨k + 1, by omega, by go_num, unhide HQ⟩, _, rfl⟩
          case measure => simp [intOf]; omega
        · have g0' : (x != y) = true := by simp [g0]
          have HQ := hide (unhide Hno g0)
          clear Hst Hno
          go_wp2_with fail
          go_quiet (fail)
          go_wp2
          go_ret
          exact ⟨RetB.no (unhide HQ), _, drew2 _ _ _⟩
      · obtain rfl : k = xs.length := by omega
        clear hc hc2
        have HQ : Hid (xs = ys) := by
          apply List.ext_getElem (unhide HN)
          intro i h1 h2
          have := unhide He i h1
          simpa [h1, h2] using this
        go_wp2
        go_ret
        exact ⟨RetB.yes (unhide HQ), _, rfl⟩
  · have hn' : ((xs.length : Int) != (ys.length : Int)) = true := by simp; omega
    clear hc hc2
    go_enter Tryz.func53, Tryz.ntmps53
    go_wp2
    go_ret
    exact ⟨RetB.no (fun h => hn (by rw [h])), 0, rfl⟩

set_option maxHeartbeats 1000000 in
set_option maxRecDepth 100000 in
theorem equal_any (u v : Value) (xs ys : List Int) (w : World) (hu : SlAt mI 0 0 w.heap.size w u xs) (hv : SlAt mI 0 0 w.heap.size w v ys) :
    Calls Tryz.prog 45 #[u, v] w fun e w' => RetB e (xs = ys) ∧ ∃ q, w' = w.drewN q := by
  obtain ⟨a, cap, rfl, hl, hc⟩ := hu
  obtain ⟨a2, cap2, rfl, hl2, hc2⟩ := hv
  unfold maxLen at hl hl2
  by_cases hn : xs.length = ys.length
  · have hn' : ((xs.length : Int) != (ys.length : Int)) = false := by simp [hn]
    have HN := hide hn
    have hle1 : xs.length ≤ ys.length := by omega
    have hle2 : ys.length ≤ xs.length := by omega
    clear hn
    go_enter Tryz.func45, Tryz.ntmps45
    go_wp2_with fail
    go_loopw [13] (fun i wr => (∃ k : Nat, k ≤ xs.length ∧ i = .int .i64 k ∧ ∀ j : Nat, j < k → xs[j]?.getD 0 = ys[j]?.getD 0) ∧ ∃ q, wr = w.drewN q) (fun i _ => xs.length - (intOf i).toNat)
    case atStart => exact ⟨⟨0, Nat.zero_le _, rfl, fun j hj => absurd hj (Nat.not_lt_zero _)⟩, 0, rfl⟩
    case round =>
      obtain ⟨⟨k, hk, rfl, he⟩, q, rfl⟩ := hrel
      have He := hide he
      clear he
      by_cases h1 : k < xs.length
      · have h1' : (k : Int) < (xs.length : Int) := by omega
        have h2' : (k : Int) < (ys.length : Int) := by omega
        obtain ⟨b, off, rfl, -, -, hcell⟩ := hc (by omega)
        obtain ⟨b2, off2, rfl, -, -, hcell2⟩ := hc2 (by omega)
        have hx : w.cell? ⟨b, off + k, none⟩ = some (.int .i64 (xs[k]?.getD 0)) := hcell k h1
        have hy : w.cell? ⟨b2, off2 + k, none⟩ = some (.int .i64 (ys[k]?.getD 0)) := hcell2 k (by omega)
        have Hst : Hid (xs[k]?.getD 0 = ys[k]?.getD 0 → ∀ j : Nat, j < k + 1 → xs[j]?.getD 0 = ys[j]?.getD 0) := fun h j hj => by
          by_cases e : j = k
          · subst e; exact h
          · exact unhide He j (by omega)
        have Hno : Hid (xs[k]?.getD 0 ≠ ys[k]?.getD 0 → xs ≠ ys) := fun h e => h (by rw [e])
        clear hcell hcell2 hc hc2 He
        generalize xs[k]?.getD 0 = x at *
        generalize ys[k]?.getD 0 = y at *
        by_cases g0 : x = y
        · subst g0
          have HQ := hide (unhide Hst rfl)
          clear Hst Hno
          go_wp2_with fail
          go_quiet (fail)
          go_wp2
          go_roundw
          case rel => exact ⟨⟨k + 1, by omega, by go_num, unhide HQ⟩, _, rfl⟩
          case measure => simp [intOf]; omega
        · have g0' : (x != y) = true := by simp [g0]
          have HQ := hide (unhide Hno g0)
          clear Hst Hno
          go_wp2_with fail
          go_quiet (fail)
          go_wp2
          go_ret
          exact ⟨RetB.no (unhide HQ), _, drew2 _ _ _⟩
      · obtain rfl : k = xs.length := by omega
        clear hc hc2
        have HQ : Hid (xs = ys) := by
          apply List.ext_getElem (unhide HN)
          intro i h1 h2
          have := unhide He i h1
          simpa [h1, h2] using this
        go_wp2
        go_ret
        exact ⟨RetB.yes (unhide HQ), _, rfl⟩
  · have hn' : ((xs.length : Int) != (ys.length : Int)) = true := by simp; omega
    clear hc hc2
    go_enter Tryz.func45, Tryz.ntmps45
    go_wp2
    go_ret
    exact ⟨RetB.no (fun h => hn (by rw [h])), 0, rfl⟩

end Go.Proofs.YtjefklagedidmaaGreat

namespace Go.Proofs.YtjefklagedidmaaGreat
open Go.RowKit

/-- The row cut to its first k. -/
theorem own_cut {base e g n cap k : Nat} {w : World} {xs : List Value} (h : w.ownsRow base e 1 (.slice (some ⟨g, 0, none⟩) n cap) n xs) (hk : k ≤ n) : w.ownsRow base e 1 (.slice (some ⟨g, 0, none⟩) k cap) k (xs.take k) := by
  have hlen := h.1
  rcases h.2 with ⟨e0, _⟩ | ⟨g', cap', cur, e0, hb, hg, hn, hm, hs, ht⟩
  · cases e0
  · cases e0
    refine ⟨by rw [List.length_take]; omega, .inr ⟨g, cap, cur, rfl, hb, hg, by omega, hm, hs, ?_⟩⟩
    rw [← ht, List.take_take]
    congr 1
    omega
/-- A store behind the row's end. -/
theorem own_past {base e g cap k j : Nat} {w : World} {xs : List Value} {u : Value} (h : w.ownsRow base e 1 (.slice (some ⟨g, 0, none⟩) k cap) k xs) (hj : k ≤ j) : (w.setCell ⟨g, j, none⟩ u).ownsRow base e 1 (.slice (some ⟨g, 0, none⟩) k cap) k xs := by
  have hlen := h.1
  rcases h.2 with ⟨e0, _⟩ | ⟨g', cap', cur, e0, hb, hg, hn, hm, hs, ht⟩
  · cases e0
  · cases e0
    refine ⟨hlen, .inr ⟨g, cap, cur.setIfInBounds j u, rfl, hb, ?_, hn, hm, by rw [Array.size_setIfInBounds]; exact hs, ?_⟩⟩
    · simp [World.setCell, Array.getElem?_modify, hg]
    · rw [Array.toList_setIfInBounds, List.take_set, ht]
      exact List.set_eq_of_length_le (by omega)
theorem own_pasts {base e g cap k : Nat} : ∀ {us : List Value} {j : Nat} {w : World} {xs : List Value}, w.ownsRow base e 1 (.slice (some ⟨g, 0, none⟩) k cap) k xs → k ≤ j → (w.setCells g j us).ownsRow base e 1 (.slice (some ⟨g, 0, none⟩) k cap) k xs
  | [], _, _, _, h, _ => h
  | _ :: us, j, _, _, h, hj => own_pasts (us := us) (j := j + 1) (own_past h hj) (by omega)
theorem chg_sets {g : Nat} : ∀ {us : List Value} {j : Nat} {w : World}, ChgF (fun k => k = g) w (w.setCells g j us)
  | [], _, _ => ChgF.refl _ _
  | u :: us, j, w => ((ChgF.refl (fun k => k = g) w).put (b := g) (o := j) rfl u).trans (chg_sets (us := us) (j := j + 1))

theorem own_at_s {base n e : Nat} {w : World} {v : Value} {xs : List Value} (h : w.ownsRow base e 1 v n xs) (hp : 0 < n) : ∃ g cap, v = .slice (some ⟨g, 0, none⟩) n cap ∧ ∀ j : Nat, j < n → w.cell? ⟨g, j, none⟩ = xs[j]? := by
  rcases h.2 with ⟨rfl, hz⟩ | ⟨g, cap, cur, rfl, hbg, hg, hnc, hcm, hcs, htake⟩
  · omega
  · exact ⟨g, cap, rfl, fun j hj => h.cellAt j (by omega)⟩

theorem row_at {base e g n cap j : Nat} {w : World} {xs : List Value} (h : w.ownsRow base e 1 (.slice (some ⟨g, 0, none⟩) n cap) n xs) (hj : j < n) : (∃ old, w.cell? ⟨g, j, none⟩ = some old) ∧ ∀ i, w.frozen? ⟨g, i, none⟩ = false := by
  have hlen := h.1
  constructor
  · obtain ⟨_, _, e1, hcl⟩ := own_at_s h (by omega)
    cases e1
    exact ⟨xs[j], by rw [hcl j hj, List.getElem?_eq_getElem (by omega)]⟩
  · intro i
    rcases h.2 with ⟨e0, _⟩ | ⟨g', cap', cur, e0, hb, hg, -⟩
    · cases e0
    · cases e0
      exact frz ⟨cur, _, hg⟩

def dC : Cl Int := ⟨.slice none 0 0, [], 0⟩
/-- Whether the j-th is kept: it is no other list than the one before it. -/
def kpc (ps : List (Cl Int)) (j : Nat) : Bool := decide (j = 0) || decide ((ps[j]?.getD dC).xs ≠ (ps[j - 1]?.getD dC).xs)
def KpC (ps : List (Cl Int)) (j : Nat) : Prop := kpc ps j = true
theorem kpc_iff {ps : List (Cl Int)} {j : Nat} : KpC ps j ↔ j = 0 ∨ (ps[j]?.getD dC).xs ≠ (ps[j - 1]?.getD dC).xs := by unfold KpC kpc; simp
/-- What is kept of the first m. -/
def cpt (ps : List (Cl Int)) : Nat → List (Cl Int)
  | 0 => []
  | m + 1 => if kpc ps m = true then cpt ps m ++ [ps[m]?.getD dC] else cpt ps m
theorem cpt_keep {ps : List (Cl Int)} {m : Nat} (h : KpC ps m) : cpt ps (m + 1) = cpt ps m ++ [ps[m]?.getD dC] := by simp only [cpt]; exact if_pos h
theorem cpt_skip {ps : List (Cl Int)} {m : Nat} (h : ¬ KpC ps m) : cpt ps (m + 1) = cpt ps m := by simp only [cpt]; exact if_neg h
theorem cpt_all {ps : List (Cl Int)} {m : Nat} (hm : m ≤ ps.length) (h : ∀ j, j < m → KpC ps j) : cpt ps m = ps.take m := by
  induction m with
  | zero => simp [cpt]
  | succ m ih =>
    rw [cpt_keep (h m (Nat.lt_succ_self _)), ih (by omega) (fun j hj => h j (by omega)), List.take_add_one]
    simp [show m < ps.length by omega]
theorem cpt_le {ps : List (Cl Int)} (m : Nat) : (cpt ps m).length ≤ m := by
  induction m with
  | zero => simp [cpt]
  | succ m ih =>
    by_cases h : KpC ps m
    · rw [cpt_keep h]; simp; omega
    · rw [cpt_skip h]; omega

theorem equal_yes (u v : Value) (xs ys : List Int) (w : World) (hu : SlAt mI 0 0 w.heap.size w u xs) (hv : SlAt mI 0 0 w.heap.size w v ys) (h : xs = ys) :
    Calls Tryz.prog 45 #[u, v] w fun e w' => e = .returned (.bool true) ∧ ∃ q, w' = w.drewN q :=
  (equal_any u v xs ys w hu hv).mono (fun _ _ ⟨h1, h2⟩ => ⟨by
    rcases h1.cases with ⟨h3, -⟩ | ⟨-, h4⟩
    · exact h3
    · exact absurd h h4, h2⟩)
theorem equal_no (u v : Value) (xs ys : List Int) (w : World) (hu : SlAt mI 0 0 w.heap.size w u xs) (hv : SlAt mI 0 0 w.heap.size w v ys) (h : ¬ xs = ys) :
    Calls Tryz.prog 45 #[u, v] w fun e w' => e = .returned (.bool false) ∧ ∃ q, w' = w.drewN q :=
  (equal_any u v xs ys w hu hv).mono (fun _ _ ⟨h1, h2⟩ => ⟨by
    rcases h1.cases with ⟨-, h4⟩ | ⟨h3, -⟩
    · exact absurd h4 h
    · exact h3, h2⟩)

/-- While it is compacted: kk are kept of the first m; dk is what the row holds. -/
structure CI (ps : List (Cl Int)) (m kk : Nat) (dk : List (Cl Int)) : Prop where
  len : dk.length = ps.length
  kept : (cpt ps m).length = kk
  low : dk.take kk = cpt ps m
  high : ∀ j, m ≤ j + 1 → j < ps.length → dk[j]?.getD dC = ps[j]?.getD dC
  lt : kk < m
  le : m ≤ ps.length
theorem CI.start {ps : List (Cl Int)} {k : Nat} (hk : k < ps.length) (hall : ∀ j, j < k → KpC ps j) (hno : ¬ KpC ps k) : CI ps (k + 1) k ps := by
  have e := cpt_all (by omega) hall
  exact ⟨rfl, by rw [cpt_skip hno, e]; simp; omega, by rw [cpt_skip hno, e], fun _ _ _ => rfl, by omega, by omega⟩
theorem CI.skip {ps : List (Cl Int)} {m kk : Nat} {dk : List (Cl Int)} (h : CI ps m kk dk) (hm : m < ps.length) (hno : ¬ KpC ps m) : CI ps (m + 1) kk dk :=
  ⟨h.len, by rw [cpt_skip hno]; exact h.kept, by rw [cpt_skip hno]; exact h.low, fun j h1 h2 => h.high j (by omega) h2, by have := h.lt; omega, by omega⟩
theorem CI.keep {ps : List (Cl Int)} {m kk : Nat} {dk : List (Cl Int)} (h : CI ps m kk dk) (hm : m < ps.length) (hy : KpC ps m) : CI ps (m + 1) (kk + 1) (dk.set kk (ps[m]?.getD dC)) := by
  have h1 := h.lt
  have h2 := h.len
  refine ⟨by simpa using h2, by rw [cpt_keep hy]; simp [h.kept], ?_, fun j k1 k2 => ?_, by omega, by omega⟩
  · rw [cpt_keep hy, ← h.low]
    apply List.ext_getElem
    · simp; omega
    · intro i i1 i2
      simp at i1 i2
      by_cases e : i = kk
      · subst e
        rw [List.getElem_append_right (by simp; omega)]
        simp
      · rw [List.getElem_take, List.getElem_set_ne (by omega), List.getElem_append_left (by simp; omega), List.getElem_take]
  · rw [List.getElem?_set_ne (by omega)]
    exact h.high j (by omega) k2

/-- Whatever is said of a world and holds of it where the block g alone has turned. -/
theorem ok_chg {w w' : World} {g : Nat} {p : Cl Int} (h : p.ok mI 0 3 w) (hne : 0 < p.xs.length → p.b ≠ g) (hc : ChgF (fun k => k = g) w w') : p.ok mI 0 3 w' := h.same (fun hp => hc.block _ (fun e => hne hp e))

theorem zeroIntS (w : World) : (zeroValue 41).run Tryz.prog w = .ok (.slice none 0 0) w := Tryz.zeroValue41 w

set_option maxHeartbeats 4000000 in
set_option maxRecDepth 100000 in
theorem compactF_any (base g cap : Nat) (ps : List (Cl Int)) (w : World) (hown : w.ownsRow base 41 1 (.slice (some ⟨g, 0, none⟩) ps.length cap) ps.length (ps.map Cl.v)) (hok : ∀ p ∈ ps, p.ok mI 0 3 w) (hne : ∀ p ∈ ps, 0 < p.xs.length → p.b ≠ g) (hl : ps.length ≤ 1048576) :
    Calls Tryz.prog 44 #[.slice (some ⟨g, 0, none⟩) ps.length cap, .func (.func 45) #[] #[]] w fun e w' => e = .returned (.slice (some ⟨g, 0, none⟩) (cpt ps ps.length).length cap) ∧ w'.ownsRow base 41 1 (.slice (some ⟨g, 0, none⟩) (cpt ps ps.length).length cap) (cpt ps ps.length).length ((cpt ps ps.length).map Cl.v) ∧ ChgF (fun k => k = g) w w' := by
  obtain ⟨hcp, hcm⟩ := (own_cap hown).le
  unfold maxLen at hcm
  have Hown := hide hown
  have Hok := hide hok
  have Hne := hide hne
  have hrd : Hid (∀ j : Nat, j < ps.length → w.cell? ⟨g, j, none⟩ = some (ps[j]?.getD dC).v) := fun j hj => by
    obtain ⟨g', c', e, hc⟩ := own_at_s hown (by omega)
    cases e
    rw [hc j hj, List.getElem?_map, List.getElem?_eq_getElem hj]
    rfl
  clear hown hok hne
  by_cases h2 : ps.length < 2
  · have h2' : (ps.length : Int) < 2 := by omega
    have e : cpt ps ps.length = ps := by
      rw [cpt_all (Nat.le_refl _) (fun j hj => kpc_iff.2 (Or.inl (by omega))), List.take_length]
    rw [e]
    go_enter Tryz.func44, Tryz.ntmps44
    go_wp2
    go_ret
    exact ⟨rfl, unhide Hown, ChgF.refl _ _⟩
  · have h2' : ¬ (ps.length : Int) < 2 := by omega
    go_enter Tryz.func44, Tryz.ntmps44
    go_wp2_with fail
    go_loopw [5] (fun i wr => (∃ k : Nat, 1 ≤ k ∧ k ≤ ps.length ∧ i = .int .i64 k ∧ ∀ j : Nat, j < k → KpC ps j) ∧ ∃ q, wr = w.drewN q) (fun i _ => ps.length - (intOf i).toNat)
    case atStart => exact ⟨⟨1, Nat.le_refl _, by omega, rfl, fun j hj => kpc_iff.2 (Or.inl (by omega))⟩, 0, rfl⟩
    case round =>
      obtain ⟨⟨k, hk1, hk, rfl, hall⟩, q, rfl⟩ := hrel
      have Hall := hide hall
      clear hall
      by_cases hlt : k < ps.length
      · obtain ⟨k, rfl⟩ : ∃ j, k = j + 1 := ⟨k - 1, by omega⟩
        have hlt' : (k : Int) + 1 < (ps.length : Int) := by omega
        have hlt0 : (k : Int) < (ps.length : Int) := by omega
        have hp1 : (0 : Int) ≤ (k : Int) + 1 := by omega
        have hki : IntKind.i64.wrap (k : Int) = (k : Int) := k64i (by omega) (by omega)
        have hx := unhide hrd (k + 1) hlt
        have hy := unhide hrd k (by omega)
        have hm1 : ps[k + 1]?.getD dC ∈ ps := by rw [List.getElem?_eq_getElem hlt]; exact List.getElem_mem hlt
        have hm2 : ps[k]?.getD dC ∈ ps := by rw [List.getElem?_eq_getElem (by omega)]; exact List.getElem_mem _
        have S1 := hide (unhide Hok _ hm1).at
        have S2 := hide (unhide Hok _ hm2).at
        have HK : Hid (KpC ps (k + 1) ↔ (ps[k + 1]?.getD dC).xs ≠ (ps[k]?.getD dC).xs) := by rw [kpc_iff]; exact ⟨fun h => h.resolve_left (by omega), Or.inr⟩
        clear hm1 hm2
        generalize ps[k + 1]?.getD dC = p at *
        generalize ps[k]?.getD dC = r at *
        obtain ⟨a1, c1, e1⟩ : ∃ a c, p.v = .slice a p.xs.length c := by obtain ⟨a, c, e, -⟩ := unhide S1; exact ⟨a, c, e⟩
        obtain ⟨a2, c2, e2⟩ : ∃ a c, r.v = .slice a r.xs.length c := by obtain ⟨a, c, e, -⟩ := unhide S2; exact ⟨a, c, e⟩
        rw [e1] at hx S1
        rw [e2] at hy S2
        clear e1 e2
        obtain ⟨W, hW⟩ : ∃ W, w.drewN q = W := ⟨_, rfl⟩
        have HW := hide hW
        replace hx : W.cell? ⟨g, k + 1, none⟩ = some (.slice a1 p.xs.length c1) := by rw [← hW]; exact hx
        replace hy : W.cell? ⟨g, k, none⟩ = some (.slice a2 r.xs.length c2) := by rw [← hW]; exact hy
        replace S1 : Hid (SlAt mI 0 0 W.heap.size W (.slice a1 p.xs.length c1) p.xs) := by rw [← hW]; exact unhide S1
        replace S2 : Hid (SlAt mI 0 0 W.heap.size W (.slice a2 r.xs.length c2) r.xs) := by rw [← hW]; exact unhide S2
        rw [hW]
        clear hW
        by_cases hdup : p.xs = r.xs
        · have hno : Hid (¬ KpC ps (k + 1)) := fun h => (unhide HK).1 h hdup
          have Hdup := hide hdup
          clear HK hdup
          go_wp2_with fail
          go_quiet ((go_at_call 45; refine Calls.quiet_of (equal_yes _ _ _ _ _ (by exact unhide S1) (by exact unhide S2) (unhide Hdup))))
          go_wp2_with fail
          have hci := hide (CI.start hlt (unhide Hall) (unhide hno))
          have HW2 : Hid (ChgF (fun k => k = g) w (W.drewN nq)) := by rw [← unhide HW]; exact ⟨rfl, rfl, rfl, rfl, fun _ _ => rfl⟩
          have Hown2 : Hid ((W.drewN nq).ownsRow base 41 1 (.slice (some ⟨g, 0, none⟩) ps.length cap) ps.length (ps.map Cl.v)) := by rw [← unhide HW]; exact unhide Hown
          clear hx hy S1 S2 HW Hdup hno Hall hrd hki hp1 hlt0 hlt'
          generalize W.drewN nq = V at *
          obtain ⟨L, hL⟩ : ∃ L, ps.length - (k + 1) = L := ⟨_, rfl⟩
          have hL2 : ps.length = k + 1 + L := by omega
          have HL2 := hide hL2
          have hnle : k + 1 + L ≤ ps.length := by omega
          have hnge : ps.length ≤ k + 1 + L := by omega
          rw [hL]
          clear hL hL2
          go_loopw [5, 7] (fun kv k2v wr => ∃ (kk j : Nat) (dk : List (Cl Int)), kv = .int .i64 kk ∧ k2v = .int .i64 ((j : Int) + 1) ∧ j + 1 ≤ L ∧ CI ps (k + 1 + (j + 1)) kk dk ∧ wr.ownsRow base 41 1 (.slice (some ⟨g, 0, none⟩) ps.length cap) ps.length (dk.map Cl.v) ∧ ChgF (fun k => k = g) w wr) (fun _ k2v _ => L - (intOf k2v).toNat)
          case atStart => exact ⟨k + 1, 0, ps, by go_num, rfl, by omega, unhide hci, unhide Hown2, unhide HW2⟩
          case round =>
            clear hci Hown2 HW2
            obtain ⟨kk, j, dk, rfl, rfl, hjL, hci, hown, hch⟩ := hrel
            have hkk := hci.lt
            have Hci := hide hci
            have Hown' := hide hown
            have Hch := hide hch
            by_cases hj : j + 1 < L
            · have hj' : (j : Int) + 1 < (L : Int) := by omega
              have hj0 : (j : Int) < (L : Int) := by omega
              have hp1 : (0 : Int) ≤ (j : Int) + 1 := by omega
              have hki : IntKind.i64.wrap (j : Int) = (j : Int) := k64i (by omega) (by omega)
              have hkn : (kk : Int) < (ps.length : Int) := by omega
              obtain ⟨g', c', e, hcl⟩ := own_at_s hown (by omega)
              cases e
              have hx : wr.cell? ⟨g, k + 1 + (j + 1), none⟩ = some (ps[k + 1 + (j + 1)]?.getD dC).v := by
                rw [hcl _ (by omega), List.getElem?_map, List.getElem?_eq_getElem (by rw [hci.len]; omega), ← hci.high _ (by omega) (by omega), List.getElem?_eq_getElem (by rw [hci.len]; omega)]
                rfl
              have hy : wr.cell? ⟨g, k + 1 + j, none⟩ = some (ps[k + 1 + j]?.getD dC).v := by
                rw [hcl _ (by omega), List.getElem?_map, List.getElem?_eq_getElem (by rw [hci.len]; omega), ← hci.high _ (by omega) (by omega), List.getElem?_eq_getElem (by rw [hci.len]; omega)]
                rfl
              obtain ⟨old, hold⟩ : ∃ old, wr.cell? ⟨g, kk, none⟩ = some old := ⟨_, by rw [hcl _ (by omega), List.getElem?_map, List.getElem?_eq_getElem (by rw [hci.len]; omega)]; rfl⟩
              have hfz : wr.frozen? ⟨g, kk, none⟩ = false := by
                rcases hown.2 with ⟨e0, _⟩ | ⟨g', cap', cur, e0, hb, hg, -⟩
                · cases e0
                · cases e0
                  exact frz ⟨cur, _, hg⟩
              have hm1 : ps[k + 1 + (j + 1)]?.getD dC ∈ ps := by rw [List.getElem?_eq_getElem (by omega)]; exact List.getElem_mem _
              have hm2 : ps[k + 1 + j]?.getD dC ∈ ps := by rw [List.getElem?_eq_getElem (by omega)]; exact List.getElem_mem _
              have S1 := hide (ok_chg (unhide Hok _ hm1) (unhide Hne _ hm1) hch).at
              have S2 := hide (ok_chg (unhide Hok _ hm2) (unhide Hne _ hm2) hch).at
              have HK : Hid (KpC ps (k + 1 + (j + 1)) ↔ (ps[k + 1 + (j + 1)]?.getD dC).xs ≠ (ps[k + 1 + j]?.getD dC).xs) := by
                rw [kpc_iff, show k + 1 + (j + 1) - 1 = k + 1 + j by omega]
                exact ⟨fun h => h.resolve_left (by omega), Or.inr⟩
              have Hkeep : Hid (KpC ps (k + 1 + (j + 1)) → CI ps (k + 1 + (j + 1 + 1)) (kk + 1) (dk.set kk (ps[k + 1 + (j + 1)]?.getD dC))) := fun h => hci.keep (by omega) h
              have Hskip : Hid (¬ KpC ps (k + 1 + (j + 1)) → CI ps (k + 1 + (j + 1 + 1)) kk dk) := fun h => hci.skip (by omega) h
              clear hm1 hm2 hcl hci hown hch
              generalize ps[k + 1 + (j + 1)]?.getD dC = p at *
              generalize ps[k + 1 + j]?.getD dC = r at *
              obtain ⟨a1, c1, e1⟩ : ∃ a c, p.v = .slice a p.xs.length c := by obtain ⟨a, c, e, -⟩ := unhide S1; exact ⟨a, c, e⟩
              obtain ⟨a2, c2, e2⟩ : ∃ a c, r.v = .slice a r.xs.length c := by obtain ⟨a, c, e, -⟩ := unhide S2; exact ⟨a, c, e⟩
              have E1 := hide e1
              rw [e1] at hx S1
              rw [e2] at hy S2
              clear e1 e2
              by_cases hdup : p.xs = r.xs
              · have hn := hide (unhide Hskip (fun h => (unhide HK).1 h hdup))
                have Hdup := hide hdup
                clear HK hdup Hkeep Hskip
                go_wp2_with fail
                go_quiet ((go_at_call 45; refine Calls.quiet_of (equal_yes _ _ _ _ _ (by exact unhide S1) (by exact unhide S2) (unhide Hdup))))
                go_wp2
                go_roundw
                case rel => exact ⟨kk, j + 1, dk, rfl, by go_num, by omega, unhide hn, unhide Hown', ⟨(unhide Hch).os, (unhide Hch).tape, (unhide Hch).output, (unhide Hch).size, (unhide Hch).block⟩⟩
                case measure => simp [intOf]; omega
              · have hn := hide (unhide Hkeep ((unhide HK).2 hdup))
                have Hdup := hide hdup
                clear HK hdup Hkeep Hskip
                go_wp2_with fail
                go_quiet ((go_at_call 45; refine Calls.quiet_of (equal_no _ _ _ _ _ (by exact unhide S1) (by exact unhide S2) (unhide Hdup))))
                go_wp2
                go_roundw
                case rel => exact ⟨kk + 1, j + 1, dk.set kk p, by go_num, by go_num, by omega, unhide hn, by rw [List.map_set, unhide E1]; exact own_set (w := wr.drewN nq) (unhide Hown') (by omega), (ChgF.trans (b := wr.drewN nq) ⟨(unhide Hch).os, (unhide Hch).tape, (unhide Hch).output, (unhide Hch).size, (unhide Hch).block⟩ ((ChgF.refl (fun k => k = g) _).put (b := g) rfl _))⟩
                case measure => simp [intOf]; omega
            · have hjL2 : j + 1 = L := by omega
              subst hjL2
              have hfin : Hid (CI ps ps.length kk dk) := by
                have e : k + 1 + (j + 1) = ps.length := by omega
                rw [← e]
                exact hci
              have hkn : kk < ps.length := by omega
              have hkn' : (kk : Int) < (ps.length : Int) := by omega
              have hkc : (kk : Int) ≤ (cap : Int) := by omega
              have hcl : ∀ ty, (Builtin.clear_ #[26] ty #[.slice (some ⟨g, kk, none⟩) (ps.length - kk) (cap - kk)]).run Tryz.prog wr = .ok (.tuple #[]) (wr.setCells g kk (List.replicate (ps.length - kk) (.slice none 0 0))) := fun ty => by
                have hown2 := hown
                obtain ⟨g', c', e, hc2⟩ := own_at_s hown (by omega)
                cases e
                refine Lib.run_clear_slice wr _ _ ty _ Tryz.underlying26 (fun w => zeroIntS w) rfl rfl g kk _ _ (by omega) (fun i hi => ?_) (fun i hi => ?_)
                · rw [hc2 _ (by omega), List.getElem?_map, List.getElem?_eq_getElem (by rw [hci.len]; omega)]
                  rfl
                · rcases hown2.2 with ⟨e0, _⟩ | ⟨g', cap', cur, e0, hb, hg, -⟩
                  · cases e0
                  · cases e0
                    exact frz ⟨cur, _, hg⟩
              clear hci hown hch
              go_wp2
              go_ret
              have h1 := (unhide hfin).kept
              have h2 := (unhide hfin).low
              rw [h1]
              refine ⟨rfl, ?_, (unhide Hch).trans chg_sets⟩
              have h3 := own_cut (k := kk) (unhide Hown') (by omega)
              rw [← List.map_take, h2] at h3
              exact own_pasts h3 (Nat.le_refl _)
        · have hyes : Hid (KpC ps (k + 1)) := (unhide HK).2 hdup
          have Hdup := hide hdup
          clear HK hdup
          go_wp2_with fail
          go_quiet ((go_at_call 45; refine Calls.quiet_of (equal_no _ _ _ _ _ (by exact unhide S1) (by exact unhide S2) (unhide Hdup))))
          go_wp2
          go_roundw
          case rel => exact ⟨⟨k + 1 + 1, by omega, by omega, by go_num, fun j hj => by
            by_cases e : j = k + 1
            · subst e; exact unhide hyes
            · exact unhide Hall j (by omega)⟩, q + nq, by rw [← unhide HW, drew2]⟩
          case measure => simp [intOf]; omega
      · obtain rfl : k = ps.length := by omega
        have e : Hid (cpt ps ps.length = ps) := by show cpt ps ps.length = ps; rw [cpt_all (Nat.le_refl _) (unhide Hall), List.take_length]
        go_wp2
        go_ret
        rw [unhide e]
        exact ⟨rfl, unhide Hown, ⟨rfl, rfl, rfl, rfl, fun _ _ => rfl⟩⟩

end Go.Proofs.YtjefklagedidmaaGreat

namespace Go.Proofs.YtjefklagedidmaaGreat
open Go.RowKit

/-- Lists in lexicographic order, each once. -/
def LAsc (rs : List (List Int)) : Prop := rs.Pairwise (fun a b => lexc a b < 0)
theorem lasc_uniq : ∀ {xs ys : List (List Int)}, LAsc xs → LAsc ys → (∀ z, z ∈ xs ↔ z ∈ ys) → xs = ys
  | [], [], _, _, _ => rfl
  | [], y :: ys, _, _, h => absurd ((h y).2 (by simp)) (by simp)
  | x :: xs, [], _, _, h => absurd ((h x).1 (by simp)) (by simp)
  | x :: xs, y :: ys, hx, hy, h => by
    have hx' := List.pairwise_cons.1 hx
    have hy' := List.pairwise_cons.1 hy
    have hself : ∀ a : List Int, ¬ lexc a a < 0 := fun a => by rw [lexc_zero.2 rfl]; omega
    have e : x = y := by
      rcases List.mem_cons.1 ((h x).1 (by simp)) with e | m1
      · exact e
      · rcases List.mem_cons.1 ((h y).2 (by simp)) with e | m2
        · exact e.symm
        · exact absurd (lexc_trans (hx'.1 y m2) (hy'.1 x m1)) (hself x)
    subst e
    congr 1
    refine lasc_uniq hx'.2 hy'.2 (fun z => ⟨fun m => ?_, fun m => ?_⟩)
    · rcases List.mem_cons.1 ((h z).1 (List.mem_cons_of_mem _ m)) with e | m'
      · subst e; exact absurd (hx'.1 z m) (hself z)
      · exact m'
    · rcases List.mem_cons.1 ((h z).2 (List.mem_cons_of_mem _ m)) with e | m'
      · subst e; exact absurd (hy'.1 z m) (hself z)
      · exact m'

/-- While a place is made: the row, with j the hole. -/
def hole {α : Type} (ps : List α) (d : α) (j : Nat) : List α := (ps ++ [d]).take (j + 1) ++ ps.drop j
theorem hole_len {α : Type} (ps : List α) (d : α) {j : Nat} (hj : j ≤ ps.length) : (hole ps d j).length = ps.length + 1 := by simp [hole]; omega
theorem hole_start {α : Type} (ps : List α) (d : α) : hole ps d ps.length = ps ++ [d] := by unfold hole; rw [List.take_of_length_le (by simp), List.drop_length, List.append_nil]
theorem hole_before {α : Type} (ps : List α) (d : α) {j : Nat} (hj : j < ps.length) : (hole ps d (j + 1))[j]? = some (ps[j]) := by
  unfold hole
  rw [List.getElem?_append_left (by simp; omega), List.getElem?_take, if_pos (by omega), List.getElem?_append_left hj]
  simp [hj]
theorem hole_step {α : Type} (ps : List α) (d : α) {j : Nat} (hj : j < ps.length) : (hole ps d (j + 1)).set (j + 1) (ps[j]) = hole ps d j := by
  apply List.ext_getElem?
  intro i
  unfold hole
  by_cases h1 : i = j + 1
  · subst h1
    rw [List.getElem?_set_self (by simp; omega), List.getElem?_append_right (by simp; omega)]
    simp [show min (j + 1) (ps.length + 1) = j + 1 by omega, hj]
  · rw [List.getElem?_set_ne (by omega)]
    by_cases h2 : i < j + 1
    · rw [List.getElem?_append_left (by simp; omega), List.getElem?_append_left (by simp; omega), List.getElem?_take, List.getElem?_take, if_pos (by omega), if_pos (by omega)]
    · rw [List.getElem?_append_right (by simp; omega), List.getElem?_append_right (by simp; omega), List.getElem?_drop, List.getElem?_drop]
      congr 1
      simp
      omega
theorem hole_fill {α : Type} (ps : List α) (d c : α) {j : Nat} (hj : j ≤ ps.length) : (hole ps d j).set j c = ps.take j ++ c :: ps.drop j := by
  apply List.ext_getElem?
  intro i
  unfold hole
  by_cases h1 : i = j
  · subst h1
    rw [List.getElem?_set_self (by simp; omega), List.getElem?_append_right (by simp; omega)]
    simp [show min i ps.length = i by omega]
  · rw [List.getElem?_set_ne (by omega)]
    by_cases h2 : i < j
    · rw [List.getElem?_append_left (by simp; omega), List.getElem?_append_left (by simp; omega), List.getElem?_take, List.getElem?_take, if_pos (by omega), if_pos (by omega), List.getElem?_append_left (by omega)]
    · rw [List.getElem?_append_right (by simp; omega), List.getElem?_append_right (by simp; omega), List.getElem?_drop]
      obtain ⟨m, hm⟩ : ∃ m, i = j + 1 + m := ⟨i - (j + 1), by omega⟩
      subst hm
      rw [show j + 1 + m - (List.take j ps).length = m + 1 by simp; omega, List.getElem?_cons_succ, List.getElem?_drop]
      congr 1
      simp
      omega

/-- One list more, at its place. -/
theorem lasc_ins {rs : List (List Int)} {x : List Int} {at' : Nat} (h : LAsc rs) (hat : at' ≤ rs.length) (hlow : ∀ j : Nat, j < at' → lexc (rs[j]?.getD []) x < 0) (hhigh : at' < rs.length → lexc x (rs[at']?.getD []) < 0) : LAsc (rs.take at' ++ x :: rs.drop at') := by
  have h' : LAsc (rs.take at' ++ rs.drop at') := by rw [List.take_append_drop]; exact h
  obtain ⟨p1, p2, p3⟩ := List.pairwise_append.1 h'
  refine List.pairwise_append.2 ⟨p1, List.pairwise_cons.2 ⟨fun z hz => ?_, p2⟩, fun a ha b hb => ?_⟩
  · have hlt : at' < rs.length := by
      have := List.length_pos_of_mem hz
      simp at this
      omega
    have h1 := hhigh hlt
    rw [List.drop_eq_getElem_cons hlt] at hz p2
    have e : rs[at']?.getD [] = rs[at'] := by simp [hlt]
    rw [e] at h1
    rcases List.mem_cons.1 hz with e2 | m
    · rw [e2]; exact h1
    · exact lexc_trans h1 ((List.pairwise_cons.1 p2).1 z m)
  · have hlow' : ∀ a, a ∈ rs.take at' → lexc a x < 0 := fun a ha => by
      obtain ⟨j, hj, e⟩ := List.mem_iff_getElem.1 ha
      have hj' : j < at' := by simp at hj; omega
      have := hlow j hj'
      rw [List.getElem_take] at e
      rw [show rs[j]?.getD [] = a by rw [← e]; simp [show j < rs.length by simp at hj; omega]] at this
      exact this
    rcases List.mem_cons.1 hb with e | m
    · rw [e]; exact hlow' a ha
    · exact p3 a ha b m

end Go.Proofs.YtjefklagedidmaaGreat
