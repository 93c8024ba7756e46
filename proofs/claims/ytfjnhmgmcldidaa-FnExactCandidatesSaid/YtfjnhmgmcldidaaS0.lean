import Derived.Test.YtfjnhmgmcldidaaB0
import Derived.Deep.OwnRows
import Derived.WalkSmall
import Derived.Deep.QuietTactic
import Derived.BigQuiet
namespace Go.Proofs.Ytfjnhmgmcldidaa
open Go.RowKit

/-- v is a slice, element by element mk of xs, in a block from lo on and below n that nothing has frozen. -/
def SlW {α : Type} (mk : α → Value) (d : α) (lo n : Nat) (w : World) (v : Value) (xs : List α) : Prop :=
  ∃ a cap, v = .slice a xs.length cap ∧ xs.length ≤ maxLen ∧
    (0 < xs.length → ∃ b off, a = some ⟨b, off, none⟩ ∧ lo ≤ b ∧ b < n ∧ (∃ c t, w.heap[b]? = some (.cells c t (0, 0))) ∧ ∀ i : Nat, i < xs.length → w.cell? ⟨b, off + i, none⟩ = some (mk (xs[i]?.getD d)))

/-- Outside the blocks from lo on and below n the world w' is as w was. -/
structure Chg (lo n : Nat) (w w' : World) : Prop where
  os : w'.os = w.os
  tape : w'.tape = w.tape
  output : w'.output = w.output
  size : w'.heap.size = w.heap.size
  block : ∀ k, (k < lo ∨ n ≤ k) → w'.heap[k]? = w.heap[k]?

theorem Chg.refl (lo n : Nat) (w : World) : Chg lo n w w := ⟨rfl, rfl, rfl, rfl, fun _ _ => rfl⟩
theorem Chg.trans {lo n : Nat} {a b c : World} (h : Chg lo n a b) (k : Chg lo n b c) : Chg lo n a c :=
  ⟨k.os.trans h.os, k.tape.trans h.tape, k.output.trans h.output, k.size.trans h.size, fun i hi => (k.block i hi).trans (h.block i hi)⟩
theorem Chg.mono {lo n lo' n' : Nat} {a b : World} (h : Chg lo n a b) (h1 : lo' ≤ lo) (h2 : n ≤ n') : Chg lo' n' a b := ⟨h.os, h.tape, h.output, h.size, fun k hk => h.block k (by omega)⟩
theorem Chg.put {lo n : Nat} {a w : World} (h : Chg lo n a w) {b o : Nat} (h1 : lo ≤ b) (h2 : b < n) (u : Value) : Chg lo n a (w.setCell ⟨b, o, none⟩ u) :=
  h.trans ⟨rfl, rfl, rfl, by simp [World.setCell], fun k hk => Below.heap_setCell _ _ _ _ (by show k ≠ b; omega)⟩
theorem Chg.drewN {lo n : Nat} {a w : World} (h : Chg lo n a w) (q : Nat) : Chg lo n a (w.drewN q) := ⟨h.os, h.tape, h.output, h.size, h.block⟩
theorem Chg.below {lo n : Nat} {w w' : World} (h : Chg lo n w w') : Below lo w w' := ⟨h.os, h.tape, h.output, by rw [h.size]; exact Nat.le_refl _, fun k hk => h.block k (Or.inl hk)⟩

/-- From block lo on and below n the blocks of w' are those of w. -/
def SameB (lo n : Nat) (w w' : World) : Prop := ∀ k, lo ≤ k → k < n → w'.heap[k]? = w.heap[k]?
theorem SameB.of_below {lo n m : Nat} {w w' : World} (hb : Below m w w') (hm : n ≤ m) : SameB lo n w w' := fun k _ h => hb.block k (by omega)
theorem SameB.of_chg {lo n lo' n' : Nat} {w w' : World} (hc : Chg lo' n' w w') (h : n ≤ lo' ∨ n' ≤ lo) : SameB lo n w w' := fun k h1 h2 => hc.block k (by omega)

theorem SlW.same {α : Type} {mk : α → Value} {d : α} {lo n : Nat} {w w' : World} {v : Value} {xs : List α} (h : SlW mk d lo n w v xs) (hs : SameB lo n w w') : SlW mk d lo n w' v xs := by
  obtain ⟨a, cap, rfl, hl, hc⟩ := h
  refine ⟨a, cap, rfl, hl, fun hp => ?_⟩
  obtain ⟨b, off, rfl, h1, h2, ⟨c, t, hb⟩, hcell⟩ := hc hp
  have e := hs b h1 h2
  exact ⟨b, off, rfl, h1, h2, ⟨c, t, e.trans hb⟩, fun i hi => by rw [World.cell?_of_block (w := w) (a := ⟨b, off + i, none⟩) e]; exact hcell i hi⟩
theorem SlW.mono {α : Type} {mk : α → Value} {d : α} {lo n lo' n' : Nat} {w : World} {v : Value} {xs : List α} (h : SlW mk d lo n w v xs) (h1 : lo' ≤ lo) (h2 : n ≤ n') : SlW mk d lo' n' w v xs := by
  obtain ⟨a, cap, rfl, hl, hc⟩ := h
  refine ⟨a, cap, rfl, hl, fun hp => ?_⟩
  obtain ⟨b, off, rfl, h3, h4, h5, hcell⟩ := hc hp
  exact ⟨b, off, rfl, by omega, by omega, h5, hcell⟩

/-- v is a slice, element by element mk of xs, in a block from lo on and below n. -/
def SlAt {α : Type} (mk : α → Value) (d : α) (lo n : Nat) (w : World) (v : Value) (xs : List α) : Prop :=
  ∃ a cap, v = .slice a xs.length cap ∧ xs.length ≤ maxLen ∧
    (0 < xs.length → ∃ b off, a = some ⟨b, off, none⟩ ∧ lo ≤ b ∧ b < n ∧ ∀ i : Nat, i < xs.length → w.cell? ⟨b, off + i, none⟩ = some (mk (xs[i]?.getD d)))
theorem SlW.at {α : Type} {mk : α → Value} {d : α} {lo n : Nat} {w : World} {v : Value} {xs : List α} (h : SlW mk d lo n w v xs) : SlAt mk d lo n w v xs := by
  obtain ⟨a, cap, rfl, hl, hc⟩ := h
  refine ⟨a, cap, rfl, hl, fun hp => ?_⟩
  obtain ⟨b, off, rfl, h3, h4, h5, hcell⟩ := hc hp
  exact ⟨b, off, rfl, h3, h4, hcell⟩
theorem SlAt.same {α : Type} {mk : α → Value} {d : α} {lo n : Nat} {w w' : World} {v : Value} {xs : List α} (h : SlAt mk d lo n w v xs) (hs : Same lo n w w') : SlAt mk d lo n w' v xs := by
  obtain ⟨a, cap, rfl, hl, hc⟩ := h
  refine ⟨a, cap, rfl, hl, fun hp => ?_⟩
  obtain ⟨b, off, rfl, hlo, hbn, hcell⟩ := hc hp
  exact ⟨b, off, rfl, hlo, hbn, fun i hi => by rw [hs b _ hlo hbn]; exact hcell i hi⟩
theorem SlAt.mono {α : Type} {mk : α → Value} {d : α} {lo n lo' n' : Nat} {w : World} {v : Value} {xs : List α} (h : SlAt mk d lo n w v xs) (h1 : lo' ≤ lo) (h2 : n ≤ n') : SlAt mk d lo' n' w v xs := by
  obtain ⟨a, cap, rfl, hl, hc⟩ := h
  refine ⟨a, cap, rfl, hl, fun hp => ?_⟩
  obtain ⟨b, off, rfl, h3, h4, hcell⟩ := hc hp
  exact ⟨b, off, rfl, by omega, by omega, hcell⟩
theorem SlAt.below {α : Type} {mk : α → Value} {d : α} {lo m : Nat} {w w' : World} {v : Value} {xs : List α} (h : SlAt mk d lo w.heap.size w v xs) (hb : Below m w w') (hm : w.heap.size ≤ m) : SlAt mk d lo w'.heap.size w' v xs :=
  (h.same (Same.of_below hb hm)).mono (Nat.le_refl _) hb.size

/-- A slice whose length is within its capacity. -/
def CapOk (v : Value) : Prop := ∃ a n c, v = .slice a n c ∧ n ≤ c ∧ c ≤ maxLen
theorem CapOk.le {a : Option Addr} {n c : Nat} (h : CapOk (.slice a n c)) : n ≤ c ∧ c ≤ maxLen := by
  obtain ⟨a', n', c', e, h1⟩ := h
  cases e
  exact h1
theorem CapOk.mk {a : Option Addr} {n c : Nat} (h : n ≤ c) (h2 : c ≤ maxLen) : CapOk (.slice a n c) := ⟨a, n, c, rfl, h, h2⟩

def mI (x : Int) : Value := .int .i64 x
def mB (x : Int) : Value := .int .u8 x
def mT (x : Bool) : Value := .bool x

theorem frz {w : World} {b j : Nat} (h : ∃ c t, w.heap[b]? = some (.cells c t (0, 0))) : w.frozen? ⟨b, j, none⟩ = false := by
  obtain ⟨c, t, hb⟩ := h
  simp [World.frozen?, hb]

/-- The numbers k, k + 1, .. -/
def cnts (k : Int) (n : Nat) : List Int := (List.range n).map (fun i : Nat => k + (i : Int))
theorem cnts_len (k : Int) (n : Nat) : (cnts k n).length = n := by simp [cnts]
theorem cnts_get (k : Int) (n i : Nat) (h : i < n) : (cnts k n)[i]?.getD 0 = k + i := by simp [cnts, h]

theorem put_same {w : World} {b o : Nat} {u v : Value} (h : w.cell? ⟨b, o, none⟩ = some u) : (w.setCell ⟨b, o, none⟩ v).cell? ⟨b, o, none⟩ = some v := by
  apply World.cell?_setCell_same
  exact h
theorem put_other {w : World} {b o b' o' : Nat} {v : Value} (h : b ≠ b' ∨ o ≠ o') : (w.setCell ⟨b, o, none⟩ v).cell? ⟨b', o', none⟩ = w.cell? ⟨b', o', none⟩ := by
  apply World.cell?_setCell_other
  intro e
  simp only [Addr.mk.injEq] at e
  omega

/-- One store more into a row of its own. -/
theorem own_put {w : World} {b j : Nat} {u : Value} (h : ∃ c t, w.heap[b]? = some (.cells c t (0, 0))) : ∃ c t, (w.setCell ⟨b, j, none⟩ u).heap[b]? = some (.cells c t (0, 0)) := by
  obtain ⟨c, t, hb⟩ := h
  exact ⟨c.setIfInBounds j u, t, by simp [World.setCell, Array.getElem?_modify, hb]⟩

end Go.Proofs.Ytfjnhmgmcldidaa
