import Derived.Test.YtbgjgaejfkdceaaGreatRows
import Derived.WalkKit
import Derived.ProofKit
import Derived.Below
import Derived.Deep.OwnRows
import Derived.WalkSmall
import Derived.Deep.QuietTactic
import Derived.BigQuiet
namespace Go.Proofs.YtbgjgaejfkdceaaGreat
open Go.RowKit

/-- One element of a postfix tree, as data. -/
structure El where
  kind : Int
  set : List Int
  mn : Int
  mx : Int

def dE : El := ⟨0, [], 0, 0⟩

def In64 (x : Int) : Prop := -9223372036854775808 ≤ x ∧ x ≤ 9223372036854775807

/-- v is a slice of ints that reads as xs, in a block from lo on and below n. -/
def IntsAt (lo n : Nat) (w : World) (v : Value) (xs : List Int) : Prop :=
  ∃ a cap, v = .slice a xs.length cap ∧ xs.length ≤ maxLen ∧ (∀ i : Nat, In64 (xs[i]?.getD 0)) ∧
    (0 < xs.length → ∃ b off, a = some ⟨b, off, none⟩ ∧ lo ≤ b ∧ b < n ∧ ∀ i : Nat, i < xs.length → w.cell? ⟨b, off + i, none⟩ = some (.int .i64 (xs[i]?.getD 0)))

/-- The four cells of an element at ⟨b, o⟩. -/
def ElAt (lo n : Nat) (w : World) (b o : Nat) (x : El) : Prop :=
  In64 x.kind ∧ In64 x.mn ∧ In64 x.mx ∧ ∃ v, w.cell? ⟨b, o, none⟩ = some (.int .i64 x.kind) ∧ w.cell? ⟨b, o + 1, none⟩ = some v ∧
    w.cell? ⟨b, o + 2, none⟩ = some (.int .i64 x.mn) ∧ w.cell? ⟨b, o + 3, none⟩ = some (.int .i64 x.mx) ∧ IntsAt lo n w v x.set

/-- v is a slice of elements that reads as xs, in blocks from lo on and below n. -/
def ElsAt (lo n : Nat) (w : World) (v : Value) (xs : List El) : Prop :=
  ∃ a cap, v = .slice a xs.length cap ∧ (xs.length ≤ cap ∧ cap ≤ maxLen) ∧
    (0 < xs.length → ∃ b off, a = some ⟨b, off, none⟩ ∧ lo ≤ b ∧ b < n ∧ ∀ i : Nat, i < xs.length → ElAt lo n w b (off + i * 4) (xs[i]?.getD dE))

/-- From block lo on and below n the cells of w' are those of w. -/
def Same (lo n : Nat) (w w' : World) : Prop := ∀ b o, lo ≤ b → b < n → w'.cell? ⟨b, o, none⟩ = w.cell? ⟨b, o, none⟩

theorem Same.of_below {lo n m : Nat} {w w' : World} (hb : Below m w w') (hm : n ≤ m) : Same lo n w w' := fun b o _ h => hb.cell (p := ⟨b, o, none⟩) (by show b < m; omega)
theorem Same.refl (lo n : Nat) (w : World) : Same lo n w w := fun _ _ _ _ => rfl
theorem Same.trans {lo n : Nat} {a b c : World} (h : Same lo n a b) (k : Same lo n b c) : Same lo n a c := fun x o h1 h2 => (k x o h1 h2).trans (h x o h1 h2)
theorem Same.mono {lo n lo' n' : Nat} {a b : World} (h : Same lo n a b) (h1 : lo ≤ lo') (h2 : n' ≤ n) : Same lo' n' a b := fun x o k1 k2 => h x o (by omega) (by omega)
theorem Same.setCell {lo n : Nat} {w w' : World} (h : Same lo n w w') {b o : Nat} (hb : b < lo ∨ n ≤ b) (u : Value) : Same lo n w (w'.setCell ⟨b, o, none⟩ u) := by
  intro x p h1 h2
  rw [← h x p h1 h2]
  exact World.cell?_of_block (Below.heap_setCell _ _ _ _ (by show x ≠ b; omega))

theorem IntsAt.same {lo n : Nat} {w w' : World} {v : Value} {xs : List Int} (h : IntsAt lo n w v xs) (hs : Same lo n w w') : IntsAt lo n w' v xs := by
  obtain ⟨a, cap, rfl, hl, hr, hc⟩ := h
  refine ⟨a, cap, rfl, hl, hr, fun hp => ?_⟩
  obtain ⟨b, off, rfl, hlo, hbn, hcell⟩ := hc hp
  exact ⟨b, off, rfl, hlo, hbn, fun i hi => by rw [hs b _ hlo hbn]; exact hcell i hi⟩

theorem IntsAt.mono {lo n lo' m : Nat} {w : World} {v : Value} {xs : List Int} (h : IntsAt lo n w v xs) (hl' : lo' ≤ lo) (hm : n ≤ m) : IntsAt lo' m w v xs := by
  obtain ⟨a, cap, rfl, hl, hr, hc⟩ := h
  refine ⟨a, cap, rfl, hl, hr, fun hp => ?_⟩
  obtain ⟨b, off, rfl, hlo, hbn, hcell⟩ := hc hp
  exact ⟨b, off, rfl, by omega, by omega, hcell⟩

theorem ElAt.same {lo n b o : Nat} {w w' : World} {x : El} (h : ElAt lo n w b o x) (hs : Same lo n w w') (h1 : lo ≤ b) (h2 : b < n) : ElAt lo n w' b o x := by
  obtain ⟨i1, i2, i3, v, c0, c1, c2, c3, hi⟩ := h
  refine ⟨i1, i2, i3, v, ?_, ?_, ?_, ?_, hi.same hs⟩ <;> rw [hs _ _ h1 h2] <;> assumption

theorem ElAt.mono {lo n lo' m b o : Nat} {w : World} {x : El} (h : ElAt lo n w b o x) (hl' : lo' ≤ lo) (hm : n ≤ m) : ElAt lo' m w b o x := by
  obtain ⟨h1, h2, h3, v, c0, c1, c2, c3, hi⟩ := h
  exact ⟨h1, h2, h3, v, c0, c1, c2, c3, hi.mono hl' hm⟩

theorem ElsAt.same {lo n : Nat} {w w' : World} {v : Value} {xs : List El} (h : ElsAt lo n w v xs) (hs : Same lo n w w') : ElsAt lo n w' v xs := by
  obtain ⟨a, cap, rfl, hl, hc⟩ := h
  refine ⟨a, cap, rfl, hl, fun hp => ?_⟩
  obtain ⟨b, off, rfl, hlo, hbn, hcell⟩ := hc hp
  exact ⟨b, off, rfl, hlo, hbn, fun i hi => (hcell i hi).same hs hlo hbn⟩

theorem ElsAt.mono {lo n lo' m : Nat} {w : World} {v : Value} {xs : List El} (h : ElsAt lo n w v xs) (hl' : lo' ≤ lo) (hm : n ≤ m) : ElsAt lo' m w v xs := by
  obtain ⟨a, cap, rfl, hl, hc⟩ := h
  refine ⟨a, cap, rfl, hl, fun hp => ?_⟩
  obtain ⟨b, off, rfl, hlo, hbn, hcell⟩ := hc hp
  exact ⟨b, off, rfl, by omega, by omega, fun i hi => (hcell i hi).mono hl' hm⟩

/-- What was there when the call began, in a world in which nothing old has turned. -/
theorem IntsAt.below {lo m : Nat} {w w' : World} {v : Value} {xs : List Int} (h : IntsAt lo w.heap.size w v xs) (hb : Below m w w') (hm : w.heap.size ≤ m) : IntsAt lo w'.heap.size w' v xs :=
  (h.same (Same.of_below hb hm)).mono (Nat.le_refl _) hb.size
theorem ElsAt.below {lo m : Nat} {w w' : World} {v : Value} {xs : List El} (h : ElsAt lo w.heap.size w v xs) (hb : Below m w w') (hm : w.heap.size ≤ m) : ElsAt lo w'.heap.size w' v xs :=
  (h.same (Same.of_below hb hm)).mono (Nat.le_refl _) hb.size

theorem bcell {W w1 : World} {n : Nat} (hb : Below n W w1) : (∀ b o, b < n → w1.cell? ⟨b, o, none⟩ = W.cell? ⟨b, o, none⟩) ∧ (∀ b o, b < n → w1.frozen? ⟨b, o, none⟩ = W.frozen? ⟨b, o, none⟩) :=
  ⟨fun b o h => hb.cell (p := ⟨b, o, none⟩) h, fun b o h => hb.frozen (p := ⟨b, o, none⟩) h⟩

theorem sz_alloc (w : World) (o : Obj) : (w.alloc o).heap.size = w.heap.size + 1 := by simp
theorem below1 (w : World) (o : Obj) : Below w.heap.size w (w.alloc o) := (Below.refl _ _).alloc (Nat.le_refl _) _
theorem below2 (w : World) (o p : Obj) : Below w.heap.size w ((w.alloc o).alloc p) := (below1 w o).alloc (by rw [sz_alloc]; omega) _
theorem below3 (w : World) (o p q : Obj) : Below w.heap.size w (((w.alloc o).alloc p).alloc q) := (below2 w o p).alloc (by rw [sz_alloc, sz_alloc]; omega) _
theorem bput {B : Nat} {a w : World} (h : Below B a w) {b o : Nat} (hp : B ≤ b) (u : Value) : Below B a (w.setCell ⟨b, o, none⟩ u) := h.setCell hp u
theorem sz_put (w : World) (p : Addr) (u : Value) : (w.setCell p u).heap.size = w.heap.size := by simp [World.setCell]
/-- The call has answered a bool that says whether P. -/
def RetB (e : Ending) (P : Prop) : Prop := ∃ r : Bool, e = .returned (.bool r) ∧ (r = true ↔ P)
theorem RetB.yes {P : Prop} (h : P) : RetB (.returned (.bool true)) P := ⟨true, rfl, by simp [h]⟩
theorem RetB.no {P : Prop} (h : ¬ P) : RetB (.returned (.bool false)) P := ⟨false, rfl, by simp [h]⟩
theorem RetB.of {P : Prop} {b : Bool} (h : b = true ↔ P) : RetB (.returned (.bool b)) P := ⟨b, rfl, h⟩
theorem RetB.cases {e : Ending} {P : Prop} (h : RetB e P) : (e = .returned (.bool true) ∧ P) ∨ (e = .returned (.bool false) ∧ ¬ P) := by
  obtain ⟨r, rfl, hr⟩ := h
  cases r with
  | true => exact Or.inl ⟨rfl, hr.1 rfl⟩
  | false => exact Or.inr ⟨rfl, fun hp => Bool.noConfusion (hr.2 hp)⟩
theorem hide {p : Prop} (h : p) : Hid p := h
theorem unhide {p : Prop} (h : Hid p) : p := h
theorem ret_int {k : IntKind} {a b : Int} (h : a = b) : Ending.returned (.int k a) = .returned (.int k b) := by rw [h]
theorem ret_bool {a b : Bool} (h : a = b) : Ending.returned (.bool a) = .returned (.bool b) := by rw [h]

end Go.Proofs.YtbgjgaejfkdceaaGreat

namespace Go.Proofs.YtbgjgaejfkdceaaGreat
open Go.RowKit

/-- v is a slice, element by element mk of xs, in a block from lo on and below n that nothing has frozen. -/
def SlW {α : Type} (mk : α → Value) (d : α) (lo n : Nat) (w : World) (v : Value) (xs : List α) : Prop :=
  ∃ a cap, v = .slice a xs.length cap ∧ xs.length ≤ maxLen ∧
    (0 < xs.length → ∃ b off, a = some ⟨b, off, none⟩ ∧ lo ≤ b ∧ b < n ∧ (∃ c t, w.heap[b]? = some (.cells c t (0, 0))) ∧ ∀ i : Nat, i < xs.length → w.cell? ⟨b, off + i, none⟩ = some (mk (xs[i]?.getD d)))

/-- Outside the blocks from lo on and below n the world w' is as w was. -/
structure Chg (lo n : Nat) (w w' : World) : Prop where
  os : w'.os = w.os
  tape : w'.tape = w.tape
  output : w'.output = w.output
  size : w'.heap.size = w.heap.size
  block : ∀ k, (k < lo ∨ n ≤ k) → w'.heap[k]? = w.heap[k]?

theorem Chg.refl (lo n : Nat) (w : World) : Chg lo n w w := ⟨rfl, rfl, rfl, rfl, fun _ _ => rfl⟩
theorem Chg.trans {lo n : Nat} {a b c : World} (h : Chg lo n a b) (k : Chg lo n b c) : Chg lo n a c :=
  ⟨k.os.trans h.os, k.tape.trans h.tape, k.output.trans h.output, k.size.trans h.size, fun i hi => (k.block i hi).trans (h.block i hi)⟩
theorem Chg.mono {lo n lo' n' : Nat} {a b : World} (h : Chg lo n a b) (h1 : lo' ≤ lo) (h2 : n ≤ n') : Chg lo' n' a b := ⟨h.os, h.tape, h.output, h.size, fun k hk => h.block k (by omega)⟩
theorem Chg.put {lo n : Nat} {a w : World} (h : Chg lo n a w) {b o : Nat} (h1 : lo ≤ b) (h2 : b < n) (u : Value) : Chg lo n a (w.setCell ⟨b, o, none⟩ u) :=
  h.trans ⟨rfl, rfl, rfl, by simp [World.setCell], fun k hk => Below.heap_setCell _ _ _ _ (by show k ≠ b; omega)⟩
theorem Chg.drewN {lo n : Nat} {a w : World} (h : Chg lo n a w) (q : Nat) : Chg lo n a (w.drewN q) := ⟨h.os, h.tape, h.output, h.size, h.block⟩
theorem Chg.below {lo n : Nat} {w w' : World} (h : Chg lo n w w') : Below lo w w' := ⟨h.os, h.tape, h.output, by rw [h.size]; exact Nat.le_refl _, fun k hk => h.block k (Or.inl hk)⟩

/-- From block lo on and below n the blocks of w' are those of w. -/
def SameB (lo n : Nat) (w w' : World) : Prop := ∀ k, lo ≤ k → k < n → w'.heap[k]? = w.heap[k]?
theorem SameB.of_below {lo n m : Nat} {w w' : World} (hb : Below m w w') (hm : n ≤ m) : SameB lo n w w' := fun k _ h => hb.block k (by omega)
theorem SameB.of_chg {lo n lo' n' : Nat} {w w' : World} (hc : Chg lo' n' w w') (h : n ≤ lo' ∨ n' ≤ lo) : SameB lo n w w' := fun k h1 h2 => hc.block k (by omega)

theorem SlW.same {α : Type} {mk : α → Value} {d : α} {lo n : Nat} {w w' : World} {v : Value} {xs : List α} (h : SlW mk d lo n w v xs) (hs : SameB lo n w w') : SlW mk d lo n w' v xs := by
  obtain ⟨a, cap, rfl, hl, hc⟩ := h
  refine ⟨a, cap, rfl, hl, fun hp => ?_⟩
  obtain ⟨b, off, rfl, h1, h2, ⟨c, t, hb⟩, hcell⟩ := hc hp
  have e := hs b h1 h2
  exact ⟨b, off, rfl, h1, h2, ⟨c, t, e.trans hb⟩, fun i hi => by rw [World.cell?_of_block (w := w) (a := ⟨b, off + i, none⟩) e]; exact hcell i hi⟩
theorem SlW.mono {α : Type} {mk : α → Value} {d : α} {lo n lo' n' : Nat} {w : World} {v : Value} {xs : List α} (h : SlW mk d lo n w v xs) (h1 : lo' ≤ lo) (h2 : n ≤ n') : SlW mk d lo' n' w v xs := by
  obtain ⟨a, cap, rfl, hl, hc⟩ := h
  refine ⟨a, cap, rfl, hl, fun hp => ?_⟩
  obtain ⟨b, off, rfl, h3, h4, h5, hcell⟩ := hc hp
  exact ⟨b, off, rfl, by omega, by omega, h5, hcell⟩

/-- v is a slice, element by element mk of xs, in a block from lo on and below n. -/
def SlAt {α : Type} (mk : α → Value) (d : α) (lo n : Nat) (w : World) (v : Value) (xs : List α) : Prop :=
  ∃ a cap, v = .slice a xs.length cap ∧ xs.length ≤ maxLen ∧
    (0 < xs.length → ∃ b off, a = some ⟨b, off, none⟩ ∧ lo ≤ b ∧ b < n ∧ ∀ i : Nat, i < xs.length → w.cell? ⟨b, off + i, none⟩ = some (mk (xs[i]?.getD d)))
theorem SlW.at {α : Type} {mk : α → Value} {d : α} {lo n : Nat} {w : World} {v : Value} {xs : List α} (h : SlW mk d lo n w v xs) : SlAt mk d lo n w v xs := by
  obtain ⟨a, cap, rfl, hl, hc⟩ := h
  refine ⟨a, cap, rfl, hl, fun hp => ?_⟩
  obtain ⟨b, off, rfl, h3, h4, h5, hcell⟩ := hc hp
  exact ⟨b, off, rfl, h3, h4, hcell⟩
theorem SlAt.same {α : Type} {mk : α → Value} {d : α} {lo n : Nat} {w w' : World} {v : Value} {xs : List α} (h : SlAt mk d lo n w v xs) (hs : Same lo n w w') : SlAt mk d lo n w' v xs := by
  obtain ⟨a, cap, rfl, hl, hc⟩ := h
  refine ⟨a, cap, rfl, hl, fun hp => ?_⟩
  obtain ⟨b, off, rfl, hlo, hbn, hcell⟩ := hc hp
  exact ⟨b, off, rfl, hlo, hbn, fun i hi => by rw [hs b _ hlo hbn]; exact hcell i hi⟩
theorem SlAt.mono {α : Type} {mk : α → Value} {d : α} {lo n lo' n' : Nat} {w : World} {v : Value} {xs : List α} (h : SlAt mk d lo n w v xs) (h1 : lo' ≤ lo) (h2 : n ≤ n') : SlAt mk d lo' n' w v xs := by
  obtain ⟨a, cap, rfl, hl, hc⟩ := h
  refine ⟨a, cap, rfl, hl, fun hp => ?_⟩
  obtain ⟨b, off, rfl, h3, h4, hcell⟩ := hc hp
  exact ⟨b, off, rfl, by omega, by omega, hcell⟩
theorem SlAt.below {α : Type} {mk : α → Value} {d : α} {lo m : Nat} {w w' : World} {v : Value} {xs : List α} (h : SlAt mk d lo w.heap.size w v xs) (hb : Below m w w') (hm : w.heap.size ≤ m) : SlAt mk d lo w'.heap.size w' v xs :=
  (h.same (Same.of_below hb hm)).mono (Nat.le_refl _) hb.size

/-- A slice whose length is within its capacity. -/
def CapOk (v : Value) : Prop := ∃ a n c, v = .slice a n c ∧ n ≤ c ∧ c ≤ maxLen
theorem CapOk.le {a : Option Addr} {n c : Nat} (h : CapOk (.slice a n c)) : n ≤ c ∧ c ≤ maxLen := by
  obtain ⟨a', n', c', e, h1⟩ := h
  cases e
  exact h1
theorem CapOk.mk {a : Option Addr} {n c : Nat} (h : n ≤ c) (h2 : c ≤ maxLen) : CapOk (.slice a n c) := ⟨a, n, c, rfl, h, h2⟩

def mI (x : Int) : Value := .int .i64 x
def mB (x : Int) : Value := .int .u8 x
def mT (x : Bool) : Value := .bool x

theorem frz {w : World} {b j : Nat} (h : ∃ c t, w.heap[b]? = some (.cells c t (0, 0))) : w.frozen? ⟨b, j, none⟩ = false := by
  obtain ⟨c, t, hb⟩ := h
  simp [World.frozen?, hb]

/-- The numbers k, k + 1, .. -/
def cnts (k : Int) (n : Nat) : List Int := (List.range n).map (fun i : Nat => k + (i : Int))
theorem cnts_len (k : Int) (n : Nat) : (cnts k n).length = n := by simp [cnts]
theorem cnts_get (k : Int) (n i : Nat) (h : i < n) : (cnts k n)[i]?.getD 0 = k + i := by simp [cnts, h]

theorem put_same {w : World} {b o : Nat} {u v : Value} (h : w.cell? ⟨b, o, none⟩ = some u) : (w.setCell ⟨b, o, none⟩ v).cell? ⟨b, o, none⟩ = some v := by
  apply World.cell?_setCell_same
  exact h
theorem put_other {w : World} {b o b' o' : Nat} {v : Value} (h : b ≠ b' ∨ o ≠ o') : (w.setCell ⟨b, o, none⟩ v).cell? ⟨b', o', none⟩ = w.cell? ⟨b', o', none⟩ := by
  apply World.cell?_setCell_other
  intro e
  simp only [Addr.mk.injEq] at e
  omega

/-- One store more into a row of its own. -/
theorem own_put {w : World} {b j : Nat} {u : Value} (h : ∃ c t, w.heap[b]? = some (.cells c t (0, 0))) : ∃ c t, (w.setCell ⟨b, j, none⟩ u).heap[b]? = some (.cells c t (0, 0)) := by
  obtain ⟨c, t, hb⟩ := h
  exact ⟨c.setIfInBounds j u, t, by simp [World.setCell, Array.getElem?_modify, hb]⟩

end Go.Proofs.YtbgjgaejfkdceaaGreat

namespace Go.Proofs.YtbgjgaejfkdceaaGreat
open Go.RowKit

end Go.Proofs.YtbgjgaejfkdceaaGreat

namespace Go.Proofs.YtbgjgaejfkdceaaGreat
open Go.RowKit

theorem Tryz.zinInt : (Tryz.prog.info? 3).map (fun i => (i.zero, i.size, i.bytes)) = some (some (.int .i64 0), 1, 8) := by kernel_rfl

theorem Tryz.zinByte : (Tryz.prog.info? 5).map (fun i => (i.zero, i.size, i.bytes)) = some (some (.int .u8 0), 1, 1) := by kernel_rfl

set_option maxHeartbeats 400000 in
set_option maxRecDepth 100000 in
theorem toByteS_wc (v : Value) (xs : List Int) (w : World) (hv : SlAt mB 0 0 w.heap.size w v xs) (hlen : xs.length ≤ 1048576) :
    Calls Tryz.prog 8 #[v] w fun e w' => ∃ v', e = .returned v' ∧ SlW mB 0 w.heap.size w'.heap.size w' v' xs ∧ CapOk v' ∧ Below w.heap.size w w' := by
  obtain ⟨a, cap, rfl, hl, hc⟩ := hv
  have hmk := run_make_row' (P := Tryz.prog) 25 5 (.int .u8 0) 1 Tryz.underlying25 Tryz.zinByte rfl .i64 .i64 xs.length (by omega) (by omega)
  go_enter Tryz.func8, Tryz.ntmps8
  go_wp2
  go_loopw [4] (fun i wr => ∃ k : Nat, k ≤ xs.length ∧ i = .int .i64 k ∧ wr.rowIs w.heap.size 5 xs.length (fun j => if j < k then .int .u8 (xs[j]?.getD 0) else .int .u8 0) ∧ Below w.heap.size w wr) (fun i _ => xs.length - (intOf i).toNat)
  case atStart => exact ⟨0, Nat.zero_le _, rfl, (World.rowIs_made w (.int .u8 0) xs.length 5).congr (by simp), (Below.refl _ _).alloc (Nat.le_refl _) _⟩
  case round =>
    obtain ⟨k, hk, rfl, hrow, hb⟩ := hrel
    by_cases hlt : k < xs.length
    · obtain ⟨b, off, rfl, -, hbn, hcell⟩ := hc (by omega)
      have hx : wr.cell? ⟨b, off + k, none⟩ = some (.int .u8 (xs[k]?.getD 0)) := by rw [hb.cell (p := ⟨b, off + k, none⟩) hbn]; exact hcell k hlt
      have hlt' : (k : Int) < (xs.length : Int) := by omega
      have hw := hrow.cell hlt
      have hf := hrow.frozen k
      have hrow' := hide hrow
      clear hmk hrow hcell hc
      generalize hX : xs[k]?.getD 0 = x at *
      have HX := hide hX
      clear hX
      go_wp2
      refine ⟨⟨k + 1, by omega, by go_num, ?_, hb.setCell (Nat.le_refl _) _⟩, by simp [intOf]; omega⟩
      refine ((unhide hrow').set k _).congr ?_
      intro j hj
      by_cases e : j = k
      · subst e; simp only [if_true]; rw [if_pos (by omega), unhide HX]
      · have e2 : j < k + 1 ↔ j < k := by omega
        simp only [e, if_false, e2]
    · obtain rfl : k = xs.length := by omega
      have hrow' := hide hrow
      clear hmk hrow hc
      go_wp2
      go_ret
      have hrow := unhide hrow'
      refine ⟨_, rfl, ⟨some ⟨w.heap.size, 0, none⟩, xs.length, rfl, hl, fun _ => ⟨w.heap.size, 0, rfl, Nat.le_refl _, hrow.lt, ?_, fun i hi => by rw [Nat.zero_add, hrow.cell hi, if_pos hi]; rfl⟩⟩, CapOk.mk (Nat.le_refl _) hl, hb⟩
      obtain ⟨c, hcb, -⟩ := hrow
      exact ⟨c, _, hcb⟩
theorem toByteS_w (v : Value) (xs : List Int) (w : World) (hv : SlAt mB 0 0 w.heap.size w v xs) (hlen : xs.length ≤ 1048576) :
    Calls Tryz.prog 8 #[v] w fun e w' => ∃ v', e = .returned v' ∧ SlW mB 0 w.heap.size w'.heap.size w' v' xs ∧ Below w.heap.size w w' :=
  (toByteS_wc v xs w hv hlen).mono (fun _ _ ⟨v', h1, h2, _, h3⟩ => ⟨v', h1, h2, h3⟩)

set_option maxHeartbeats 400000 in
theorem eqByteS_w (u v : Value) (xs : List Int) (w : World) (hu : SlAt mB 0 0 w.heap.size w u xs) (hv : SlAt mB 0 0 w.heap.size w v xs) :
    Calls Tryz.prog 11 #[u, v] w fun e w' => e = .returned (.bool true) ∧ ∃ n, w' = w.drewN n := by
  obtain ⟨a, cap, rfl, hl, hc⟩ := hu
  obtain ⟨a2, cap2, rfl, -, hc2⟩ := hv
  unfold maxLen at hl
  go_enter Tryz.func11, Tryz.ntmps11
  go_wp2
  go_loopw [5] (fun i wr => ∃ k : Nat, k ≤ xs.length ∧ i = .int .i64 k ∧ ∃ n, wr = w.drewN n) (fun i _ => xs.length - (intOf i).toNat)
  case atStart => exact ⟨0, Nat.zero_le _, rfl, 0, rfl⟩
  case round =>
    obtain ⟨k, hk, rfl, n, rfl⟩ := hrel
    by_cases hlt : k < xs.length
    · obtain ⟨b, off, rfl, -, hbn, hcell⟩ := hc (by omega)
      obtain ⟨b2, off2, rfl, -, hbn2, hcell2⟩ := hc2 (by omega)
      have hx : w.cell? ⟨b, off + k, none⟩ = some (.int .u8 (xs[k]?.getD 0)) := hcell k hlt
      have hx2 : w.cell? ⟨b2, off2 + k, none⟩ = some (.int .u8 (xs[k]?.getD 0)) := hcell2 k hlt
      have hlt' : (k : Int) < (xs.length : Int) := by omega
      clear hcell hcell2 hc hc2
      generalize xs[k]?.getD 0 = x at *
      go_wp2
      go_quiet (fail)
      go_wp2
      go_roundw
      case rel => exact ⟨k + 1, by omega, by go_num, _, rfl⟩
      case measure => simp [intOf]; omega
    · obtain rfl : k = xs.length := by omega
      clear hc hc2
      go_wp2
      go_ret
      exact ⟨rfl, _, rfl⟩

theorem Tryz.zinBool : (Tryz.prog.info? 4).map (fun i => (i.zero, i.size, i.bytes)) = some (some (.bool false), 1, 1) := by kernel_rfl

end Go.Proofs.YtbgjgaejfkdceaaGreat

namespace Go.Proofs.YtbgjgaejfkdceaaGreat
open Go.RowKit

/-- The marks of bytes and of bools. -/
def cntB (k : Int) (n : Nat) : List Int := (List.range n).map (fun i : Nat => (k + (i : Int)) % 256)
theorem cntB_len (k : Int) (n : Nat) : (cntB k n).length = n := by simp [cntB]
theorem cntB_get (k : Int) (n i : Nat) (h : i < n) : (cntB k n)[i]?.getD 0 = (k + i) % 256 := by simp [cntB, h]
def cntT (k : Int) (n : Nat) : List Bool := (List.range n).map (fun i : Nat => ((k + (i : Int)) % 3 == 0))
theorem cntT_len (k : Int) (n : Nat) : (cntT k n).length = n := by simp [cntT]
theorem cntT_get (k : Int) (n i : Nat) (h : i < n) : (cntT k n)[i]?.getD false = ((k + (i : Int)) % 3 == 0) := by simp [cntT, h]

set_option maxHeartbeats 400000 in
theorem markByteS_any (v : Value) (xs : List Int) (k : Int) (lo n : Nat) (w : World) (hv : SlW mB 0 lo n w v xs) (k0 : 0 ≤ k) (k1 : k ≤ 4611686018427387904) (hlen : xs.length ≤ 4194304) :
    Calls Tryz.prog 13 #[v, .int .i64 k] w fun e w' => e = .returned (.int .i64 (k + xs.length)) ∧ SlW mB 0 lo n w' v (cntB k xs.length) ∧ Chg lo n w w' := by
  obtain ⟨a, cap, rfl, hl, hc⟩ := hv
  go_enter Tryz.func13, Tryz.ntmps13
  go_wp2
  go_loopw [1, 5] (fun q i wr => ∃ m : Nat, m ≤ xs.length ∧ i = .int .i64 m ∧ q = .int .i64 (k + m) ∧ (0 < xs.length → ∃ b off, a = some ⟨b, off, none⟩ ∧ lo ≤ b ∧ b < n ∧ (∃ c t, wr.heap[b]? = some (.cells c t (0, 0))) ∧
    (∀ j : Nat, j < m → wr.cell? ⟨b, off + j, none⟩ = some (.int .u8 ((k + j) % 256))) ∧ ∀ j : Nat, m ≤ j → j < xs.length → ∃ u, wr.cell? ⟨b, off + j, none⟩ = some u) ∧ Chg lo n w wr) (fun _ i _ => xs.length - (intOf i).toNat)
  case atStart =>
    refine ⟨0, Nat.zero_le _, rfl, by simp, fun hp => ?_, Chg.refl _ _ _⟩
    obtain ⟨b, off, e, h1, h2, h3, hcell⟩ := hc hp
    exact ⟨b, off, e, h1, h2, h3, fun j hj => absurd hj (Nat.not_lt_zero _), fun j _ hj => ⟨_, hcell j hj⟩⟩
  case round =>
    obtain ⟨m, hm, rfl, rfl, hrow, hch⟩ := hrel
    by_cases hlt : m < xs.length
    · obtain ⟨b, off, rfl, h1, h2, h3, hold, hnew⟩ := hrow (by omega)
      obtain ⟨u, hu⟩ := hnew m (Nat.le_refl _) hlt
      have hf := frz (j := off + m) h3
      have hlt' : (m : Int) < (xs.length : Int) := by omega
      have H3 := hide h3
      have Hold := hide hold
      have Hnew := hide hnew
      clear h3 hold hnew hc
      go_wp2
      refine ⟨⟨m + 1, by omega, by go_num, by congr 1; omega, fun _ => ⟨b, off, rfl, h1, h2, own_put (unhide H3), fun j hj => ?_, fun j hj1 hj2 => ?_⟩, hch.put h1 h2 _⟩, by simp [intOf]; omega⟩
      · by_cases e : j = m
        · subst e
          exact put_same hu
        · rw [put_other (Or.inr (by omega))]
          exact unhide Hold j (by omega)
      · rw [put_other (Or.inr (by omega))]
        exact unhide Hnew j (by omega) hj2
    · obtain rfl : m = xs.length := by omega
      have Hrow := hide hrow
      clear hrow hc
      go_wp2
      go_ret
      refine ⟨rfl, ⟨a, cap, by rw [cntB_len], by rw [cntB_len]; exact hl, fun hp => ?_⟩, hch⟩
      rw [cntB_len] at hp
      obtain ⟨b, off, e, h1, h2, h3, hold, -⟩ := unhide Hrow hp
      refine ⟨b, off, e, h1, h2, h3, fun i hi => ?_⟩
      rw [cntB_len] at hi
      rw [hold i hi, cntB_get k _ i hi]
      rfl

end Go.Proofs.YtbgjgaejfkdceaaGreat

namespace Go.Proofs.YtbgjgaejfkdceaaGreat
open Go.RowKit

theorem SameB.refl (lo n : Nat) (w : World) : SameB lo n w w := fun _ _ _ => rfl
theorem SameB.trans {lo n : Nat} {a b c : World} (h : SameB lo n a b) (k : SameB lo n b c) : SameB lo n a c := fun i h1 h2 => (k i h1 h2).trans (h i h1 h2)
def Bytes (bs : List Int) : Prop := ∀ i : Nat, 0 ≤ bs[i]?.getD 0 ∧ bs[i]?.getD 0 ≤ 255
theorem SlW.keep {α : Type} {mk : α → Value} {d : α} {lo n m : Nat} {w w' : World} {v : Value} {xs : List α} (h : SlW mk d lo n w v xs) (hb : Below m w w') (hn : n ≤ m) : SlW mk d lo n w' v xs := h.same (SameB.of_below hb hn)
theorem SlW.all {α : Type} {mk : α → Value} {d : α} {lo n : Nat} {w : World} {v : Value} {xs : List α} (h : SlW mk d lo n w v xs) (hn : n ≤ w.heap.size) : SlAt mk d 0 w.heap.size w v xs := h.at.mono (Nat.zero_le _) hn
theorem SlW.val {α : Type} {mk : α → Value} {d : α} {lo n : Nat} {w : World} {v : Value} {xs : List α} (h : SlW mk d lo n w v xs) : ∃ a cap, v = .slice a xs.length cap := by
  obtain ⟨a, cap, rfl, -, -⟩ := h
  exact ⟨a, cap, rfl⟩
theorem drewB {m : Nat} {w : World} (q : Nat) : Below m w (w.drewN q) := below_drewN (Below.refl _ _) q
theorem SameB.mono {lo n lo' n' : Nat} {a b : World} (h : SameB lo n a b) (h1 : lo ≤ lo') (h2 : n' ≤ n) : SameB lo' n' a b := fun k k1 k2 => h k (by omega) (by omega)
theorem SlAt.cut {α : Type} {mk : α → Value} {d : α} {m : Nat} {w w' : World} {v : Value} {xs : List α} (h : SlAt mk d 0 w.heap.size w v xs) (hb : Below m w w') (hm : w.heap.size ≤ m) : SlAt mk d 0 w'.heap.size w' v xs := h.below hb hm
theorem SlAt.drewN {α : Type} {mk : α → Value} {d : α} {lo n : Nat} {w : World} {v : Value} {xs : List α} (h : SlAt mk d lo n w v xs) (q : Nat) : SlAt mk d lo n (w.drewN q) v xs := h

end Go.Proofs.YtbgjgaejfkdceaaGreat

namespace Go.Proofs.YtbgjgaejfkdceaaGreat
open Go.RowKit

/-- Nothing of the block is frozen. -/
def Free (w : World) (b : Nat) : Prop := ∃ c t, w.heap[b]? = some (.cells c t (0, 0))
theorem Free.same {w w' : World} {b : Nat} (h : Free w b) (e : w'.heap[b]? = w.heap[b]?) : Free w' b := by
  obtain ⟨c, t, hb⟩ := h
  exact ⟨c, t, e.trans hb⟩
theorem Free.put {w : World} {b b' o : Nat} {u : Value} (h : Free w b) : Free (w.setCell ⟨b', o, none⟩ u) b := by
  by_cases e : b = b'
  · subst e; exact own_put h
  · exact h.same (Below.heap_setCell _ _ _ _ (by exact e))

/-- The blocks from lo on and below n. -/
def Rng (lo n : Nat) (k : Nat) : Prop := lo ≤ k ∧ k < n

/-- Outside the blocks of S the world w' is as w was. -/
structure ChgF (S : Nat → Prop) (w w' : World) : Prop where
  os : w'.os = w.os
  tape : w'.tape = w.tape
  output : w'.output = w.output
  size : w'.heap.size = w.heap.size
  block : ∀ k, ¬ S k → w'.heap[k]? = w.heap[k]?
theorem ChgF.refl (S : Nat → Prop) (w : World) : ChgF S w w := ⟨rfl, rfl, rfl, rfl, fun _ _ => rfl⟩
theorem ChgF.trans {S : Nat → Prop} {a b c : World} (h : ChgF S a b) (k : ChgF S b c) : ChgF S a c :=
  ⟨k.os.trans h.os, k.tape.trans h.tape, k.output.trans h.output, k.size.trans h.size, fun i hi => (k.block i hi).trans (h.block i hi)⟩
theorem ChgF.mono {S T : Nat → Prop} {a b : World} (h : ChgF S a b) (hs : ∀ k, S k → T k) : ChgF T a b := ⟨h.os, h.tape, h.output, h.size, fun k hk => h.block k (fun q => hk (hs k q))⟩
theorem Chg.foot {lo n : Nat} {S : Nat → Prop} {a b : World} (h : Chg lo n a b) (hs : ∀ k, lo ≤ k → k < n → S k) : ChgF S a b := ⟨h.os, h.tape, h.output, h.size, fun k hk => h.block k (by
  by_cases e : lo ≤ k ∧ k < n
  · exact absurd (hs k e.1 e.2) hk
  · omega)⟩
theorem ChgF.chg {lo n : Nat} {a b : World} (h : ChgF (Rng lo n) a b) : Chg lo n a b := ⟨h.os, h.tape, h.output, h.size, fun k hk => h.block k (by unfold Rng; omega)⟩
theorem ChgF.below {S : Nat → Prop} {lo : Nat} {w w' : World} (h : ChgF S w w') (hs : ∀ k, S k → lo ≤ k) : Below lo w w' := ⟨h.os, h.tape, h.output, by rw [h.size]; exact Nat.le_refl _, fun k hk => h.block k (fun q => by have := hs k q; omega)⟩
theorem ChgF.put {S : Nat → Prop} {a w : World} (h : ChgF S a w) {b o : Nat} (h1 : S b) (u : Value) : ChgF S a (w.setCell ⟨b, o, none⟩ u) :=
  h.trans ⟨rfl, rfl, rfl, by simp [World.setCell], fun k hk => Below.heap_setCell _ _ _ _ (by show k ≠ b; intro e; subst e; exact hk h1)⟩

/-- v is a slice, element by element mk of xs, in the blocks of S, which nothing has frozen. -/
def SlF {α : Type} (mk : α → Value) (d : α) (S : Nat → Prop) (w : World) (v : Value) (xs : List α) : Prop :=
  ∃ lo n, SlW mk d lo n w v xs ∧ ∀ k, lo ≤ k → k < n → S k
theorem SlW.foot {α : Type} {mk : α → Value} {d : α} {lo n : Nat} {w : World} {v : Value} {xs : List α} (h : SlW mk d lo n w v xs) : SlF mk d (Rng lo n) w v xs := ⟨lo, n, h, fun _ h1 h2 => ⟨h1, h2⟩⟩
theorem SlF.same {α : Type} {mk : α → Value} {d : α} {S : Nat → Prop} {w w' : World} {v : Value} {xs : List α} (h : SlF mk d S w v xs) (hs : ∀ k, S k → w'.heap[k]? = w.heap[k]?) : SlF mk d S w' v xs := by
  obtain ⟨lo, n, h1, h2⟩ := h
  exact ⟨lo, n, h1.same (fun k k1 k2 => hs k (h2 k k1 k2)), h2⟩
theorem SlF.mono {α : Type} {mk : α → Value} {d : α} {S T : Nat → Prop} {w : World} {v : Value} {xs : List α} (h : SlF mk d S w v xs) (hs : ∀ k, S k → T k) : SlF mk d T w v xs := by
  obtain ⟨lo, n, h1, h2⟩ := h
  exact ⟨lo, n, h1, fun k k1 k2 => hs k (h2 k k1 k2)⟩
theorem SlF.at {α : Type} {mk : α → Value} {d : α} {S : Nat → Prop} {N : Nat} {w : World} {v : Value} {xs : List α} (h : SlF mk d S w v xs) (hs : ∀ k, S k → k < N) : SlAt mk d 0 N w v xs := by
  obtain ⟨lo, n, ⟨a, cap, rfl, hl, hc⟩, h2⟩ := h
  refine ⟨a, cap, rfl, hl, fun hp => ?_⟩
  obtain ⟨b, off, rfl, h3, h4, h5, hcell⟩ := hc hp
  exact ⟨b, off, rfl, Nat.zero_le _, hs b (h2 b h3 h4), hcell⟩
theorem SlF.val {α : Type} {mk : α → Value} {d : α} {S : Nat → Prop} {w : World} {v : Value} {xs : List α} (h : SlF mk d S w v xs) : ∃ a cap, v = .slice a xs.length cap := by
  obtain ⟨lo, n, ⟨a, cap, e, -⟩, -⟩ := h
  exact ⟨a, cap, e⟩

/-- v is a slice of slices that reads as xss, in blocks below N. -/
def SsAt {α : Type} (mk : α → Value) (d : α) (N : Nat) (w : World) (v : Value) (xss : List (List α)) : Prop :=
  ∃ a cap, v = .slice a xss.length cap ∧ (xss.length ≤ cap ∧ cap ≤ maxLen) ∧
    (0 < xss.length → ∃ b off, a = some ⟨b, off, none⟩ ∧ b < N ∧ ∀ i : Nat, i < xss.length → ∃ s, w.cell? ⟨b, off + i, none⟩ = some s ∧ SlAt mk d 0 N w s (xss[i]?.getD []) ∧ CapOk s)
theorem SsAt.below {α : Type} {mk : α → Value} {d : α} {m : Nat} {w w' : World} {v : Value} {xss : List (List α)} (h : SsAt mk d w.heap.size w v xss) (hb : Below m w w') (hm : w.heap.size ≤ m) : SsAt mk d w'.heap.size w' v xss := by
  obtain ⟨a, cap, rfl, hl, hc⟩ := h
  refine ⟨a, cap, rfl, hl, fun hp => ?_⟩
  obtain ⟨b, off, rfl, h1, h2⟩ := hc hp
  refine ⟨b, off, rfl, by have := hb.size; omega, fun i hi => ?_⟩
  obtain ⟨s, h3, h4, h5⟩ := h2 i hi
  exact ⟨s, by rw [hb.cell (p := ⟨b, off + i, none⟩) (by show b < m; omega)]; exact h3, h4.below hb hm, h5⟩
theorem SsAt.drewN {α : Type} {mk : α → Value} {d : α} {n : Nat} {w : World} {v : Value} {xss : List (List α)} (h : SsAt mk d n w v xss) (q : Nat) : SsAt mk d n (w.drewN q) v xss := h

/-- v is a slice of slices, xss, that owns its memory, in the blocks of S: the row of the slices and one for each slice, all apart. -/
def SsF {α : Type} (mk : α → Value) (d : α) (S : Nat → Prop) (w : World) (v : Value) (xss : List (List α)) : Prop :=
  ∃ a cap, v = .slice a xss.length cap ∧ (xss.length ≤ cap ∧ cap ≤ maxLen) ∧ (0 < xss.length → ∃ (b off : Nat) (sv : Nat → Value) (T : Nat → Nat → Prop), a = some ⟨b, off, none⟩ ∧ S b ∧ Free w b ∧
    (∀ i : Nat, i < xss.length → w.cell? ⟨b, off + i, none⟩ = some (sv i)) ∧ (∀ i : Nat, i < xss.length → SlF mk d (T i) w (sv i) (xss[i]?.getD []) ∧ CapOk (sv i)) ∧
    (∀ i : Nat, i < xss.length → ∀ k, T i k → S k ∧ k ≠ b) ∧ ∀ i j : Nat, i < xss.length → j < xss.length → i ≠ j → ∀ k, T i k → ¬ T j k)
theorem SsF.same {α : Type} {mk : α → Value} {d : α} {S : Nat → Prop} {w w' : World} {v : Value} {xss : List (List α)} (h : SsF mk d S w v xss) (hs : ∀ k, S k → w'.heap[k]? = w.heap[k]?) : SsF mk d S w' v xss := by
  obtain ⟨a, cap, rfl, hl, hc⟩ := h
  refine ⟨a, cap, rfl, hl, fun hp => ?_⟩
  obtain ⟨b, off, sv, T, e, h1, h2, h3, h4, h5, h6⟩ := hc hp
  exact ⟨b, off, sv, T, e, h1, h2.same (hs b h1), fun i hi => by rw [World.cell?_of_block (w := w) (a := ⟨b, off + i, none⟩) (hs b h1)]; exact h3 i hi, fun i hi => ⟨(h4 i hi).1.same (fun k hk => hs k (h5 i hi k hk).1), (h4 i hi).2⟩, h5, h6⟩
theorem SsF.mono {α : Type} {mk : α → Value} {d : α} {S S' : Nat → Prop} {w : World} {v : Value} {xss : List (List α)} (h : SsF mk d S w v xss) (hs : ∀ k, S k → S' k) : SsF mk d S' w v xss := by
  obtain ⟨a, cap, rfl, hl, hc⟩ := h
  refine ⟨a, cap, rfl, hl, fun hp => ?_⟩
  obtain ⟨b, off, sv, T, e, h1, h2, h3, h4, h5, h6⟩ := hc hp
  exact ⟨b, off, sv, T, e, hs b h1, h2, h3, h4, fun i hi k hk => ⟨hs k (h5 i hi k hk).1, (h5 i hi k hk).2⟩, h6⟩
theorem SsF.at {α : Type} {mk : α → Value} {d : α} {S : Nat → Prop} {N : Nat} {w : World} {v : Value} {xss : List (List α)} (h : SsF mk d S w v xss) (hs : ∀ k, S k → k < N) : SsAt mk d N w v xss := by
  obtain ⟨a, cap, rfl, hl, hc⟩ := h
  refine ⟨a, cap, rfl, hl, fun hp => ?_⟩
  obtain ⟨b, off, sv, T, e, h1, h2, h3, h4, h5, h6⟩ := hc hp
  exact ⟨b, off, e, hs b h1, fun i hi => ⟨sv i, h3 i hi, (h4 i hi).1.at (fun k hk => hs k (h5 i hi k hk).1), (h4 i hi).2⟩⟩
theorem SsF.keep {α : Type} {mk : α → Value} {d : α} {lo n m : Nat} {w w' : World} {v : Value} {xss : List (List α)} (h : SsF mk d (Rng lo n) w v xss) (hb : Below m w w') (hn : n ≤ m) : SsF mk d (Rng lo n) w' v xss := h.same (fun k hk => hb.block k (by unfold Rng at hk; omega))
theorem SsF.all {α : Type} {mk : α → Value} {d : α} {lo n : Nat} {w : World} {v : Value} {xss : List (List α)} (h : SsF mk d (Rng lo n) w v xss) (hn : n ≤ w.heap.size) : SsAt mk d w.heap.size w v xss := h.at (fun k hk => by unfold Rng at hk; omega)
theorem SsF.nil {α : Type} (mk : α → Value) (d : α) (S : Nat → Prop) (w : World) (a : Option Addr) (cap : Nat) (hc : cap ≤ maxLen) : SsF mk d S w (.slice a 0 cap) ([] : List (List α)) := ⟨a, cap, rfl, ⟨Nat.zero_le _, hc⟩, fun h => absurd h (by simp)⟩

/-- The part of a copy that is made. -/
def PartS {α : Type} (mk : α → Value) (d : α) (t : TypeId) (N : Nat) (w : World) (xss : List (List α)) (k : Nat) : Prop :=
  ∃ (f : Nat → Value) (T : Nat → Nat → Prop), w.rowIs N t xss.length f ∧ (∀ i : Nat, i < k → SlF mk d (T i) w (f i) (xss[i]?.getD []) ∧ CapOk (f i)) ∧ (∀ i : Nat, i < k → ∀ j, T i j → N < j ∧ j < w.heap.size) ∧
    ∀ i j : Nat, i < k → j < k → i ≠ j → ∀ q, T i q → ¬ T j q
theorem partS_step {α : Type} {mk : α → Value} {d : α} {t : TypeId} {N k : Nat} {wr w1 : World} {xss : List (List α)} {v : Value} (h : PartS mk d t N wr xss k) (hk : k < xss.length) (hb : Below wr.heap.size wr w1)
    (hv : SlW mk d wr.heap.size w1.heap.size w1 v (xss[k]?.getD [])) (hcv : CapOk v) : PartS mk d t N (w1.setCell ⟨N, k, none⟩ v) xss (k + 1) := by
  obtain ⟨f, T, hrow, h4, h5, h6⟩ := h
  have hN := hrow.lt
  have hz := hb.size
  have hrow1 := hrow.of_block (hb.block N hN)
  have hput : ∀ k', k' ≠ N → (w1.setCell ⟨N, k, none⟩ v).heap[k']? = w1.heap[k']? := fun k' hne => Below.heap_setCell _ _ _ _ (by exact hne)
  refine ⟨_, fun i => if i = k then Rng wr.heap.size w1.heap.size else T i, hrow1.set k v, fun i hi => ?_, fun i hi j hj => ?_, fun i j hi hj hne q hq hq' => ?_⟩
  · by_cases e : i = k
    · subst e
      simp only [if_true]
      exact ⟨hv.foot.same (fun k' hk' => hput k' (by unfold Rng at hk'; omega)), hcv⟩
    · simp only [e, if_false]
      refine ⟨((h4 i (by omega)).1.same (w' := w1) (fun k' hk' => hb.block k' (h5 i (by omega) k' hk').2)).same (fun k' hk' => hput k' ?_), (h4 i (by omega)).2⟩
      have := h5 i (by omega) k' hk'
      omega
  · rw [sz_put]
    by_cases e : i = k
    · simp only [e, if_true] at hj; unfold Rng at hj; omega
    · simp only [e, if_false] at hj
      have := h5 i (by omega) j hj
      omega
  · by_cases e1 : i = k
    · by_cases e2 : j = k
      · omega
      · simp only [e1, e2, if_true, if_false] at hq hq'
        have := h5 j (by omega) q hq'
        unfold Rng at hq
        omega
    · by_cases e2 : j = k
      · simp only [e1, e2, if_true, if_false] at hq hq'
        have := h5 i (by omega) q hq
        unfold Rng at hq'
        omega
      · simp only [e1, e2, if_false] at hq hq'
        exact h6 i j (by omega) (by omega) hne q hq hq'
theorem partS_done {α : Type} {mk : α → Value} {d : α} {t : TypeId} {N cap : Nat} {w : World} {xss : List (List α)} (h : PartS mk d t N w xss xss.length) (hl : xss.length ≤ cap ∧ cap ≤ maxLen) : SsF mk d (Rng N w.heap.size) w (.slice (some ⟨N, 0, none⟩) xss.length cap) xss := by
  obtain ⟨f, T, hrow, h4, h5, h6⟩ := h
  have hN := hrow.lt
  have hfr : Free w N := by obtain ⟨c, hcb, -⟩ := hrow; exact ⟨c, t, hcb⟩
  exact ⟨_, cap, rfl, hl, fun _ => ⟨N, 0, f, T, rfl, ⟨Nat.le_refl _, hN⟩, hfr, fun i hi => by rw [Nat.zero_add]; exact hrow.cell hi, h4, fun i hi k hk => by have := h5 i hi k hk; unfold Rng; omega, h6⟩⟩

/-- How many elements all lists have, and the marks. -/
def tot {α : Type} : List (List α) → Nat
  | [] => 0
  | x :: r => x.length + tot r
def marksL {α β : Type} (c : Int → Nat → List β) (k : Int) : List (List α) → List (List β)
  | [] => []
  | x :: r => c k x.length :: marksL c (k + x.length) r
theorem marksL_len {α β : Type} (c : Int → Nat → List β) (k : Int) (xss : List (List α)) : (marksL c k xss).length = xss.length := by
  induction xss generalizing k with
  | nil => rfl
  | cons x r ih => simp [marksL, ih]
theorem marksL_get {α β : Type} (c : Int → Nat → List β) (k : Int) (xss : List (List α)) (i : Nat) (h : i < xss.length) : (marksL c k xss)[i]?.getD [] = c (k + tot (xss.take i)) (xss[i]?.getD []).length := by
  induction xss generalizing k i with
  | nil => simp at h
  | cons x r ih =>
    cases i with
    | zero => simp [marksL, tot]
    | succ i => simp only [marksL, List.getElem?_cons_succ, List.take_succ_cons, tot]; rw [ih _ i (by simpa using h)]; congr 1; omega
theorem tot_step {α : Type} (xss : List (List α)) (i : Nat) (h : i < xss.length) : tot (xss.take (i + 1)) = tot (xss.take i) + (xss[i]?.getD []).length := by
  induction xss generalizing i with
  | nil => simp at h
  | cons x r ih =>
    cases i with
    | zero => simp [tot]
    | succ i => simp only [List.take_succ_cons, tot, List.getElem?_cons_succ]; rw [ih i (by simpa using h)]; omega
theorem tot_take {α : Type} (xss : List (List α)) (i : Nat) : tot (xss.take i) ≤ tot xss := by
  induction xss generalizing i with
  | nil => simp [tot]
  | cons x r ih => cases i with
    | zero => simp [tot]
    | succ i => have := ih i; simp only [List.take_succ_cons, tot]; omega
theorem tot_get {α : Type} (xss : List (List α)) (i : Nat) : (xss[i]?.getD []).length ≤ tot xss := by
  by_cases h : i < xss.length
  · have h1 := tot_step xss i h
    have h2 := tot_take xss (i + 1)
    omega
  · rw [List.getElem?_eq_none (by omega)]; simp

/-- While the lists are marked: the first m are. -/
def mixL {α : Type} (ys xss : List (List α)) (m i : Nat) : List α := if i < m then ys[i]?.getD [] else xss[i]?.getD []
def MkS {α : Type} (mk : α → Value) (d : α) (S : Nat → Prop) (w0 w : World) (ys xss : List (List α)) (b off : Nat) (sv : Nat → Value) (T : Nat → Nat → Prop) (m : Nat) : Prop :=
  Free w b ∧ (∀ i : Nat, i < xss.length → w.cell? ⟨b, off + i, none⟩ = some (sv i)) ∧ (∀ i : Nat, i < xss.length → SlF mk d (T i) w (sv i) (mixL ys xss m i) ∧ CapOk (sv i)) ∧ ChgF S w0 w
theorem mkS_step {α : Type} {mk : α → Value} {d : α} {S : Nat → Prop} {w0 wr w1 : World} {ys xss : List (List α)} {b off : Nat} {sv : Nat → Value} {T : Nat → Nat → Prop} {m : Nat} (h : MkS mk d S w0 wr ys xss b off sv T m) (hm : m < xss.length)
    (h5 : ∀ i : Nat, i < xss.length → ∀ k, T i k → S k ∧ k ≠ b) (h6 : ∀ i j : Nat, i < xss.length → j < xss.length → i ≠ j → ∀ k, T i k → ¬ T j k)
    (hc : ChgF (T m) wr w1) (hs : SlF mk d (T m) w1 (sv m) (ys[m]?.getD [])) : MkS mk d S w0 w1 ys xss b off sv T (m + 1) := by
  obtain ⟨hu, h3, h4, hch⟩ := h
  have eb : w1.heap[b]? = wr.heap[b]? := hc.block b (fun q => (h5 m hm b q).2 rfl)
  refine ⟨hu.same eb, fun i hi => by rw [World.cell?_of_block (w := wr) (a := ⟨b, off + i, none⟩) eb]; exact h3 i hi, fun i hi => ?_, hch.trans (hc.mono (fun k hk => (h5 m hm k hk).1))⟩
  by_cases e : i = m
  · subst e
    unfold mixL
    rw [if_pos (by omega)]
    exact ⟨hs, (h4 i hi).2⟩
  · have e2 : mixL ys xss (m + 1) i = mixL ys xss m i := by
      unfold mixL
      by_cases e3 : i < m
      · rw [if_pos e3, if_pos (by omega)]
      · rw [if_neg e3, if_neg (by omega)]
    rw [e2]
    exact ⟨(h4 i hi).1.same (fun k hk => hc.block k (h6 i m hi hm e k hk)), (h4 i hi).2⟩

theorem SsAt.take {α : Type} {mk : α → Value} {d : α} {N k cap b off : Nat} {w : World} {xss : List (List α)} (hk : k ≤ xss.length) (hl : xss.length ≤ cap ∧ cap ≤ maxLen) (hb : b < N)
    (hc : ∀ i : Nat, i < xss.length → ∃ s, w.cell? ⟨b, off + i, none⟩ = some s ∧ SlAt mk d 0 N w s (xss[i]?.getD []) ∧ CapOk s) : SsAt mk d N w (.slice (some ⟨b, off, none⟩) k cap) (xss.take k) := by
  have e : (xss.take k).length = k := by simp; omega
  refine ⟨_, cap, by rw [e], ⟨by omega, hl.2⟩, fun _ => ⟨b, off, rfl, hb, fun i hi => ?_⟩⟩
  rw [e] at hi
  obtain ⟨s, h1, h2⟩ := hc i (by omega)
  exact ⟨s, h1, by rw [List.getElem?_take, if_pos hi]; exact h2⟩
theorem SsAt.drop {α : Type} {mk : α → Value} {d : α} {N k m cap b off : Nat} {w : World} {xss : List (List α)} (hk : k + m = xss.length) (hl : m ≤ cap ∧ cap ≤ maxLen) (hb : b < N)
    (hc : ∀ i : Nat, i < xss.length → ∃ s, w.cell? ⟨b, off + i, none⟩ = some s ∧ SlAt mk d 0 N w s (xss[i]?.getD []) ∧ CapOk s) : SsAt mk d N w (.slice (some ⟨b, off + k, none⟩) m cap) (xss.drop k) := by
  have e : (xss.drop k).length = m := by simp; omega
  refine ⟨_, cap, by rw [e], ⟨by omega, hl.2⟩, fun _ => ⟨b, off + k, rfl, hb, fun i hi => ?_⟩⟩
  rw [e] at hi
  obtain ⟨s, h1, h2⟩ := hc (k + i) (by omega)
  exact ⟨s, by rw [Nat.add_assoc]; exact h1, by rw [List.getElem?_drop]; exact h2⟩

theorem tot_drop {α : Type} (xss : List (List α)) (i : Nat) : tot (xss.drop i) ≤ tot xss := by
  induction xss generalizing i with
  | nil => simp [tot]
  | cons x r ih => cases i with
    | zero => simp
    | succ i => have := ih i; simp only [List.drop_succ_cons, tot]; omega


end Go.Proofs.YtbgjgaejfkdceaaGreat

namespace Go.Proofs.YtbgjgaejfkdceaaGreat
open Go.RowKit

/-- What is left behind a list of n values: -1 where it does not reach. -/
def szR (left n : Int) : Int := if left < n then -1 else left - n

theorem szR_neg {left n : Int} (h : left < n) : szR left n = -1 := by unfold szR; rw [if_pos h]
theorem szR_pos {left n : Int} (h : n ≤ left) : szR left n = left - n := by unfold szR; rw [if_neg (by omega)]

/-- How many values a list of elements holds: the elements and the numbers of their sets. -/
def bulk : List El → Nat
  | [] => 0
  | x :: r => x.set.length + bulk r

theorem bulk_take_succ (xs : List El) (k : Nat) (h : k < xs.length) : bulk (xs.take (k + 1)) = bulk (xs.take k) + (xs[k]?.getD dE).set.length := by
  induction xs generalizing k with
  | nil => simp at h
  | cons x r ih =>
    cases k with
    | zero => simp [bulk]
    | succ k => simp only [List.take_succ_cons, bulk, List.getElem?_cons_succ]; rw [ih k (by simpa using h)]; omega

end Go.Proofs.YtbgjgaejfkdceaaGreat
