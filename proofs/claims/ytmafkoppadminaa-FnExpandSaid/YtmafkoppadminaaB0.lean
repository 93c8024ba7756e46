import Derived.Test.YtmafkoppadminaaRows
import Derived.WalkKit
import Derived.ProofKit
import Derived.Below
namespace Go.Proofs.Ytmafkoppadminaa
open Go.RowKit
structure El where
  kind : Int
  set : List Int
  mn : Int
  mx : Int
def dE : El := ⟨0, [], 0, 0⟩
def In64 (x : Int) : Prop := -9223372036854775808 ≤ x ∧ x ≤ 9223372036854775807
def IntsAt (lo n : Nat) (w : World) (v : Value) (xs : List Int) : Prop :=
  ∃ a cap, v = .slice a xs.length cap ∧ xs.length ≤ maxLen ∧ (∀ i : Nat, In64 (xs[i]?.getD 0)) ∧
    (0 < xs.length → ∃ b off, a = some ⟨b, off, none⟩ ∧ lo ≤ b ∧ b < n ∧ ∀ i : Nat, i < xs.length → w.cell? ⟨b, off + i, none⟩ = some (.int .i64 (xs[i]?.getD 0)))
def ElAt (lo n : Nat) (w : World) (b o : Nat) (x : El) : Prop :=
  In64 x.kind ∧ In64 x.mn ∧ In64 x.mx ∧ ∃ v, w.cell? ⟨b, o, none⟩ = some (.int .i64 x.kind) ∧ w.cell? ⟨b, o + 1, none⟩ = some v ∧
    w.cell? ⟨b, o + 2, none⟩ = some (.int .i64 x.mn) ∧ w.cell? ⟨b, o + 3, none⟩ = some (.int .i64 x.mx) ∧ IntsAt lo n w v x.set
def ElsAt (lo n : Nat) (w : World) (v : Value) (xs : List El) : Prop :=
  ∃ a cap, v = .slice a xs.length cap ∧ (xs.length ≤ cap ∧ cap ≤ maxLen) ∧
    (0 < xs.length → ∃ b off, a = some ⟨b, off, none⟩ ∧ lo ≤ b ∧ b < n ∧ ∀ i : Nat, i < xs.length → ElAt lo n w b (off + i * 4) (xs[i]?.getD dE))
def Same (lo n : Nat) (w w' : World) : Prop := ∀ b o, lo ≤ b → b < n → w'.cell? ⟨b, o, none⟩ = w.cell? ⟨b, o, none⟩
theorem Same.of_below {lo n m : Nat} {w w' : World} (hb : Below m w w') (hm : n ≤ m) : Same lo n w w' := fun b o _ h => hb.cell (p := ⟨b, o, none⟩) (by show b < m; omega)
theorem Same.refl (lo n : Nat) (w : World) : Same lo n w w := fun _ _ _ _ => rfl
theorem Same.trans {lo n : Nat} {a b c : World} (h : Same lo n a b) (k : Same lo n b c) : Same lo n a c := fun x o h1 h2 => (k x o h1 h2).trans (h x o h1 h2)
theorem Same.mono {lo n lo' n' : Nat} {a b : World} (h : Same lo n a b) (h1 : lo ≤ lo') (h2 : n' ≤ n) : Same lo' n' a b := fun x o k1 k2 => h x o (by omega) (by omega)
theorem Same.setCell {lo n : Nat} {w w' : World} (h : Same lo n w w') {b o : Nat} (hb : b < lo ∨ n ≤ b) (u : Value) : Same lo n w (w'.setCell ⟨b, o, none⟩ u) := by
  intro x p h1 h2
  rw [← h x p h1 h2]
  exact World.cell?_of_block (Below.heap_setCell _ _ _ _ (by show x ≠ b; omega))
theorem IntsAt.same {lo n : Nat} {w w' : World} {v : Value} {xs : List Int} (h : IntsAt lo n w v xs) (hs : Same lo n w w') : IntsAt lo n w' v xs := by
  obtain ⟨a, cap, rfl, hl, hr, hc⟩ := h
  refine ⟨a, cap, rfl, hl, hr, fun hp => ?_⟩
  obtain ⟨b, off, rfl, hlo, hbn, hcell⟩ := hc hp
  exact ⟨b, off, rfl, hlo, hbn, fun i hi => by rw [hs b _ hlo hbn]; exact hcell i hi⟩
theorem IntsAt.mono {lo n lo' m : Nat} {w : World} {v : Value} {xs : List Int} (h : IntsAt lo n w v xs) (hl' : lo' ≤ lo) (hm : n ≤ m) : IntsAt lo' m w v xs := by
  obtain ⟨a, cap, rfl, hl, hr, hc⟩ := h
  refine ⟨a, cap, rfl, hl, hr, fun hp => ?_⟩
  obtain ⟨b, off, rfl, hlo, hbn, hcell⟩ := hc hp
  exact ⟨b, off, rfl, by omega, by omega, hcell⟩
theorem ElAt.same {lo n b o : Nat} {w w' : World} {x : El} (h : ElAt lo n w b o x) (hs : Same lo n w w') (h1 : lo ≤ b) (h2 : b < n) : ElAt lo n w' b o x := by
  obtain ⟨i1, i2, i3, v, c0, c1, c2, c3, hi⟩ := h
  refine ⟨i1, i2, i3, v, ?_, ?_, ?_, ?_, hi.same hs⟩ <;> rw [hs _ _ h1 h2] <;> assumption
theorem ElAt.mono {lo n lo' m b o : Nat} {w : World} {x : El} (h : ElAt lo n w b o x) (hl' : lo' ≤ lo) (hm : n ≤ m) : ElAt lo' m w b o x := by
  obtain ⟨h1, h2, h3, v, c0, c1, c2, c3, hi⟩ := h
  exact ⟨h1, h2, h3, v, c0, c1, c2, c3, hi.mono hl' hm⟩
theorem ElsAt.same {lo n : Nat} {w w' : World} {v : Value} {xs : List El} (h : ElsAt lo n w v xs) (hs : Same lo n w w') : ElsAt lo n w' v xs := by
  obtain ⟨a, cap, rfl, hl, hc⟩ := h
  refine ⟨a, cap, rfl, hl, fun hp => ?_⟩
  obtain ⟨b, off, rfl, hlo, hbn, hcell⟩ := hc hp
  exact ⟨b, off, rfl, hlo, hbn, fun i hi => (hcell i hi).same hs hlo hbn⟩
theorem ElsAt.mono {lo n lo' m : Nat} {w : World} {v : Value} {xs : List El} (h : ElsAt lo n w v xs) (hl' : lo' ≤ lo) (hm : n ≤ m) : ElsAt lo' m w v xs := by
  obtain ⟨a, cap, rfl, hl, hc⟩ := h
  refine ⟨a, cap, rfl, hl, fun hp => ?_⟩
  obtain ⟨b, off, rfl, hlo, hbn, hcell⟩ := hc hp
  exact ⟨b, off, rfl, by omega, by omega, fun i hi => (hcell i hi).mono hl' hm⟩
theorem IntsAt.below {lo m : Nat} {w w' : World} {v : Value} {xs : List Int} (h : IntsAt lo w.heap.size w v xs) (hb : Below m w w') (hm : w.heap.size ≤ m) : IntsAt lo w'.heap.size w' v xs :=
  (h.same (Same.of_below hb hm)).mono (Nat.le_refl _) hb.size
theorem ElsAt.below {lo m : Nat} {w w' : World} {v : Value} {xs : List El} (h : ElsAt lo w.heap.size w v xs) (hb : Below m w w') (hm : w.heap.size ≤ m) : ElsAt lo w'.heap.size w' v xs :=
  (h.same (Same.of_below hb hm)).mono (Nat.le_refl _) hb.size
theorem bcell {W w1 : World} {n : Nat} (hb : Below n W w1) : (∀ b o, b < n → w1.cell? ⟨b, o, none⟩ = W.cell? ⟨b, o, none⟩) ∧ (∀ b o, b < n → w1.frozen? ⟨b, o, none⟩ = W.frozen? ⟨b, o, none⟩) :=
  ⟨fun b o h => hb.cell (p := ⟨b, o, none⟩) h, fun b o h => hb.frozen (p := ⟨b, o, none⟩) h⟩
theorem sz_alloc (w : World) (o : Obj) : (w.alloc o).heap.size = w.heap.size + 1 := by simp
theorem below1 (w : World) (o : Obj) : Below w.heap.size w (w.alloc o) := (Below.refl _ _).alloc (Nat.le_refl _) _
theorem below2 (w : World) (o p : Obj) : Below w.heap.size w ((w.alloc o).alloc p) := (below1 w o).alloc (by rw [sz_alloc]; omega) _
theorem bput {B : Nat} {a w : World} (h : Below B a w) {b o : Nat} (hp : B ≤ b) (u : Value) : Below B a (w.setCell ⟨b, o, none⟩ u) := h.setCell hp u
theorem sz_put (w : World) (p : Addr) (u : Value) : (w.setCell p u).heap.size = w.heap.size := by simp [World.setCell]
def RetB (e : Ending) (P : Prop) : Prop := ∃ r : Bool, e = .returned (.bool r) ∧ (r = true ↔ P)
theorem RetB.yes {P : Prop} (h : P) : RetB (.returned (.bool true)) P := ⟨true, rfl, by simp [h]⟩
theorem RetB.no {P : Prop} (h : ¬ P) : RetB (.returned (.bool false)) P := ⟨false, rfl, by simp [h]⟩
theorem RetB.of {P : Prop} {b : Bool} (h : b = true ↔ P) : RetB (.returned (.bool b)) P := ⟨b, rfl, h⟩
theorem RetB.cases {e : Ending} {P : Prop} (h : RetB e P) : (e = .returned (.bool true) ∧ P) ∨ (e = .returned (.bool false) ∧ ¬ P) := by
  obtain ⟨r, rfl, hr⟩ := h
  cases r with
  | true => exact Or.inl ⟨rfl, hr.1 rfl⟩
  | false => exact Or.inr ⟨rfl, fun hp => Bool.noConfusion (hr.2 hp)⟩
theorem hide {p : Prop} (h : p) : Hid p := h
theorem unhide {p : Prop} (h : Hid p) : p := h
theorem ret_int {k : IntKind} {a b : Int} (h : a = b) : Ending.returned (.int k a) = .returned (.int k b) := by rw [h]
theorem ret_bool {a b : Bool} (h : a = b) : Ending.returned (.bool a) = .returned (.bool b) := by rw [h]
end Go.Proofs.Ytmafkoppadminaa
