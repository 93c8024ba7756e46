import Derived.Test.YtfdkdjngeomcdaaDoorP6
import Derived.Deep.AppendLies
import Derived.Laws.Rows
namespace Go.Proofs.YtfdkdjngeomcdaaDoor
open Go.RowKit

theorem Tryd.zinBS : (Tryd.prog.info? 64).map (fun i => (i.zero, i.size, i.bytes)) = some (some (.agg #[.int .u64 0, .int .u64 0, .int .u64 0, .int .u64 0]), 4, 32) := by kernel_rfl
theorem Tryd.zinPS : (Tryd.prog.info? 78).map (fun i => (i.zero, i.size, i.bytes)) = some (some (.agg #[.int .u64 0, .int .u64 0, .int .u64 0, .int .u64 0, .int .u64 0, .int .u64 0, .int .u64 0, .int .u64 0]), 8, 64) := by kernel_rfl
/-- What a subtree shows: null, first, last. -/
def endV (b : Bool) (f l : Nat → Nat) : Value := .agg #[.bool b, .int .u64 (f 0 : Nat), .int .u64 (f 1 : Nat), .int .u64 (f 2 : Nat), .int .u64 (f 3 : Nat), .int .u64 (f 4 : Nat), .int .u64 (f 5 : Nat), .int .u64 (f 6 : Nat), .int .u64 (f 7 : Nat), .int .u64 (l 0 : Nat), .int .u64 (l 1 : Nat), .int .u64 (l 2 : Nat), .int .u64 (l 3 : Nat), .int .u64 (l 4 : Nat), .int .u64 (l 5 : Nat), .int .u64 (l 6 : Nat), .int .u64 (l 7 : Nat)]
abbrev oE (b : Bool) (f l : Nat → Nat) : Obj := .cells #[.bool b, .int .u64 (f 0 : Nat), .int .u64 (f 1 : Nat), .int .u64 (f 2 : Nat), .int .u64 (f 3 : Nat), .int .u64 (f 4 : Nat), .int .u64 (f 5 : Nat), .int .u64 (f 6 : Nat), .int .u64 (f 7 : Nat), .int .u64 (l 0 : Nat), .int .u64 (l 1 : Nat), .int .u64 (l 2 : Nat), .int .u64 (l 3 : Nat), .int .u64 (l 4 : Nat), .int .u64 (l 5 : Nat), .int .u64 (l 6 : Nat), .int .u64 (l 7 : Nat)] 80
abbrev oE0 : Obj := .cells #[.bool false, .int .u64 0, .int .u64 0, .int .u64 0, .int .u64 0, .int .u64 0, .int .u64 0, .int .u64 0, .int .u64 0, .int .u64 0, .int .u64 0, .int .u64 0, .int .u64 0, .int .u64 0, .int .u64 0, .int .u64 0, .int .u64 0] 80
abbrev o80 : Obj := .cells #[.int .u64 0, .int .u64 0, .int .u64 0, .int .u64 0, .int .u64 0, .int .u64 0, .int .u64 0, .int .u64 0] 78
abbrev o4 (g : Nat → Nat) : Obj := .cells #[.int .u64 (g 0 : Nat), .int .u64 (g 1 : Nat), .int .u64 (g 2 : Nat), .int .u64 (g 3 : Nat)] 64
def endF (b : Bool) (f l : Nat → Nat) : Nat → Value := fun k => if k = 0 then .bool b else if k < 9 then wd f (k - 1) else wd l (k - 9)
def EndAt (w : World) (B : Nat) (b : Bool) (f l : Nat → Nat) : Prop := w.rowIs B 80 17 (endF b f l)
def z8 : Nat → Nat := fun _ => 0
theorem z8_fit : Fit z8 := fun _ => by show 0 < 18446744073709551616; omega
theorem end_new (w : World) (b : Bool) (f l : Nat → Nat) : EndAt (w.alloc (oE b f l)) w.heap.size b f l := by
  refine World.rowIs_alloc w #[.bool b, .int .u64 (f 0 : Nat), .int .u64 (f 1 : Nat), .int .u64 (f 2 : Nat), .int .u64 (f 3 : Nat), .int .u64 (f 4 : Nat), .int .u64 (f 5 : Nat), .int .u64 (f 6 : Nat), .int .u64 (f 7 : Nat), .int .u64 (l 0 : Nat), .int .u64 (l 1 : Nat), .int .u64 (l 2 : Nat), .int .u64 (l 3 : Nat), .int .u64 (l 4 : Nat), .int .u64 (l 5 : Nat), .int .u64 (l 6 : Nat), .int .u64 (l 7 : Nat)] 80 (endF b f l) ?_
  intro i hi
  match i, hi with
  | 0, _ => rfl
  | 1, _ => rfl
  | 2, _ => rfl
  | 3, _ => rfl
  | 4, _ => rfl
  | 5, _ => rfl
  | 6, _ => rfl
  | 7, _ => rfl
  | 8, _ => rfl
  | 9, _ => rfl
  | 10, _ => rfl
  | 11, _ => rfl
  | 12, _ => rfl
  | 13, _ => rfl
  | 14, _ => rfl
  | 15, _ => rfl
  | 16, _ => rfl
  | n + 17, h => exact absurd h (by show ¬ (n + 17 < 17); omega)

theorem end_new0 (w : World) : EndAt (w.alloc oE0) w.heap.size false z8 z8 := end_new w false z8 z8
theorem eight_new0 (w : World) : (w.alloc o80).rowIs w.heap.size 78 8 (wd z8) := eight_row w 78 z8
theorem EndAt.lt {w : World} {B : Nat} {b : Bool} {f l : Nat → Nat} (h : EndAt w B b f l) : B < w.heap.size := World.rowIs.lt h
theorem EndAt.on {w w' : World} {B : Nat} {b : Bool} {f l : Nat → Nat} (h : EndAt w B b f l) (e : w'.heap[B]? = w.heap[B]?) : EndAt w' B b f l := World.rowIs.of_block h e
theorem EndAt.cell {w : World} {B : Nat} {b : Bool} {f l : Nat → Nat} (h : EndAt w B b f l) (k : Nat) (hk : k < 17) : w.cell? ⟨B, k, none⟩ = some (endF b f l k) := World.rowIs.cell h hk
/-- All cells of a box of ends, written one behind the other. -/
abbrev s17 (w : World) (B : Nat) (b : Bool) (f l : Nat → Nat) : World := (((((((((((((((((w).setCell ⟨B, 0, none⟩ (.bool b)).setCell ⟨B, 1, none⟩ (.int .u64 (f 0 : Nat))).setCell ⟨B, 2, none⟩ (.int .u64 (f 1 : Nat))).setCell ⟨B, 3, none⟩ (.int .u64 (f 2 : Nat))).setCell ⟨B, 4, none⟩ (.int .u64 (f 3 : Nat))).setCell ⟨B, 5, none⟩ (.int .u64 (f 4 : Nat))).setCell ⟨B, 6, none⟩ (.int .u64 (f 5 : Nat))).setCell ⟨B, 7, none⟩ (.int .u64 (f 6 : Nat))).setCell ⟨B, 8, none⟩ (.int .u64 (f 7 : Nat))).setCell ⟨B, 9, none⟩ (.int .u64 (l 0 : Nat))).setCell ⟨B, 10, none⟩ (.int .u64 (l 1 : Nat))).setCell ⟨B, 11, none⟩ (.int .u64 (l 2 : Nat))).setCell ⟨B, 12, none⟩ (.int .u64 (l 3 : Nat))).setCell ⟨B, 13, none⟩ (.int .u64 (l 4 : Nat))).setCell ⟨B, 14, none⟩ (.int .u64 (l 5 : Nat))).setCell ⟨B, 15, none⟩ (.int .u64 (l 6 : Nat))).setCell ⟨B, 16, none⟩ (.int .u64 (l 7 : Nat))
theorem s17_end {w : World} {B : Nat} {F : Nat → Value} (h : w.rowIs B 80 17 F) (b : Bool) (f l : Nat → Nat) : EndAt (s17 w B b f l) B b f l := by
  have h2 := (((((((((((((((((h).set 0 (.bool b)).set 1 (.int .u64 (f 0 : Nat))).set 2 (.int .u64 (f 1 : Nat))).set 3 (.int .u64 (f 2 : Nat))).set 4 (.int .u64 (f 3 : Nat))).set 5 (.int .u64 (f 4 : Nat))).set 6 (.int .u64 (f 5 : Nat))).set 7 (.int .u64 (f 6 : Nat))).set 8 (.int .u64 (f 7 : Nat))).set 9 (.int .u64 (l 0 : Nat))).set 10 (.int .u64 (l 1 : Nat))).set 11 (.int .u64 (l 2 : Nat))).set 12 (.int .u64 (l 3 : Nat))).set 13 (.int .u64 (l 4 : Nat))).set 14 (.int .u64 (l 5 : Nat))).set 15 (.int .u64 (l 6 : Nat))).set 16 (.int .u64 (l 7 : Nat))
  refine h2.congr (fun k hk => ?_)
  match k, hk with
  | 0, _ => simp [endF]
  | 1, _ => simp [endF, wd]
  | 2, _ => simp [endF, wd]
  | 3, _ => simp [endF, wd]
  | 4, _ => simp [endF, wd]
  | 5, _ => simp [endF, wd]
  | 6, _ => simp [endF, wd]
  | 7, _ => simp [endF, wd]
  | 8, _ => simp [endF, wd]
  | 9, _ => simp [endF, wd]
  | 10, _ => simp [endF, wd]
  | 11, _ => simp [endF, wd]
  | 12, _ => simp [endF, wd]
  | 13, _ => simp [endF, wd]
  | 14, _ => simp [endF, wd]
  | 15, _ => simp [endF, wd]
  | 16, _ => simp [endF, wd]
  | n + 17, h => exact absurd h (by omega)
theorem s17_ob (w : World) (B : Nat) (b : Bool) (f l : Nat → Nat) : Obk B w (s17 w B b f l) := (((((((((((((((((Obk.refl _ _).trans (obk_put _ _)).trans (obk_put _ _)).trans (obk_put _ _)).trans (obk_put _ _)).trans (obk_put _ _)).trans (obk_put _ _)).trans (obk_put _ _)).trans (obk_put _ _)).trans (obk_put _ _)).trans (obk_put _ _)).trans (obk_put _ _)).trans (obk_put _ _)).trans (obk_put _ _)).trans (obk_put _ _)).trans (obk_put _ _)).trans (obk_put _ _)).trans (obk_put _ _)
theorem EndAt.blk {w : World} {B : Nat} {b : Bool} {f l : Nat → Nat} (h : EndAt w B b f l) : w.heap[B]? = some (.cells #[.bool b, .int .u64 (f 0 : Nat), .int .u64 (f 1 : Nat), .int .u64 (f 2 : Nat), .int .u64 (f 3 : Nat), .int .u64 (f 4 : Nat), .int .u64 (f 5 : Nat), .int .u64 (f 6 : Nat), .int .u64 (f 7 : Nat), .int .u64 (l 0 : Nat), .int .u64 (l 1 : Nat), .int .u64 (l 2 : Nat), .int .u64 (l 3 : Nat), .int .u64 (l 4 : Nat), .int .u64 (l 5 : Nat), .int .u64 (l 6 : Nat), .int .u64 (l 7 : Nat)] 80) := by
  obtain ⟨cur, h1, h2, h3⟩ := h
  rw [h1]
  congr 2
  refine Array.ext (by rw [h2]; rfl) (fun i hi hj => ?_)
  have h4 := h3 i (by omega)
  rw [Array.getElem?_eq_getElem hi] at h4
  rw [Option.some.inj h4]
  have hi2 : i < 17 := by omega
  match i, hi2 with
  | 0, _ => rfl
  | 1, _ => rfl
  | 2, _ => rfl
  | 3, _ => rfl
  | 4, _ => rfl
  | 5, _ => rfl
  | 6, _ => rfl
  | 7, _ => rfl
  | 8, _ => rfl
  | 9, _ => rfl
  | 10, _ => rfl
  | 11, _ => rfl
  | 12, _ => rfl
  | 13, _ => rfl
  | 14, _ => rfl
  | 15, _ => rfl
  | 16, _ => rfl
  | n + 17, h => exact absurd h (by omega)
theorem end_ret {w : World} {B : Nat} {b : Bool} {f l : Nat → Nat} (h : EndAt w B b f l) {fn : Func} {p : Tmp} (hr : fn.results = #[.cell p 80]) (tmps : Array Value) (hp : tmps.getD p undef = .pointer (some ⟨B, 0, none⟩)) : (results fn tmps).run Tryd.prog w = .ok (endV b f l) w :=
  results_cell_row hr tmps w B _ _ _ _ hp h.blk Tryd.underlying80 rfl (by kernel_rfl)
theorem bits_put0 (N : Nat) : BitsOf (putW z8 N) [N] := by
  refine ⟨fit_put z8_fit N, fun b => ?_⟩
  have h := bt_put z8 N b
  unfold putW
  rw [h]
  simp [Bt, z8]

end Go.Proofs.YtfdkdjngeomcdaaDoor
