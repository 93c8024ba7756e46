import Derived.Test.YtfdkdjngeomcdaaDoorP6
import Derived.Deep.AppendLies
import Derived.Laws.Rows
import Derived.Laws.CopyOwn
import Derived.Laws.CopyRow
import Derived.StillTail
import Derived.BigQuiet
import Derived.Laws.Tables
namespace Go.Proofs.YtfdkdjngeomcdaaDoor
open Go.RowKit

/-- All but one block and what is new. -/
abbrev OneB (w : World) (b : Nat) : Nat → Prop := fun k => k = b ∨ w.heap.size ≤ k
/-- What a numbering answers to a key. -/
def NumR (ks : List Value) (v : Value) (ks' : List Value) (i : Nat) (f : Bool) : Prop := (v ∈ ks ∧ ks' = ks ∧ ks[i]? = some v ∧ f = false) ∨ (v ∉ ks ∧ ks' = ks ++ [v] ∧ i = ks.length ∧ f = true)
theorem NumR.at {ks ks' : List Value} {v : Value} {i : Nat} {f : Bool} (h : NumR ks v ks' i f) : ks'[i]? = some v := by
  rcases h with ⟨-, rfl, h, -⟩ | ⟨-, rfl, rfl, -⟩
  · exact h
  · simp

set_option maxHeartbeats 2000000 in
set_option maxRecDepth 100000 in
theorem newBs_any (w : World) : Calls Tryd.prog 27 #[] w fun e w' => e = .returned (.agg #[.map (some (w.heap.size + 1))]) ∧ NumAt 64 w' (w.heap.size + 1) [] ∧ w'.heap.size = w.heap.size + 2 ∧ Below w.heap.size w w' := by
  have hmm := @run_makeMap Tryd.prog
  have hN := num_new 64 (w.alloc (.cells #[.map (some (w.heap.size + 1))] 74))
  rw [sz_alloc] at hN
  have hB := below2 w (.cells #[.map (some (w.heap.size + 1))] 74) (.map #[] 0)
  have HN := hide hN
  have HB := hide hB
  clear hN hB
  go_enter Tryd.func27, Tryd.ntmps27
  go_wp2
  refine bodyPost_ret (v := .agg #[.map (some (w.heap.size + 1))]) (by simp [results, Tryd.results27, go_sem]) rfl ?_
  refine ⟨rfl, unhide HN, by rw [sz_alloc, sz_alloc], unhide HB⟩

set_option maxHeartbeats 4000000 in
set_option maxRecDepth 100000 in
theorem ofBs_any (b : Nat) (g : Nat → Nat) (ks : List Value) (w : World) (h : NumAt 64 w b ks) (hg : Fit g) (hn : ks.length < 100000) :
    Calls Tryd.prog 28 #[.agg #[.map (some b)], ws4 g] w fun e w' => ∃ i ks' f, e = .returned (.tuple #[.int .i64 (i : Nat), .bool f]) ∧ NumR ks (ws4 g) ks' i f ∧ NumAt 64 w' b ks' ∧ FrO (OneB w b) w w' := by
  have hB := below2 w (.cells #[.map (some b)] 74) (.cells #[.int .u64 (g 0 : Nat), .int .u64 (g 1 : Nat), .int .u64 (g 2 : Nat), .int .u64 (g 3 : Nat)] 64)
  have hlt := h.lt
  have hW := h.keep (hB.block b hlt)
  have hz : ((w.alloc (.cells #[.map (some b)] 74)).alloc (.cells #[.int .u64 (g 0 : Nat), .int .u64 (g 1 : Nat), .int .u64 (g 2 : Nat), .int .u64 (g 3 : Nat)] 64)).heap.size = w.heap.size + 2 := by rw [sz_alloc, sz_alloc]
  have HF0 : Hid (FrO (OneB w b) w ((w.alloc (.cells #[.map (some b)] 74)).alloc (.cells #[.int .u64 (g 0 : Nat), .int .u64 (g 1 : Nat), .int .u64 (g 2 : Nat), .int .u64 (g 3 : Nat)] 64))) := fro_of hB (fun k hk => Or.inr hk)
  rcases hW.look Tryd.lawBs Tryd.underlying72 (key_bs hg) with ⟨i, hi, hl⟩ | ⟨hno, hl⟩
  · have HW := hide hW
    have HI := hide hi
    clear hW hi h hB
    unfold ws4 at hl ⊢
    go_enter Tryd.func28, Tryd.ntmps28
    go_wp2
    go_ret2
    exact ⟨i, ks, false, rfl, Or.inl ⟨List.mem_of_getElem? (unhide HI), rfl, unhide HI, rfl⟩, unhide HW, unhide HF0⟩
  · have hln := fun ty => hW.len Tryd.underlying72 ty
    obtain ⟨w3, hput, hN3, hob⟩ := hW.put Tryd.lawBs Tryd.underlying72 hn (key_bs hg) hno
    have HN3 := hide hN3
    have HF3 := hide ((unhide HF0).trans (hob.fro (Or.inl rfl)))
    have HNO := hide hno
    clear hW hno h hB hN3 hob
    unfold ws4 at hl hput ⊢
    go_enter Tryd.func28, Tryd.ntmps28
    go_wp2
    go_ret2
    exact ⟨ks.length, ks ++ [ws4 g], true, rfl, Or.inr ⟨unhide HNO, rfl, rfl, rfl⟩, unhide HN3, unhide HF3⟩

set_option maxHeartbeats 2000000 in
set_option maxRecDepth 100000 in
theorem newPs_any (w : World) : Calls Tryd.prog 48 #[] w fun e w' => e = .returned (.agg #[.map (some (w.heap.size + 1))]) ∧ NumAt 78 w' (w.heap.size + 1) [] ∧ w'.heap.size = w.heap.size + 2 ∧ Below w.heap.size w w' := by
  have hmm := @run_makeMap Tryd.prog
  have hN := num_new 78 (w.alloc (.cells #[.map (some (w.heap.size + 1))] 111))
  rw [sz_alloc] at hN
  have hB := below2 w (.cells #[.map (some (w.heap.size + 1))] 111) (.map #[] 0)
  have HN := hide hN
  have HB := hide hB
  clear hN hB
  go_enter Tryd.func48, Tryd.ntmps48
  go_wp2
  refine bodyPost_ret (v := .agg #[.map (some (w.heap.size + 1))]) (by simp [results, Tryd.results48, go_sem]) rfl ?_
  refine ⟨rfl, unhide HN, by rw [sz_alloc, sz_alloc], unhide HB⟩

set_option maxHeartbeats 4000000 in
set_option maxRecDepth 100000 in
theorem ofPs_any (b : Nat) (g : Nat → Nat) (ks : List Value) (w : World) (h : NumAt 78 w b ks) (hg : Fit g) (hn : ks.length < 100000) :
    Calls Tryd.prog 50 #[.agg #[.map (some b)], ps8 g] w fun e w' => ∃ i ks' f, e = .returned (.tuple #[.int .i64 (i : Nat), .bool f]) ∧ NumR ks (ps8 g) ks' i f ∧ NumAt 78 w' b ks' ∧ FrO (OneB w b) w w' := by
  have hB := below2 w (.cells #[.map (some b)] 111) (.cells #[.int .u64 (g 0 : Nat), .int .u64 (g 1 : Nat), .int .u64 (g 2 : Nat), .int .u64 (g 3 : Nat), .int .u64 (g 4 : Nat), .int .u64 (g 5 : Nat), .int .u64 (g 6 : Nat), .int .u64 (g 7 : Nat)] 78)
  have hlt := h.lt
  have hW := h.keep (hB.block b hlt)
  have hz : ((w.alloc (.cells #[.map (some b)] 111)).alloc (.cells #[.int .u64 (g 0 : Nat), .int .u64 (g 1 : Nat), .int .u64 (g 2 : Nat), .int .u64 (g 3 : Nat), .int .u64 (g 4 : Nat), .int .u64 (g 5 : Nat), .int .u64 (g 6 : Nat), .int .u64 (g 7 : Nat)] 78)).heap.size = w.heap.size + 2 := by rw [sz_alloc, sz_alloc]
  have HF0 : Hid (FrO (OneB w b) w ((w.alloc (.cells #[.map (some b)] 111)).alloc (.cells #[.int .u64 (g 0 : Nat), .int .u64 (g 1 : Nat), .int .u64 (g 2 : Nat), .int .u64 (g 3 : Nat), .int .u64 (g 4 : Nat), .int .u64 (g 5 : Nat), .int .u64 (g 6 : Nat), .int .u64 (g 7 : Nat)] 78))) := fro_of hB (fun k hk => Or.inr hk)
  rcases hW.look Tryd.lawPs Tryd.underlying109 (key_ps hg) with ⟨i, hi, hl⟩ | ⟨hno, hl⟩
  · have HW := hide hW
    have HI := hide hi
    clear hW hi h hB
    unfold ps8 at hl ⊢
    go_enter Tryd.func50, Tryd.ntmps50
    go_wp2
    go_ret2
    exact ⟨i, ks, false, rfl, Or.inl ⟨List.mem_of_getElem? (unhide HI), rfl, unhide HI, rfl⟩, unhide HW, unhide HF0⟩
  · have hln := fun ty => hW.len Tryd.underlying109 ty
    obtain ⟨w3, hput, hN3, hob⟩ := hW.put Tryd.lawPs Tryd.underlying109 hn (key_ps hg) hno
    have HN3 := hide hN3
    have HF3 := hide ((unhide HF0).trans (hob.fro (Or.inl rfl)))
    have HNO := hide hno
    clear hW hno h hB hN3 hob
    unfold ps8 at hl hput ⊢
    go_enter Tryd.func50, Tryd.ntmps50
    go_wp2
    go_ret2
    exact ⟨ks.length, ks ++ [ps8 g], true, rfl, Or.inr ⟨unhide HNO, rfl, rfl, rfl⟩, unhide HN3, unhide HF3⟩

end Go.Proofs.YtfdkdjngeomcdaaDoor

namespace Go.Proofs.YtfdkdjngeomcdaaDoor
open Go.RowKit

theorem Tryd.zinBS : (Tryd.prog.info? 64).map (fun i => (i.zero, i.size, i.bytes)) = some (some (.agg #[.int .u64 0, .int .u64 0, .int .u64 0, .int .u64 0]), 4, 32) := by kernel_rfl
theorem Tryd.zinPS : (Tryd.prog.info? 78).map (fun i => (i.zero, i.size, i.bytes)) = some (some (.agg #[.int .u64 0, .int .u64 0, .int .u64 0, .int .u64 0, .int .u64 0, .int .u64 0, .int .u64 0, .int .u64 0]), 8, 64) := by kernel_rfl
/-- What a subtree shows: null, first, last. -/
def endV (b : Bool) (f l : Nat → Nat) : Value := .agg #[.bool b, .int .u64 (f 0 : Nat), .int .u64 (f 1 : Nat), .int .u64 (f 2 : Nat), .int .u64 (f 3 : Nat), .int .u64 (f 4 : Nat), .int .u64 (f 5 : Nat), .int .u64 (f 6 : Nat), .int .u64 (f 7 : Nat), .int .u64 (l 0 : Nat), .int .u64 (l 1 : Nat), .int .u64 (l 2 : Nat), .int .u64 (l 3 : Nat), .int .u64 (l 4 : Nat), .int .u64 (l 5 : Nat), .int .u64 (l 6 : Nat), .int .u64 (l 7 : Nat)]
abbrev oE (b : Bool) (f l : Nat → Nat) : Obj := .cells #[.bool b, .int .u64 (f 0 : Nat), .int .u64 (f 1 : Nat), .int .u64 (f 2 : Nat), .int .u64 (f 3 : Nat), .int .u64 (f 4 : Nat), .int .u64 (f 5 : Nat), .int .u64 (f 6 : Nat), .int .u64 (f 7 : Nat), .int .u64 (l 0 : Nat), .int .u64 (l 1 : Nat), .int .u64 (l 2 : Nat), .int .u64 (l 3 : Nat), .int .u64 (l 4 : Nat), .int .u64 (l 5 : Nat), .int .u64 (l 6 : Nat), .int .u64 (l 7 : Nat)] 80
abbrev oE0 : Obj := .cells #[.bool false, .int .u64 0, .int .u64 0, .int .u64 0, .int .u64 0, .int .u64 0, .int .u64 0, .int .u64 0, .int .u64 0, .int .u64 0, .int .u64 0, .int .u64 0, .int .u64 0, .int .u64 0, .int .u64 0, .int .u64 0, .int .u64 0] 80
abbrev o80 : Obj := .cells #[.int .u64 0, .int .u64 0, .int .u64 0, .int .u64 0, .int .u64 0, .int .u64 0, .int .u64 0, .int .u64 0] 78
abbrev o4 (g : Nat → Nat) : Obj := .cells #[.int .u64 (g 0 : Nat), .int .u64 (g 1 : Nat), .int .u64 (g 2 : Nat), .int .u64 (g 3 : Nat)] 64
def endF (b : Bool) (f l : Nat → Nat) : Nat → Value := fun k => if k = 0 then .bool b else if k < 9 then wd f (k - 1) else wd l (k - 9)
def EndAt (w : World) (B : Nat) (b : Bool) (f l : Nat → Nat) : Prop := w.rowIs B 80 17 (endF b f l)
def z8 : Nat → Nat := fun _ => 0
theorem z8_fit : Fit z8 := fun _ => by show 0 < 18446744073709551616; omega
theorem end_new (w : World) (b : Bool) (f l : Nat → Nat) : EndAt (w.alloc (oE b f l)) w.heap.size b f l := by
  refine World.rowIs_alloc w #[.bool b, .int .u64 (f 0 : Nat), .int .u64 (f 1 : Nat), .int .u64 (f 2 : Nat), .int .u64 (f 3 : Nat), .int .u64 (f 4 : Nat), .int .u64 (f 5 : Nat), .int .u64 (f 6 : Nat), .int .u64 (f 7 : Nat), .int .u64 (l 0 : Nat), .int .u64 (l 1 : Nat), .int .u64 (l 2 : Nat), .int .u64 (l 3 : Nat), .int .u64 (l 4 : Nat), .int .u64 (l 5 : Nat), .int .u64 (l 6 : Nat), .int .u64 (l 7 : Nat)] 80 (endF b f l) ?_
  intro i hi
  match i, hi with
  | 0, _ => rfl
  | 1, _ => rfl
  | 2, _ => rfl
  | 3, _ => rfl
  | 4, _ => rfl
  | 5, _ => rfl
  | 6, _ => rfl
  | 7, _ => rfl
  | 8, _ => rfl
  | 9, _ => rfl
  | 10, _ => rfl
  | 11, _ => rfl
  | 12, _ => rfl
  | 13, _ => rfl
  | 14, _ => rfl
  | 15, _ => rfl
  | 16, _ => rfl
  | n + 17, h => exact absurd h (by show ¬ (n + 17 < 17); omega)

theorem end_new0 (w : World) : EndAt (w.alloc oE0) w.heap.size false z8 z8 := end_new w false z8 z8
theorem eight_new0 (w : World) : (w.alloc o80).rowIs w.heap.size 78 8 (wd z8) := eight_row w 78 z8
theorem EndAt.lt {w : World} {B : Nat} {b : Bool} {f l : Nat → Nat} (h : EndAt w B b f l) : B < w.heap.size := World.rowIs.lt h
theorem EndAt.on {w w' : World} {B : Nat} {b : Bool} {f l : Nat → Nat} (h : EndAt w B b f l) (e : w'.heap[B]? = w.heap[B]?) : EndAt w' B b f l := World.rowIs.of_block h e
theorem EndAt.cell {w : World} {B : Nat} {b : Bool} {f l : Nat → Nat} (h : EndAt w B b f l) (k : Nat) (hk : k < 17) : w.cell? ⟨B, k, none⟩ = some (endF b f l k) := World.rowIs.cell h hk
/-- All cells of a box of ends, written one behind the other. -/
abbrev s17 (w : World) (B : Nat) (b : Bool) (f l : Nat → Nat) : World := (((((((((((((((((w).setCell ⟨B, 0, none⟩ (.bool b)).setCell ⟨B, 1, none⟩ (.int .u64 (f 0 : Nat))).setCell ⟨B, 2, none⟩ (.int .u64 (f 1 : Nat))).setCell ⟨B, 3, none⟩ (.int .u64 (f 2 : Nat))).setCell ⟨B, 4, none⟩ (.int .u64 (f 3 : Nat))).setCell ⟨B, 5, none⟩ (.int .u64 (f 4 : Nat))).setCell ⟨B, 6, none⟩ (.int .u64 (f 5 : Nat))).setCell ⟨B, 7, none⟩ (.int .u64 (f 6 : Nat))).setCell ⟨B, 8, none⟩ (.int .u64 (f 7 : Nat))).setCell ⟨B, 9, none⟩ (.int .u64 (l 0 : Nat))).setCell ⟨B, 10, none⟩ (.int .u64 (l 1 : Nat))).setCell ⟨B, 11, none⟩ (.int .u64 (l 2 : Nat))).setCell ⟨B, 12, none⟩ (.int .u64 (l 3 : Nat))).setCell ⟨B, 13, none⟩ (.int .u64 (l 4 : Nat))).setCell ⟨B, 14, none⟩ (.int .u64 (l 5 : Nat))).setCell ⟨B, 15, none⟩ (.int .u64 (l 6 : Nat))).setCell ⟨B, 16, none⟩ (.int .u64 (l 7 : Nat))
theorem s17_end {w : World} {B : Nat} {F : Nat → Value} (h : w.rowIs B 80 17 F) (b : Bool) (f l : Nat → Nat) : EndAt (s17 w B b f l) B b f l := by
  have h2 := (((((((((((((((((h).set 0 (.bool b)).set 1 (.int .u64 (f 0 : Nat))).set 2 (.int .u64 (f 1 : Nat))).set 3 (.int .u64 (f 2 : Nat))).set 4 (.int .u64 (f 3 : Nat))).set 5 (.int .u64 (f 4 : Nat))).set 6 (.int .u64 (f 5 : Nat))).set 7 (.int .u64 (f 6 : Nat))).set 8 (.int .u64 (f 7 : Nat))).set 9 (.int .u64 (l 0 : Nat))).set 10 (.int .u64 (l 1 : Nat))).set 11 (.int .u64 (l 2 : Nat))).set 12 (.int .u64 (l 3 : Nat))).set 13 (.int .u64 (l 4 : Nat))).set 14 (.int .u64 (l 5 : Nat))).set 15 (.int .u64 (l 6 : Nat))).set 16 (.int .u64 (l 7 : Nat))
  refine h2.congr (fun k hk => ?_)
  match k, hk with
  | 0, _ => simp [endF]
  | 1, _ => simp [endF, wd]
  | 2, _ => simp [endF, wd]
  | 3, _ => simp [endF, wd]
  | 4, _ => simp [endF, wd]
  | 5, _ => simp [endF, wd]
  | 6, _ => simp [endF, wd]
  | 7, _ => simp [endF, wd]
  | 8, _ => simp [endF, wd]
  | 9, _ => simp [endF, wd]
  | 10, _ => simp [endF, wd]
  | 11, _ => simp [endF, wd]
  | 12, _ => simp [endF, wd]
  | 13, _ => simp [endF, wd]
  | 14, _ => simp [endF, wd]
  | 15, _ => simp [endF, wd]
  | 16, _ => simp [endF, wd]
  | n + 17, h => exact absurd h (by omega)
theorem s17_ob (w : World) (B : Nat) (b : Bool) (f l : Nat → Nat) : Obk B w (s17 w B b f l) := (((((((((((((((((Obk.refl _ _).trans (obk_put _ _)).trans (obk_put _ _)).trans (obk_put _ _)).trans (obk_put _ _)).trans (obk_put _ _)).trans (obk_put _ _)).trans (obk_put _ _)).trans (obk_put _ _)).trans (obk_put _ _)).trans (obk_put _ _)).trans (obk_put _ _)).trans (obk_put _ _)).trans (obk_put _ _)).trans (obk_put _ _)).trans (obk_put _ _)).trans (obk_put _ _)).trans (obk_put _ _)
theorem EndAt.blk {w : World} {B : Nat} {b : Bool} {f l : Nat → Nat} (h : EndAt w B b f l) : w.heap[B]? = some (.cells #[.bool b, .int .u64 (f 0 : Nat), .int .u64 (f 1 : Nat), .int .u64 (f 2 : Nat), .int .u64 (f 3 : Nat), .int .u64 (f 4 : Nat), .int .u64 (f 5 : Nat), .int .u64 (f 6 : Nat), .int .u64 (f 7 : Nat), .int .u64 (l 0 : Nat), .int .u64 (l 1 : Nat), .int .u64 (l 2 : Nat), .int .u64 (l 3 : Nat), .int .u64 (l 4 : Nat), .int .u64 (l 5 : Nat), .int .u64 (l 6 : Nat), .int .u64 (l 7 : Nat)] 80) := by
  obtain ⟨cur, h1, h2, h3⟩ := h
  rw [h1]
  congr 2
  refine Array.ext (by rw [h2]; rfl) (fun i hi hj => ?_)
  have h4 := h3 i (by omega)
  rw [Array.getElem?_eq_getElem hi] at h4
  rw [Option.some.inj h4]
  have hi2 : i < 17 := by omega
  match i, hi2 with
  | 0, _ => rfl
  | 1, _ => rfl
  | 2, _ => rfl
  | 3, _ => rfl
  | 4, _ => rfl
  | 5, _ => rfl
  | 6, _ => rfl
  | 7, _ => rfl
  | 8, _ => rfl
  | 9, _ => rfl
  | 10, _ => rfl
  | 11, _ => rfl
  | 12, _ => rfl
  | 13, _ => rfl
  | 14, _ => rfl
  | 15, _ => rfl
  | 16, _ => rfl
  | n + 17, h => exact absurd h (by omega)
theorem end_ret {w : World} {B : Nat} {b : Bool} {f l : Nat → Nat} (h : EndAt w B b f l) {fn : Func} {p : Tmp} (hr : fn.results = #[.cell p 80]) (tmps : Array Value) (hp : tmps.getD p undef = .pointer (some ⟨B, 0, none⟩)) : (results fn tmps).run Tryd.prog w = .ok (endV b f l) w :=
  results_cell_row hr tmps w B _ _ _ _ hp h.blk Tryd.underlying80 rfl (by kernel_rfl)
theorem bits_put0 (N : Nat) : BitsOf (putW z8 N) [N] := by
  refine ⟨fit_put z8_fit N, fun b => ?_⟩
  have h := bt_put z8 N b
  unfold putW
  rw [h]
  simp [Bt, z8]

end Go.Proofs.YtfdkdjngeomcdaaDoor

namespace Go.Proofs.YtfdkdjngeomcdaaDoor
open Go.RowKit

theorem Tryd.zinBoolM : (Tryd.prog.info? 4).map (fun i => (i.zero, i.size, i.bytes)) = some (some (.bool false), 1, 1) := by kernel_rfl

/-- A row of n + 1 marks. -/
abbrev vB (b n : Nat) : Value := .slice (some ⟨b, 0, none⟩) (n + 1) (n + 1)
def BR (w : World) (n b : Nat) (F : Nat → Bool) : Prop := w.rowIs b 4 (n + 1) (fun j => .bool (F j))
theorem BR.keep {w w' : World} {n b : Nat} {F : Nat → Bool} (h : BR w n b F) (e : w'.heap[b]? = w.heap[b]?) : BR w' n b F := World.rowIs.of_block h e
theorem BR.lt {w : World} {n b : Nat} {F : Nat → Bool} (h : BR w n b F) : b < w.heap.size := by
  obtain ⟨c, hc, -⟩ := h
  exact (Array.getElem?_eq_some_iff.1 hc).1
theorem BR.below {w w' : World} {n b m : Nat} {F : Nat → Bool} (h : BR w n b F) (hb : Below m w w') (hm : w.heap.size ≤ m) : BR w' n b F := h.keep (hb.block b (Nat.lt_of_lt_of_le h.lt hm))
theorem BR.same {w : World} {n b : Nat} {F G : Nat → Bool} (h : BR w n b F) (e : ∀ j, j ≤ n → F j = G j) : BR w n b G := World.rowIs.congr h (fun j hj => by rw [e j (by omega)])
theorem br_made (w : World) (n : Nat) : BR (w.alloc (.cells (madeCells #[.bool false] (n + 1)) 4)) n w.heap.size (fun _ => false) := World.rowIs_made w (.bool false) (n + 1) 4
/-- copy of one row of marks over another. -/
theorem copy_bools (w : World) (n g s : Nat) (F H : Nat → Bool) (hg : BR w n g F) (hs : BR w n s H) :
    ∃ w' : World, (∀ ty, Sem.run Tryd.prog (Builtin.copy_ #[56, 56] ty #[vB g n, vB s n]) w = .ok (goInt (n + 1)) w') ∧ BR w' n g H ∧ Obk g w w' := by
  obtain ⟨c, hc, hcs, -⟩ := hg
  have hlen : ((List.range (n + 1)).map (fun j => Value.bool (H j))).length = n + 1 := by simp
  have hsz : (Tryd.prog.info? 4).map (·.size) = some 1 := by
    have := congrArg (Option.map (fun x : Option Value × Nat × Nat => x.2.1)) Tryd.zinBoolM
    rw [Option.map_map] at this
    exact this
  have hr : ∀ ty, Sem.run Tryd.prog (Builtin.copy_ #[56, 56] ty #[vB g n, vB s n]) w = _ := fun ty => run_copy_row (P := Tryd.prog) w 56 56 ty 4 g 0 (n + 1) (n + 1) ⟨s, 0, none⟩ (n + 1) (n + 1) c 4 ((List.range (n + 1)).map (fun j => Value.bool (H j))) Tryd.underlying56 hsz hc (by rw [hlen]; simp) (fun j v hv => by
    rw [List.getElem?_map] at hv
    by_cases e : j < n + 1
    · rw [List.getElem?_range e] at hv
      simp only [Option.map_some, Option.some.injEq] at hv
      subst hv
      have e3 : (⟨s, 0, none⟩ : Addr).add j = ⟨s, j, none⟩ := by cases j <;> simp [Addr.add]
      rw [e3]
      exact World.rowIs.cell hs e
    · rw [List.getElem?_eq_none (by simpa using e)] at hv
      cases hv) (by rw [hlen]; omega) (fun v hv => by
    obtain ⟨j, -, rfl⟩ := List.mem_map.1 hv
    rfl)
  rw [hlen] at hr
  refine ⟨_, hr, ?_, ⟨rfl, rfl, rfl, by simp [World.setRow], fun k hk => setRow_other w g k _ hk⟩⟩
  refine ⟨_, setRow_heap w g _ _ _ _ hc, by simp; omega, fun i hi => ?_⟩
  simp only [List.take_zero, List.nil_append, Nat.zero_add]
  rw [List.getElem?_toArray, List.getElem?_append_left (by rw [hlen]; exact hi), List.getElem?_map, List.getElem?_range hi]
  rfl

theorem obk_bel {g m : Nat} {a b : World} (h : Obk g a b) (hm : m ≤ g) : Below m a b := ⟨h.os, h.tape, h.output, by rw [h.size]; exact Nat.le_refl _, fun k hk => h.block k (by omega)⟩
/-- Outside one block and what is new nothing has changed. -/
abbrev OneO (w : World) (A : Nat) : Nat → Prop := fun k => k = A ∨ w.heap.size ≤ k
set_option maxHeartbeats 4000000 in
set_option maxRecDepth 100000 in
theorem l2more_any (n A B : Nat) (F H : Nat → Bool) (w : World) (hA : BR w n A F) (hB : BR w n B H) (hne : A ≠ B) (hn : n ≤ 100000) :
    Calls Tryd.prog 41 #[vB A n, vB B n] w fun e w' => ∃ b, e = .returned (.tuple #[vB w.heap.size n, .bool b]) ∧ BR w' n A (fun j => F j || H j) ∧ BR w' n w.heap.size (fun j => H j && !F j) ∧ (b = true ↔ ∃ j, j ≤ n ∧ H j = true ∧ F j = false) ∧ FrO (OneO w A) w w' := by
  have hmk := run_make_row' (P := Tryd.prog) 56 4 (.bool false) 1 Tryd.underlying56 Tryd.zinBoolM rfl .i64 .i64 (n + 1) (by omega) (by omega)
  simp only [Int.natCast_add, Int.natCast_one] at hmk
  have hAl := hA.lt
  have hBl := hB.lt
  have h0 := br_made w n
  have hb0 := below1 w (.cells (madeCells #[.bool false] (n + 1)) 4)
  have hA0 := hA.below hb0 (Nat.le_refl _)
  have hB0 := hB.below hb0 (Nat.le_refl _)
  have hF0 : FrO (OneO w A) w (w.alloc (.cells (madeCells #[.bool false] (n + 1)) 4)) := fro_of hb0 (fun k hk => Or.inr hk)
  have Hh0 := hide h0
  have HA0 := hide hA0
  have HB0 := hide hB0
  have HF0 := hide hF0
  clear h0 hb0 hA0 hB0 hF0 hA hB
  go_enter Tryd.func41, Tryd.ntmps41
  go_wp2_with fail
  go_loopw [7, 8] (fun sv iv wr => ∃ (i : Nat) (b : Bool), i ≤ n + 1 ∧ iv = .int .i64 i ∧ sv = .bool b ∧ (b = true ↔ ∃ j, j < i ∧ H j = true ∧ F j = false) ∧ BR wr n A (fun j => F j || (decide (j < i) && H j)) ∧ BR wr n w.heap.size (fun j => decide (j < i) && (H j && !F j)) ∧ BR wr n B H ∧ FrO (OneO w A) w wr) (fun _ iv _ => n + 1 - (intOf iv).toNat)
  case atStart => exact ⟨0, false, Nat.zero_le _, rfl, rfl, ⟨fun h => (by cases h), fun ⟨j, hj, _⟩ => absurd hj (Nat.not_lt_zero _)⟩, (unhide HA0).same (fun j _ => by simp), (unhide Hh0).same (fun j _ => by simp), unhide HB0, unhide HF0⟩
  case round =>
    clear Hh0 HA0 HB0 HF0 hmk
    obtain ⟨i, b, hi, rfl, rfl, hb, hA, hG, hB, hF⟩ := hrel
    have HA := hide hA
    have HG := hide hG
    have HB := hide hB
    have HF := hide hF
    have Hb := hide hb
    by_cases hlt : i < n + 1
    · have hlt' : (i : Int) < ((n + 1 : Nat) : Int) := by omega
      have hlt2 : (i : Int) < (n : Int) + 1 := by omega
      have c1 := World.rowIs.cell hB hlt
      have c2 := World.rowIs.cell hA hlt
      simp only [Nat.lt_irrefl, decide_false, Bool.false_and, Bool.or_false] at c2
      have c3 := World.rowIs.cell hG hlt
      have f2 := World.rowIs.frozen hA i
      have f3 := World.rowIs.frozen hG i
      have c3' := fun v : Value => put_other (w := wr) (b := A) (o := i) (b' := w.heap.size) (o' := i) (v := v) (Or.inl (by omega))
      have f3' : ∀ v : Value, (wr.setCell ⟨A, i, none⟩ v).frozen? ⟨w.heap.size, i, none⟩ = false := fun v => (World.rowIs.setOther hG (by show w.heap.size ≠ A; omega) v).frozen i
      clear hA hG hB hF hb
      cases hHi : H i with
      | false =>
        rw [hHi] at c1
        have HHi := hide hHi
        clear hHi
        go_wp2
        go_roundw
        case rel =>
          refine ⟨i + 1, b, by omega, by go_num, rfl, ?_, (unhide HA).same (fun j hj => ?_), (unhide HG).same (fun j hj => ?_), unhide HB, unhide HF⟩
          · rw [unhide Hb]
            constructor
            · rintro ⟨j, hj, h⟩; exact ⟨j, by omega, h⟩
            · rintro ⟨j, hj, h⟩
              refine ⟨j, ?_, h⟩
              by_cases e : j = i
              · subst e; rw [unhide HHi] at h; exact absurd h.1 (by decide)
              · omega
          · by_cases e : j = i
            · subst e; simp [unhide HHi]
            · have : (j < i + 1) ↔ (j < i) := by omega
              simp [this]
          · by_cases e : j = i
            · subst e; simp [unhide HHi]
            · have : (j < i + 1) ↔ (j < i) := by omega
              simp [this]
        case measure => simp [intOf]; omega
      | true =>
        rw [hHi] at c1
        have HHi := hide hHi
        clear hHi
        cases hFi : F i with
        | true =>
          rw [hFi] at c2
          have HFi := hide hFi
          clear hFi
          go_wp2
          go_roundw
          case rel =>
            refine ⟨i + 1, b, by omega, by go_num, rfl, ?_, (unhide HA).same (fun j hj => ?_), (unhide HG).same (fun j hj => ?_), unhide HB, unhide HF⟩
            · rw [unhide Hb]
              constructor
              · rintro ⟨j, hj, h⟩; exact ⟨j, by omega, h⟩
              · rintro ⟨j, hj, h⟩
                refine ⟨j, ?_, h⟩
                by_cases e : j = i
                · subst e; rw [unhide HFi] at h; exact absurd h.2 (by decide)
                · omega
            · by_cases e : j = i
              · subst e; simp [unhide HFi]
              · have : (j < i + 1) ↔ (j < i) := by omega
                simp [this]
            · by_cases e : j = i
              · subst e; simp [unhide HFi]
              · have : (j < i + 1) ↔ (j < i) := by omega
                simp [this]
          case measure => simp [intOf]; omega
        | false =>
          rw [hFi] at c2
          have HFi := hide hFi
          clear hFi
          go_wp2
          go_roundw
          case rel =>
            refine ⟨i + 1, true, by omega, by go_num, rfl, ⟨fun _ => ⟨i, by omega, unhide HHi, unhide HFi⟩, fun _ => rfl⟩, ?_, ?_, ?_, ?_⟩
            · refine World.rowIs.congr (World.rowIs.setOther (World.rowIs.set (unhide HA) i (.bool true)) (by show A ≠ w.heap.size; omega) _) (fun j hj => ?_)
              by_cases e : j = i
              · subst e; simp [unhide HHi]
              · have : (j < i + 1) ↔ (j < i) := by omega
                simp [e, this]
            · refine World.rowIs.congr (World.rowIs.set (World.rowIs.setOther (unhide HG) (by show w.heap.size ≠ A; omega) _) i (.bool true)) (fun j hj => ?_)
              by_cases e : j = i
              · subst e; simp [unhide HHi, unhide HFi]
              · have : (j < i + 1) ↔ (j < i) := by omega
                simp [e, this]
            · exact World.rowIs.setOther (World.rowIs.setOther (unhide HB) (by show B ≠ A; omega) _) (by show B ≠ w.heap.size; omega) _
            · exact ((unhide HF).trans ((obk_put i _).fro (Or.inl rfl))).trans ((obk_put i _).fro (Or.inr (Nat.le_refl _)))
          case measure => simp [intOf]; omega
    · have e : i = n + 1 := by omega
      subst e
      clear hA hG hB hF hb
      go_wp2
      go_ret2
      refine ⟨b, rfl, (unhide HA).same (fun j hj => by simp [show j < n + 1 by omega]), (unhide HG).same (fun j hj => by simp [show j < n + 1 by omega]), ?_, unhide HF⟩
      rw [unhide Hb]
      exact ⟨fun ⟨j, h1, h2⟩ => ⟨j, by omega, h2⟩, fun ⟨j, h1, h2⟩ => ⟨j, by omega, h2⟩⟩

end Go.Proofs.YtfdkdjngeomcdaaDoor

namespace Go.Proofs.YtfdkdjngeomcdaaDoor
open Go.RowKit

/-- A walk that reads alone, in one world, is a still one. -/
theorem still_of_quiet {P : Program} {ops : Array Oper} {W : World} {Q : Act → Prop} : ∀ (l : List Oper) (a : Act), wpQuiet P ops (fun w' => w' = W) Q l a → wpStill P ops W Q l a
  | [], _, h => h
  | o :: rest, a, h => by
    unfold wpQuiet at h
    unfold wpStill
    split
    · rename_i hw
      rw [if_pos hw] at h
      obtain ⟨v, h1, h2⟩ := h
      have h3 := h1 W rfl
      have h4 := still_of_quiet rest _ h2
      unfold Oper.quietAt at h3
      unfold Oper.still
      generalize (execOp a.eval o).run P W = r at h3 ⊢
      cases r with
      | ok n w' =>
        cases n <;> simp only [Oper.quietUpon] at h3 <;> simp only [Oper.stillUpon]
        case value u => obtain ⟨rfl, rfl⟩ := h3; exact ⟨rfl, h4⟩
        case skip => obtain ⟨rfl, rfl⟩ := h3; exact ⟨rfl, h4⟩
        case enter f args => exact ⟨h3.1, v, h3.2, h4⟩
      | halt x w' => simp only [Oper.quietUpon] at h3
    · rename_i hw
      rw [if_neg hw] at h
      exact still_of_quiet rest _ h
/-- A region that draws its order: n operations that read alone, then the rest in the text's order. -/
theorem wp_region_quiet_tail {P : Program} {id : Nat} {Q : Exit → Act → World → Prop} {a : Act} {w : World} {l : List Oper} (n : Nat) (hm : P.follows .mixedOrders = true) (hB : Region.lexTailB .any l.toArray n = true)
    (h : wpQuiet P l.toArray (fun w' => w' = w.drew) (fun a' => wpList P l.toArray Q (l.drop n) a' w.drew) (l.take n) a) : (Code.region id l.toArray true).wp P Q a w :=
  wp_region_still_tail n hm hB (still_of_quiet _ _ h)

end Go.Proofs.YtfdkdjngeomcdaaDoor

namespace Go.Proofs.YtfdkdjngeomcdaaDoor
open Go.RowKit

abbrev c8 (g : Nat → Nat) : Array Value := #[.int .u64 (g 0 : Nat), .int .u64 (g 1 : Nat), .int .u64 (g 2 : Nat), .int .u64 (g 3 : Nat), .int .u64 (g 4 : Nat), .int .u64 (g 5 : Nat), .int .u64 (g 6 : Nat), .int .u64 (g 7 : Nat)]
theorem row8_blk {w : World} {B : Nat} {t : TypeId} {g : Nat → Nat} (h : w.rowIs B t 8 (wd g)) : w.heap[B]? = some (.cells (c8 g) t (0, 0)) := by
  obtain ⟨c, hc, hs, hf⟩ := h
  rw [hc]
  congr 2
  refine Array.ext (by simp [hs]) (fun i h1 h2 => ?_)
  have h3 := hf i (by omega)
  rw [Array.getElem?_eq_getElem h1] at h3
  have h4 := Option.some.inj h3
  rw [h4]
  have h5 : i < 8 := by omega
  match i, h5 with
  | 0, _ => rfl
  | 1, _ => rfl
  | 2, _ => rfl
  | 3, _ => rfl
  | 4, _ => rfl
  | 5, _ => rfl
  | 6, _ => rfl
  | 7, _ => rfl
theorem all8 (g : Nat → Nat) : (c8 g).all (·.oneCell') = true := by simp [Value.oneCell']
theorem row8_new (w : World) (t : TypeId) (g : Nat → Nat) : (w.alloc (.cells (c8 g) t)).rowIs w.heap.size t 8 (wd g) := eight_row w t g
theorem ps_ret {w : World} {B : Nat} {g : Nat → Nat} (h : w.heap[B]? = some (.cells (c8 g) 78 (0, 0))) {fn : Func} {p : Tmp} (hr : fn.results = #[.cell p 78]) (tmps : Array Value) (hp : tmps.getD p undef = .pointer (some ⟨B, 0, none⟩)) : (results fn tmps).run Tryd.prog w = .ok (ps8 g) w :=
  results_cell_row hr tmps w B _ _ _ _ hp h Tryd.underlying78 rfl (by kernel_rfl)

set_option maxHeartbeats 1000000 in
theorem put_off (b o n i : Nat) (t : TypeId) (F : Nat → Value) (g : Nat → Nat) (w : World) (hg : Fit g) (hi : i < 512) (hrow : w.rowIs b t n F) (hF : ∀ j, j < 8 → F (o + j) = wd g j) (ho : o + 8 ≤ n) :
    Calls Tryd.prog 29 #[.pointer (some ⟨b, o, none⟩), .int .i64 i] w fun e w' => e = .returned (.tuple #[]) ∧ w'.rowIs b t n (fun k => if o ≤ k ∧ k < o + 8 then wd (putW g i) (k - o) else F k) ∧ Obk b w w' := by
  have hq : i / 64 < 8 := by omega
  have c0 := hrow.cell (i := o + i / 64) (by omega)
  rw [hF _ hq] at c0
  have f0 := hrow.frozen (o + i / 64)
  unfold wd at c0
  have hq' : ((i / 64 : Nat) : Int) < 8 := by omega
  have hq2 : (i : Int) / 64 < 8 := by omega
  have hq3 : 0 ≤ (i : Int) / 64 := by omega
  have hor := or_bit (g (i / 64)) (i % 64) (hg _) (by omega)
  have Hor := hide hor
  have HR := hide hrow
  have HF := hide hF
  clear hrow hor hg hF
  go_enter Tryd.func29, Tryd.ntmps29
  go_region
  go_wp2
  rw [unhide Hor]
  first | (refine bodyPost_ret (results_none rfl _ _ _) rfl ?_) | (refine bodyPost_end (results_none rfl _ _ _) rfl ?_)
  refine ⟨rfl, (((unhide HR).set (o + i / 64) _).congr (fun k _ => ?_)).drew, (obk_put _ _).drew⟩
  by_cases e : k = o + i / 64
  · subst e
    rw [if_pos rfl, if_pos (by omega), show o + i / 64 - o = i / 64 by omega]
    unfold wd putW
    rw [if_pos rfl]
  · rw [if_neg e]
    by_cases e2 : o ≤ k ∧ k < o + 8
    · rw [if_pos e2]
      have h1 := unhide HF (k - o) (by omega)
      rw [show o + (k - o) = k by omega] at h1
      rw [h1]
      unfold wd putW
      rw [if_neg (by omega)]
    · rw [if_neg e2]

theorem Obk.bel2 {g m : Nat} {a b : World} (h : Obk g a b) (hm : m ≤ g) : Below m a b := ⟨h.os, h.tape, h.output, by rw [h.size]; exact Nat.le_refl _, fun k hk => h.block k (by omega)⟩
def andW (g h : Nat → Nat) : Nat → Nat := fun j => g j &&& h j
theorem fit_and {g h : Nat → Nat} (a : Fit g) : Fit (andW g h) := fun j => Nat.lt_of_le_of_lt Nat.and_le_left (a j)
theorem bt_and (g h : Nat → Nat) (b : Nat) : Bt (andW g h) b = (Bt g b && Bt h b) := by unfold Bt andW; rw [Nat.testBit_and]

set_option maxHeartbeats 4000000 in
set_option maxRecDepth 100000 in
theorem meet_any (g h : Nat → Nat) (w : World) (hg : Fit g) (hh : Fit h) :
    Calls Tryd.prog 55 #[ps8 g, ps8 h] w fun e w' => e = .returned (ps8 (andW g h)) ∧ Below w.heap.size w w' := by
  obtain ⟨W, hW⟩ : ∃ W, W = ((w.alloc (.cells (c8 g) 78)).alloc (.cells (c8 h) 78)).alloc (.cells #[.int .u64 0, .int .u64 0, .int .u64 0, .int .u64 0, .int .u64 0, .int .u64 0, .int .u64 0, .int .u64 0] 78) := ⟨_, rfl⟩
  have hr0 : W.rowIs w.heap.size 78 8 (wd g) := by rw [hW]; exact ((row8_new w _ g).alloc _).alloc _
  have hr1 : W.rowIs (w.heap.size + 1) 78 8 (wd h) := by
    have := row8_new (w.alloc (.cells (c8 g) 78)) 78 h
    rw [sz_alloc] at this
    rw [hW]; exact this.alloc _
  have hr2 : W.rowIs (w.heap.size + 2) 78 8 (wd (fun _ => 0)) := by
    have := row8_new ((w.alloc (.cells (c8 g) 78)).alloc (.cells (c8 h) 78)) 78 (fun _ => 0)
    rw [sz_alloc, sz_alloc] at this
    rw [hW]; exact this
  have hB : Below w.heap.size w W := by rw [hW]; exact (below2 w _ _).alloc (by rw [sz_alloc, sz_alloc]; omega) _
  have HG := hide hg
  have HH := hide hh
  have H0 := hide hr0
  have H1 := hide hr1
  have H2 := hide hr2
  have HB := hide hB
  have HW := hide hW
  clear hg hh hr0 hr1 hr2 hB hW
  unfold ps8
  go_enter Tryd.func55, Tryd.ntmps55
  go_wp2_with fail
  rw [← unhide HW]
  clear HW
  go_loopw [6] (fun iv wr => ∃ i : Nat, i ≤ 8 ∧ iv = .int .i64 i ∧ wr.rowIs w.heap.size 78 8 (fun k => if k < i then wd (andW g h) k else wd g k) ∧ wr.rowIs (w.heap.size + 1) 78 8 (wd h) ∧ wr.rowIs (w.heap.size + 2) 78 8 (wd (fun _ => 0)) ∧ Below w.heap.size w wr) (fun iv _ => 8 - (intOf iv).toNat)
  case atStart => exact ⟨0, by omega, rfl, (unhide H0).congr (fun k _ => by rw [if_neg (by omega)]), unhide H1, unhide H2, unhide HB⟩
  case round =>
    clear H0 H1 H2 HB
    obtain ⟨i, hi, rfl, hr, hr1, hr2, hb⟩ := hrel
    by_cases hlt : i < 8
    · have hlt' : (i : Int) < 8 := by omega
      have c0 : wr.cell? ⟨w.heap.size, i, none⟩ = some (.int .u64 (g i : Nat)) := by rw [hr.cell hlt, if_neg (by omega)]; rfl
      have f0 := hr.frozen i
      have c1 : wr.cell? ⟨w.heap.size + 1, i, none⟩ = some (.int .u64 (h i : Nat)) := hr1.cell hlt
      have hor := bits_and_u64_nat (g i) (h i) (unhide HG i) (unhide HH i)
      have HR : Hid ((wr.setCell ⟨w.heap.size, i, none⟩ (.int .u64 ((g i &&& h i : Nat) : Int))).rowIs w.heap.size 78 8 (fun k => if k < i + 1 then wd (andW g h) k else wd g k)) := (hr.set i _).congr (fun k _ => by
        by_cases e : k = i
        · subst e; rw [if_pos rfl, if_pos (by omega)]; rfl
        · rw [if_neg e]
          by_cases e2 : k < i
          · rw [if_pos e2, if_pos (by omega)]
          · rw [if_neg e2, if_neg (by omega)])
      have HR1 : Hid ((wr.setCell ⟨w.heap.size, i, none⟩ (.int .u64 ((g i &&& h i : Nat) : Int))).rowIs (w.heap.size + 1) 78 8 (wd h)) := hr1.setOther (by show w.heap.size + 1 ≠ w.heap.size; omega) _
      have HR2 : Hid ((wr.setCell ⟨w.heap.size, i, none⟩ (.int .u64 ((g i &&& h i : Nat) : Int))).rowIs (w.heap.size + 2) 78 8 (wd (fun _ => 0))) := hr2.setOther (by show w.heap.size + 2 ≠ w.heap.size; omega) _
      have HB := hide (bput hb (Nat.le_refl _) (b := w.heap.size) (o := i) (.int .u64 ((g i &&& h i : Nat) : Int)))
      have Hor := hide hor
      clear hr hr1 hr2 hb hor
      go_wp2_with fail
      go_region
      all_goals
        go_wp2
        rw [unhide Hor]
        go_roundw
        case rel => exact ⟨i + 1, by omega, by go_num, (unhide HR).drew, (unhide HR1).drew, (unhide HR2).drew, (unhide HB).drew⟩
        case measure => simp [intOf]; omega
    · obtain rfl : i = 8 := by omega
      have hA : wr.rowIs w.heap.size 78 8 (wd (andW g h)) := hr.congr (fun k hk => by rw [if_pos hk])
      have HA := hide (row8_blk hA)
      have HZ : Hid (wr.heap[w.heap.size + 1 + 1]? = _) := row8_blk hr2
      have HB := hide hb
      clear hr hr1 hr2 hb hA
      go_wp2_with (first
        | (refine wpList_load_row rfl 78 (.tmp 2) rfl w.heap.size (by first | (simp [Act.eval]; done) | (simp [Act.eval, Act.put]; done)) 78 _ _ _ (unhide HA) Tryd.underlying78 rfl (by kernel_rfl) ?_)
        | (refine wpList_store_row rfl 78 (.tmp 4) (.tmp 18) rfl (w.heap.size + 1 + 1) #[.int .u64 ((andW g h) 0 : Nat), .int .u64 ((andW g h) 1 : Nat), .int .u64 ((andW g h) 2 : Nat), .int .u64 ((andW g h) 3 : Nat), .int .u64 ((andW g h) 4 : Nat), .int .u64 ((andW g h) 5 : Nat), .int .u64 ((andW g h) 6 : Nat), .int .u64 ((andW g h) 7 : Nat)] (by first | (simp [Act.eval]; done) | (simp [Act.eval, Act.put]; done)) (by first | (simp [Act.eval]; done) | (simp [Act.eval, Act.put]; done)) 78 _ (unhide HZ) (by kernel_rfl) rfl (all8 _) ?_))
      refine bodyPost_ret (ps_ret (setRow_heap _ _ _ _ _ _ (unhide HZ)) rfl _ rfl) rfl ?_
      exact ⟨rfl, (unhide HB).trans (Obk.bel2 ⟨rfl, rfl, rfl, by simp [World.setRow], fun k hk => setRow_other _ _ k _ hk⟩ (by omega))⟩

end Go.Proofs.YtfdkdjngeomcdaaDoor
