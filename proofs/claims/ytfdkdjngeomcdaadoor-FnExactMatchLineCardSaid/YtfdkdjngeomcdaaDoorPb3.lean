import Derived.Test.YtfdkdjngeomcdaaDoorPk1
import Derived.Test.YtfdkdjngeomcdaaDoorPa11
import Derived.Test.YtfdkdjngeomcdaaDoorPa12
namespace Go.Proofs.YtfdkdjngeomcdaaDoor
open Go.RowKit

/-- The cells of the ends within an automaton's box, written one behind the other. -/
abbrev sA17 (w : World) (A : Nat) (b : Bool) (f l : Nat → Nat) : World := (((((((((((((((((w).setCell ⟨A, 2, none⟩ (.bool b)).setCell ⟨A, 3, none⟩ (.int .u64 (f 0 : Nat))).setCell ⟨A, 4, none⟩ (.int .u64 (f 1 : Nat))).setCell ⟨A, 5, none⟩ (.int .u64 (f 2 : Nat))).setCell ⟨A, 6, none⟩ (.int .u64 (f 3 : Nat))).setCell ⟨A, 7, none⟩ (.int .u64 (f 4 : Nat))).setCell ⟨A, 8, none⟩ (.int .u64 (f 5 : Nat))).setCell ⟨A, 9, none⟩ (.int .u64 (f 6 : Nat))).setCell ⟨A, 10, none⟩ (.int .u64 (f 7 : Nat))).setCell ⟨A, 11, none⟩ (.int .u64 (l 0 : Nat))).setCell ⟨A, 12, none⟩ (.int .u64 (l 1 : Nat))).setCell ⟨A, 13, none⟩ (.int .u64 (l 2 : Nat))).setCell ⟨A, 14, none⟩ (.int .u64 (l 3 : Nat))).setCell ⟨A, 15, none⟩ (.int .u64 (l 4 : Nat))).setCell ⟨A, 16, none⟩ (.int .u64 (l 5 : Nat))).setCell ⟨A, 17, none⟩ (.int .u64 (l 6 : Nat))).setCell ⟨A, 18, none⟩ (.int .u64 (l 7 : Nat))
def autF (F : Nat → Value) (b : Bool) (f l : Nat → Nat) : Nat → Value := fun k => if k < 2 then F k else endF b f l (k - 2)
theorem sA17_row {w : World} {A : Nat} {F : Nat → Value} (h : w.rowIs A 82 19 F) (b : Bool) (f l : Nat → Nat) : (sA17 w A b f l).rowIs A 82 19 (autF F b f l) := by
  have h2 := (((((((((((((((((h).set 2 (.bool b)).set 3 (.int .u64 (f 0 : Nat))).set 4 (.int .u64 (f 1 : Nat))).set 5 (.int .u64 (f 2 : Nat))).set 6 (.int .u64 (f 3 : Nat))).set 7 (.int .u64 (f 4 : Nat))).set 8 (.int .u64 (f 5 : Nat))).set 9 (.int .u64 (f 6 : Nat))).set 10 (.int .u64 (f 7 : Nat))).set 11 (.int .u64 (l 0 : Nat))).set 12 (.int .u64 (l 1 : Nat))).set 13 (.int .u64 (l 2 : Nat))).set 14 (.int .u64 (l 3 : Nat))).set 15 (.int .u64 (l 4 : Nat))).set 16 (.int .u64 (l 5 : Nat))).set 17 (.int .u64 (l 6 : Nat))).set 18 (.int .u64 (l 7 : Nat))
  refine h2.congr (fun k hk => ?_)
  match k, hk with
  | 0, _ => simp [autF]
  | 1, _ => simp [autF]
  | 2, _ => simp [autF, endF]
  | 3, _ => simp [autF, endF, wd]
  | 4, _ => simp [autF, endF, wd]
  | 5, _ => simp [autF, endF, wd]
  | 6, _ => simp [autF, endF, wd]
  | 7, _ => simp [autF, endF, wd]
  | 8, _ => simp [autF, endF, wd]
  | 9, _ => simp [autF, endF, wd]
  | 10, _ => simp [autF, endF, wd]
  | 11, _ => simp [autF, endF, wd]
  | 12, _ => simp [autF, endF, wd]
  | 13, _ => simp [autF, endF, wd]
  | 14, _ => simp [autF, endF, wd]
  | 15, _ => simp [autF, endF, wd]
  | 16, _ => simp [autF, endF, wd]
  | 17, _ => simp [autF, endF, wd]
  | 18, _ => simp [autF, endF, wd]
  | n + 19, h => exact absurd h (by omega)
theorem sA17_ob (w : World) (A : Nat) (b : Bool) (f l : Nat → Nat) : Obk A w (sA17 w A b f l) := (((((((((((((((((Obk.refl _ _).trans (obk_put _ _)).trans (obk_put _ _)).trans (obk_put _ _)).trans (obk_put _ _)).trans (obk_put _ _)).trans (obk_put _ _)).trans (obk_put _ _)).trans (obk_put _ _)).trans (obk_put _ _)).trans (obk_put _ _)).trans (obk_put _ _)).trans (obk_put _ _)).trans (obk_put _ _)).trans (obk_put _ _)).trans (obk_put _ _)).trans (obk_put _ _)).trans (obk_put _ _)
/-- An automaton that is made: its positions, sets and links, and what it shows. -/
def AutAt (O : Nat → Prop) (A : Nat) (w : World) (N : Nat) (S : List (List Int)) (K : List Lk) (b : Bool) (f l : Nat → Nat) : Prop :=
  AuAt O A w N S K ∧ ∃ F, w.rowIs A 82 19 F ∧ ∀ k, k < 17 → F (2 + k) = endF b f l k
theorem AutAt.of {O : Nat → Prop} {A N : Nat} {w : World} {S : List (List Int)} {K : List Lk} (h : AuAt O A w N S K) (b : Bool) (f l : Nat → Nat) : AutAt O A (sA17 w A b f l) N S K b f l := by
  obtain ⟨sv, fv, gs, hs, hM, rest⟩ := h
  obtain ⟨F, hF, h0, h1⟩ := hM.box
  have hr := sA17_row hF b f l
  have hob := sA17_ob w A b f l
  refine ⟨⟨sv, fv, gs, hs, ⟨⟨_, hr, by simp [autF, h0], by simp [autF, h1]⟩, hM.oA, own_blk hM.so (fun q hq => hob.block q (hM.sb q hq).2), own_blk hM.fo (fun q hq => hob.block q (hM.fb q hq).2), hM.sb, hM.fb, hM.sf⟩, rest⟩, _, hr, fun k hk => ?_⟩
  unfold autF
  rw [if_neg (by omega), show 2 + k - 2 = k by omega]
theorem aut_start (w : World) : AuAt (fun k => w.heap.size ≤ k) w.heap.size (w.alloc (.cells #[.slice none 0 0, .slice none 0 0, .bool false, .int .u64 0, .int .u64 0, .int .u64 0, .int .u64 0, .int .u64 0, .int .u64 0, .int .u64 0, .int .u64 0, .int .u64 0, .int .u64 0, .int .u64 0, .int .u64 0, .int .u64 0, .int .u64 0, .int .u64 0, .int .u64 0] 82)) 0 [] [] := by
  refine ⟨.slice none 0 0, .slice none 0 0, fun _ => z8, fun _ => z8, ⟨⟨fun k => (#[.slice none 0 0, .slice none 0 0, .bool false, .int .u64 0, .int .u64 0, .int .u64 0, .int .u64 0, .int .u64 0, .int .u64 0, .int .u64 0, .int .u64 0, .int .u64 0, .int .u64 0, .int .u64 0, .int .u64 0, .int .u64 0, .int .u64 0, .int .u64 0, .int .u64 0] : Array Value)[k]?.getD undef, ?_, rfl, rfl⟩, Nat.le_refl _, World.ownsRow_nil _ _ _ _, World.ownsRow_nil _ _ _ _, fun q hq => (by cases hq), fun q hq => (by cases hq), fun q hq => (by cases hq)⟩, rfl, fun i hi => absurd hi (Nat.not_lt_zero _), fun _ => z8_fit, fun i j => by simp [Bt, z8, mkd], fun _ _ => rfl⟩
  refine World.rowIs_alloc w #[.slice none 0 0, .slice none 0 0, .bool false, .int .u64 0, .int .u64 0, .int .u64 0, .int .u64 0, .int .u64 0, .int .u64 0, .int .u64 0, .int .u64 0, .int .u64 0, .int .u64 0, .int .u64 0, .int .u64 0, .int .u64 0, .int .u64 0, .int .u64 0, .int .u64 0] 82 _ ?_
  intro i hi
  simp [Array.getElem?_eq_getElem hi]
theorem AuM.cells {O : Nat → Prop} {A : Nat} {w : World} {sv fv : Value} {n m : Nat} {gs hs : Nat → Nat → Nat} (h : AuM O A w sv fv n m gs hs) : ∃ F, w.rowIs A 82 19 F := by
  obtain ⟨F, hF, -⟩ := h.box
  exact ⟨F, hF⟩

set_option maxHeartbeats 8000000 in
set_option maxRecDepth 100000 in
theorem automatonOf_any {U : Value} {n : Nat} {a : It} {ln : List Lk} {ss : List (List Int)} (hu : AddV U n a ln ss) (hn : n ≤ 512) (w : World) (htz : TZ w) (hlt : Tryd.laysTZ_ren.g 1 < w.heap.size) :
    Calls Tryd.prog 17 #[U] w fun e w' => ∃ f l, e = .returned (.pointer (some ⟨w.heap.size, 0, none⟩)) ∧ AutAt (fun k => w.heap.size ≤ k) w.heap.size w' n ss ln a.nl f l ∧ BitsOf f a.fi ∧ BitsOf l a.la ∧ Below w.heap.size w w' := by
  obtain ⟨⟨T, x, rfl⟩, hu⟩ := hu
  have hb1 := below1 w (.cells #[.slice none 0 0, .slice none 0 0, .bool false, .int .u64 0, .int .u64 0, .int .u64 0, .int .u64 0, .int .u64 0, .int .u64 0, .int .u64 0, .int .u64 0, .int .u64 0, .int .u64 0, .int .u64 0, .int .u64 0, .int .u64 0, .int .u64 0, .int .u64 0, .int .u64 0] 82)
  have hz : (w.alloc (.cells #[.slice none 0 0, .slice none 0 0, .bool false, .int .u64 0, .int .u64 0, .int .u64 0, .int .u64 0, .int .u64 0, .int .u64 0, .int .u64 0, .int .u64 0, .int .u64 0, .int .u64 0, .int .u64 0, .int .u64 0, .int .u64 0, .int .u64 0, .int .u64 0, .int .u64 0] 82)).heap.size = w.heap.size + 1 := sz_alloc _ _
  have hA := hu (fun k => w.heap.size ≤ k) w.heap.size _ 0 [] [] (aut_start w) (fun k hk => by omega) ⟨htz.below hb1 hlt, by omega, by omega⟩ (by omega)
  have HA := hide hA
  have HB := hide hb1
  clear hu hA hb1 hz htz
  go_enter Tryd.func17, Tryd.ntmps17
  go_wp2_with fail
  refine (unhide HA).mono ?_
  rintro e w2 ⟨f, l, rfl, hf, hl, ha, hfr⟩
  have hAUT := hide (AutAt.of ha a.nl f l)
  obtain ⟨sv, fv, gs, hs, hM, -⟩ := ha
  obtain ⟨F, hF⟩ := hM.cells
  have q2 := hF.cell (i := 2) (by omega)
  have y2 := hF.frozen 2
  have q3 := hF.cell (i := 3) (by omega)
  have y3 := hF.frozen 3
  have q4 := hF.cell (i := 4) (by omega)
  have y4 := hF.frozen 4
  have q5 := hF.cell (i := 5) (by omega)
  have y5 := hF.frozen 5
  have q6 := hF.cell (i := 6) (by omega)
  have y6 := hF.frozen 6
  have q7 := hF.cell (i := 7) (by omega)
  have y7 := hF.frozen 7
  have q8 := hF.cell (i := 8) (by omega)
  have y8 := hF.frozen 8
  have q9 := hF.cell (i := 9) (by omega)
  have y9 := hF.frozen 9
  have q10 := hF.cell (i := 10) (by omega)
  have y10 := hF.frozen 10
  have q11 := hF.cell (i := 11) (by omega)
  have y11 := hF.frozen 11
  have q12 := hF.cell (i := 12) (by omega)
  have y12 := hF.frozen 12
  have q13 := hF.cell (i := 13) (by omega)
  have y13 := hF.frozen 13
  have q14 := hF.cell (i := 14) (by omega)
  have y14 := hF.frozen 14
  have q15 := hF.cell (i := 15) (by omega)
  have y15 := hF.frozen 15
  have q16 := hF.cell (i := 16) (by omega)
  have y16 := hF.frozen 16
  have q17 := hF.cell (i := 17) (by omega)
  have y17 := hF.frozen 17
  have q18 := hF.cell (i := 18) (by omega)
  have y18 := hF.frozen 18
  have HFi := hide hf
  have HLa := hide hl
  have HFr := hide (hfr.below (m := w.heap.size) (fun k hk e => by omega))
  clear hF hM hf hl hfr HA
  unfold endV
  go_wp2
  go_ret
  refine ⟨f, l, rfl, ?_, ?_, ?_, ?_⟩
  · have := unhide hAUT
    simp only [Nat.zero_add, List.nil_append] at this
    have e : shL 0 ln = ln := by unfold shL; simp
    rw [e] at this
    exact this
  · have := unhide HFi; simpa [It.sh] using this
  · have := unhide HLa; simpa [It.sh] using this
  · exact ((unhide HB).trans (unhide HFr)).trans ((sA17_ob _ _ _ _ _).below (Nat.le_refl _))

end Go.Proofs.YtfdkdjngeomcdaaDoor
