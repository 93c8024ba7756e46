import Derived.Test.YtfdkdjngeomcdaaDoorPk3
import Derived.Test.YtfdkdjngeomcdaaDoorPb3
namespace Go.Proofs.YtfdkdjngeomcdaaDoor
open Go.RowKit

set_option maxHeartbeats 4000000 in
set_option maxRecDepth 100000 in
theorem eqPs (a0 a1 a2 a3 a4 a5 a6 a7 c0 c1 c2 c3 c4 c5 c6 c7 : Int) (w : World) : (Op.equalIn 10000 78 (.agg #[.int .u64 a0, .int .u64 a1, .int .u64 a2, .int .u64 a3, .int .u64 a4, .int .u64 a5, .int .u64 a6, .int .u64 a7]) (.agg #[.int .u64 c0, .int .u64 c1, .int .u64 c2, .int .u64 c3, .int .u64 c4, .int .u64 c5, .int .u64 c6, .int .u64 c7])).run Tryd.prog w = .ok (a0 == c0 && (a1 == c1 && (a2 == c2 && (a3 == c3 && (a4 == c4 && (a5 == c5 && (a6 == c6 && a7 == c7))))))) w := by
  have u3 := Tryd.underlying62
  have a3' := Tryd.isAgg62
  have z3 := Tryd.sizeOf62
  rw [show (10000 : Nat) = 9999 + 1 from rfl, Op.equalIn]
  simp only [Sem.run_bind, run_underlying Tryd.underlying78, Result.andThen_ok]
  simp only [Std.Legacy.Range.forIn_eq_forIn_range', Std.Legacy.Range.size, Nat.sub_zero, Nat.add_sub_cancel, Nat.div_one, List.range'_succ, List.range'_zero, List.forIn_cons, List.forIn_nil]
  go_simp
  by_cases h0 : a0 = c0
  · by_cases h1 : a1 = c1
    · by_cases h2 : a2 = c2
      · by_cases h3 : a3 = c3
        · by_cases h4 : a4 = c4
          · by_cases h5 : a5 = c5
            · by_cases h6 : a6 = c6
              · by_cases h7 : a7 = c7 <;> simp [h0, h1, h2, h3, h4, h5, h6, h7]
              · simp [h0, h1, h2, h3, h4, h5, h6]
            · simp [h0, h1, h2, h3, h4, h5]
          · simp [h0, h1, h2, h3, h4]
        · simp [h0, h1, h2, h3]
      · simp [h0, h1, h2]
    · simp [h0, h1]
  · simp [h0]
/-- A walker's box. -/
def WkBox (w : World) (B A : Nat) (cv hv : Value) : Prop := w.heap[B]? = some (.cells #[.pointer (some ⟨A, 0, none⟩), cv, hv] 47 (0, 0))
theorem WkBox.cells {w : World} {B A : Nat} {cv hv : Value} (h : WkBox w B A cv hv) : w.cell? ⟨B, 0, none⟩ = some (.pointer (some ⟨A, 0, none⟩)) ∧ w.cell? ⟨B, 1, none⟩ = some cv ∧ w.cell? ⟨B, 2, none⟩ = some hv :=
  ⟨World.news_of_block h 0 _ rfl, World.news_of_block h 1 _ rfl, World.news_of_block h 2 _ rfl⟩
theorem WkBox.keep {w w' : World} {B A : Nat} {cv hv : Value} (h : WkBox w B A cv hv) (e : w'.heap[B]? = w.heap[B]?) : WkBox w' B A cv hv := e.trans h
theorem WkBox.lt {w : World} {B A : Nat} {cv hv : Value} (h : WkBox w B A cv hv) : B < w.heap.size := (Array.getElem?_eq_some_iff.1 h).1
/-- What is read of an automaton that is made. -/
def AutR (w : World) (A N : Nat) (fv : Value) (fs : Nat → Nat → Nat) (b : Bool) (f l : Nat → Nat) : Prop :=
  (∃ F, w.rowIs A 82 19 F ∧ F 1 = fv ∧ ∀ k, k < 17 → F (2 + k) = endF b f l k) ∧ RsP w fv N fs
theorem AutR.keep {w w' : World} {A N m : Nat} {fv : Value} {fs : Nat → Nat → Nat} {b : Bool} {f l : Nat → Nat} (h : AutR w A N fv fs b f l) (hb : Below m w w') (hm : w.heap.size ≤ m) : AutR w' A N fv fs b f l := by
  obtain ⟨⟨F, h1, h2⟩, h3⟩ := h
  exact ⟨⟨F, h1.of_block (hb.block A (Nat.lt_of_lt_of_le h1.lt hm)), h2⟩, own_keep h3 hb hm⟩
theorem AutR.cells {w : World} {A N : Nat} {fv : Value} {fs : Nat → Nat → Nat} {b : Bool} {f l : Nat → Nat} (h : AutR w A N fv fs b f l) : w.cell? ⟨A, 1, none⟩ = some fv ∧ w.cell? ⟨A, 2, none⟩ = some (.bool b) ∧ (∀ k, k < 8 → w.cell? ⟨A, 3 + k, none⟩ = some (.int .u64 (f k : Nat))) ∧ ∀ k, k < 8 → w.cell? ⟨A, 11 + k, none⟩ = some (.int .u64 (l k : Nat)) := by
  obtain ⟨⟨F, h1, h2, h3⟩, -⟩ := h
  refine ⟨?_, ?_, fun k hk => ?_, fun k hk => ?_⟩
  · rw [h1.cell (by omega), h2]
  · rw [h1.cell (by omega)]; exact congrArg some (h3 0 (by omega))
  · rw [h1.cell (by omega), show 3 + k = 2 + (k + 1) by omega, h3 (k + 1) (by omega)]
    simp only [endF]
    rw [if_neg (by omega), if_pos (by omega), show k + 1 - 1 = k by omega]
    rfl
  · rw [h1.cell (by omega), show 11 + k = 2 + (k + 9) by omega, h3 (k + 9) (by omega)]
    simp only [endF]
    rw [if_neg (by omega), if_neg (by omega), show k + 9 - 9 = k by omega]
    rfl
/-- A pending set as a value, as a box. -/
def pd (g : Nat → Nat) (e : Bool) : Value := .agg #[.int .u64 (g 0 : Nat), .int .u64 (g 1 : Nat), .int .u64 (g 2 : Nat), .int .u64 (g 3 : Nat), .int .u64 (g 4 : Nat), .int .u64 (g 5 : Nat), .int .u64 (g 6 : Nat), .int .u64 (g 7 : Nat), .bool e]
abbrev c9 (g : Nat → Nat) (e : Bool) : Array Value := #[.int .u64 (g 0 : Nat), .int .u64 (g 1 : Nat), .int .u64 (g 2 : Nat), .int .u64 (g 3 : Nat), .int .u64 (g 4 : Nat), .int .u64 (g 5 : Nat), .int .u64 (g 6 : Nat), .int .u64 (g 7 : Nat), .bool e]
def pdF (g : Nat → Nat) (e : Bool) : Nat → Value := fun k => if k < 8 then wd g k else .bool e
theorem row9_blk {w : World} {B : Nat} {t : TypeId} {g : Nat → Nat} {e : Bool} (h : w.rowIs B t 9 (pdF g e)) : w.heap[B]? = some (.cells (c9 g e) t (0, 0)) := by
  obtain ⟨c, hc, hs, hf⟩ := h
  rw [hc]
  congr 2
  refine Array.ext (by simp [hs]) (fun i h1 h2 => ?_)
  have h3 := hf i (by omega)
  rw [Array.getElem?_eq_getElem h1] at h3
  have h4 := Option.some.inj h3
  rw [h4]
  have h5 : i < 9 := by omega
  match i, h5 with
  | 0, _ => rfl
  | 1, _ => rfl
  | 2, _ => rfl
  | 3, _ => rfl
  | 4, _ => rfl
  | 5, _ => rfl
  | 6, _ => rfl
  | 7, _ => rfl
  | 8, _ => rfl
theorem blk_row9 {w : World} {B : Nat} {t : TypeId} {g : Nat → Nat} {e : Bool} (h : w.heap[B]? = some (.cells (c9 g e) t (0, 0))) : w.rowIs B t 9 (pdF g e) := by
  refine ⟨_, h, rfl, fun i hi => ?_⟩
  match i, hi with
  | 0, _ => rfl
  | 1, _ => rfl
  | 2, _ => rfl
  | 3, _ => rfl
  | 4, _ => rfl
  | 5, _ => rfl
  | 6, _ => rfl
  | 7, _ => rfl
  | 8, _ => rfl
theorem all9 (g : Nat → Nat) (e : Bool) : (c9 g e).all (·.oneCell') = true := by simp [Value.oneCell']
theorem pd_ret {w : World} {B : Nat} {g : Nat → Nat} {e : Bool} (h : w.heap[B]? = some (.cells (c9 g e) 90 (0, 0))) {fn : Func} {p : Tmp} (hr : fn.results = #[.cell p 90]) (tmps : Array Value) (hp : tmps.getD p undef = .pointer (some ⟨B, 0, none⟩)) : (results fn tmps).run Tryd.prog w = .ok (pd g e) w :=
  results_cell_row hr tmps w B _ _ _ _ hp h Tryd.underlying90 rfl (by kernel_rfl)

set_option maxHeartbeats 4000000 in
set_option maxRecDepth 100000 in
theorem start_any (B A N : Nat) (cv hv fv : Value) (fs : Nat → Nat → Nat) (b : Bool) (f l : Nat → Nat) (w : World) (hB : WkBox w B A cv hv) (hA : AutR w A N fv fs b f l) :
    Calls Tryd.prog 32 #[.pointer (some ⟨B, 0, none⟩)] w fun e w' => e = .returned (pd f b) ∧ Below w.heap.size w w' := by
  have hlt := hB.lt
  have hltA : A < w.heap.size := by obtain ⟨⟨F, h1, -⟩, -⟩ := hA; exact h1.lt
  have hb1 := below1 w (.cells #[.int .u64 0, .int .u64 0, .int .u64 0, .int .u64 0, .int .u64 0, .int .u64 0, .int .u64 0, .int .u64 0, .bool false] 90)
  obtain ⟨c0, -, -⟩ := (hB.keep (hb1.block B hlt)).cells
  obtain ⟨-, d2, d3, -⟩ := (hA.keep hb1 (Nat.le_refl _)).cells
  have e0 := d3 0 (by omega)
  have e1 := d3 1 (by omega)
  have e2 := d3 2 (by omega)
  have e3 := d3 3 (by omega)
  have e4 := d3 4 (by omega)
  have e5 := d3 5 (by omega)
  have e6 := d3 6 (by omega)
  have e7 := d3 7 (by omega)
  simp only [Nat.reduceAdd] at e0 e1 e2 e3 e4 e5 e6 e7
  clear hB hA d3 hb1
  go_enter Tryd.func32, Tryd.ntmps32
  go_wp2_with fail
  refine wp_region_quiet_tail 17 (by kernel_rfl) (by kernel_rfl) ?_
  simp only [List.take_succ_cons, List.take_zero, List.drop_succ_cons, List.drop_zero]
  repeat (first | go_big_quiet_skip | (go_big_quiet_want; go_big_quiet_op; go_big_quiet_on))
  refine wpQuiet_nil ?_
  go_wp2
  refine bodyPost_ret (pd_ret (g := f) (e := b) (by exact (pushd_alloc w _).new) rfl _ rfl) rfl ?_
  exact ⟨rfl, (below1 w _).drew⟩

end Go.Proofs.YtfdkdjngeomcdaaDoor
