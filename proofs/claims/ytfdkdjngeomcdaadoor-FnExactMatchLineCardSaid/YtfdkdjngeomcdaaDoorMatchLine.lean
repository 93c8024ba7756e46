import Derived.Test.YtfdkdjngeomcdaaDoorWk13
import Derived.Test.YtfdkdjngeomcdaaDoorPk8
import Derived.Test.YtfdkdjngeomcdaaDoorCards
import Derived.Test.YtfdkdjngeomcdaaDoorTie
import Derived.ShutString
import Derived.ChangeOld
import Derived.WalkKit
import Derived.ProofKit
import Derived.OpenShut
import Derived.Deep.DeepHandedRow
import Derived.Lib.LaidTab
import Derived.LaidSub
import Derived.SevenTiedAt
namespace Go.Proofs.YtfdkdjngeomcdaaDoor
open Go.ChangeShapes Go.WideShapes Go.ChangeAt Go.RowKit

theorem gTab : Tryd.prog.globalNamed "math/bits.deBruijn64tab" = some 0 := by kernel_rfl
theorem gTabType : (Tryd.prog.globals[0]?).map (·.type) = some 131 := by kernel_rfl
theorem tabCells : Tryd.prog.cellsOf 131 = 64 := by kernel_rfl
theorem tabCell : Tryd.prog.cellsOf 5 = 1 := by kernel_rfl
theorem tabUnder : Tryd.prog.underlying 131 = some (.array 64 5) := by kernel_rfl
theorem tabUnder1 : Tryd.prog.underlying 5 = some (.int .u8) := by kernel_rfl
theorem onlyTab : Rows.fnExactMatchLineRow.laid.filter (fun x => x.1 == "math/bits.deBruijn64tab") = [("math/bits.deBruijn64tab", Lib.tabData .u8 (Lib.deBruijn64tab.map Int.ofNat))] := by kernel_rfl

/-- What the row's list gives. -/
theorem table {W : World} (h : laidMetH Tryd.prog Rows.fnExactMatchLineRow.laid W) : Lib.TabIs Tryd.prog W "math/bits.deBruijn64tab" .u8 (Lib.deBruijn64tab.map Int.ofNat) := by
  have h2 := laidMetH.filter (fun x => x.1 == "math/bits.deBruijn64tab") h
  rw [onlyTab] at h2
  exact Lib.tabIs_of_head (rest := []) gTab gTabType tabUnder tabUnder1 tabCell tabCells h2

theorem tzRen : Tryd.laysTZ_ren.g 1 = 0 := by kernel_rfl
theorem tz_of {W : World} (h : Lib.TabIs Tryd.prog W "math/bits.deBruijn64tab" .u8 (Lib.deBruijn64tab.map Int.ofNat)) : TZ W ∧ Tryd.laysTZ_ren.g 1 < W.heap.size := by
  unfold Lib.TabIs World.var? at h
  rw [gTab] at h
  simp only [Option.bind_some] at h
  have hlt : 0 < W.heap.size := by
    rcases Nat.lt_or_ge 0 W.heap.size with h' | h'
    · exact h'
    · rw [Array.getElem?_eq_none h'] at h; simp at h
  refine ⟨fun j hj => ?_, by rw [tzRen]; exact hlt⟩
  rw [tzRen]
  cases hg : W.heap[0]? with
  | none => rw [hg] at h; cases h
  | some o =>
    rw [hg] at h
    cases o with
    | cells cs t fr =>
      have e : cs = ((Lib.deBruijn64tab.map Int.ofNat).map fun z => Value.int .u8 z).toArray := Option.some.inj h
      rw [cell_of_row W 0 j cs t fr hg, e]
      simp [hj]
    | _ => cases h

theorem bytes_mem {bs : List Int} (h : Bytes bs) : ∀ x ∈ bs, 0 ≤ x ∧ x ≤ 255 := fun x hx => by
  obtain ⟨i, hi⟩ := List.getElem?_of_mem hx
  have := h i
  rw [hi] at this
  exact this
/-- The cells of a table that is laid. -/
def laidCells : DataW Unit → Array Value
  | .agg ps => (ps.map fun | .lit (.int k z) => Value.int k z | _ => undef).toArray
  | _ => #[]
def putCs (cs : Array Value) : Obj → Obj
  | .cells _ t frozen => .cells cs t frozen
  | o => o
theorem laid_met (os : Os) : laidMet Tryd.prog Rows.fnExactMatchLineRow.laid (({ World.holding Tryd.prog os ⟨#[], #[], []⟩ with heap := (World.holding Tryd.prog os ⟨#[], #[], []⟩).heap.modify 0 (putCs (laidCells Rows.laid_math_bits_deBruijn64tab)) } : World).forCall (fun _ _ => 0) ⟨#[], #[.agg #[.bool false, .bool false, .slice none 0 0], .slice none 0 0], []⟩).memory :=
  laidMet_of_run' 8 (by kernel_rfl) (by kernel_rfl)
theorem reads (os : Os) {H : Type} (enc : TypeId × Value → H) : ∃ places, DataW.whole enc Tryd.prog (({ World.holding Tryd.prog os ⟨#[], #[], []⟩ with heap := (World.holding Tryd.prog os ⟨#[], #[], []⟩).heap.modify 0 (putCs (laidCells Rows.laid_math_bits_deBruijn64tab)) } : World).forCall (fun _ _ => 0) ⟨#[], #[.agg #[.bool false, .bool false, .slice none 0 0], .slice none 0 0], []⟩).memory Tryd.f3.params.toList Rows.fnExactMatchLineSpec.vars false #[Value.agg #[.bool false, .bool false, .slice none 0 0], .slice none 0 0].toList 8 = some ([.agg [.lit (.bool false), .lit (.bool false), .nil], .nil], [], places) :=
  ⟨[], by kernel_rfl⟩

set_option maxRecDepth 100000 in
theorem match_lifted (os : Os) (started : os.Started) (H : Type) (enc : TypeId × Value → H) (F : Stop.Interp) :
    ReturnsInHanded {} Tryd.checked os 3 .any ((OpenSpec.ofChange Rows.fnExactMatchLineSpec).preRow enc Tryd.prog Tryd.f3 Rows.fnExactMatchLineRow.domain false Rows.fnExactMatchLineRow.laid) (((OpenSpec.ofChange Rows.fnExactMatchLineSpec).at F).post enc Tryd.prog Tryd.f3 false true false false) := by
  obtain ⟨places, hx⟩ := reads os enc
  refine returnsInHanded_of_row (C := Tryd.checked) (s := OpenSpec.ofChange Rows.fnExactMatchLineSpec) Tryd.own started (by kernel_rfl) Tryd.func3
    (witness_row_at (enc := enc) (C := Tryd.checked) false ({ World.holding Tryd.prog os ⟨#[], #[], []⟩ with heap := (World.holding Tryd.prog os ⟨#[], #[], []⟩).heap.modify 0 (putCs (laidCells Rows.laid_math_bits_deBruijn64tab)) } : World) #[.agg #[.bool false, .bool false, .slice none 0 0], .slice none 0 0] rfl (by kernel_rfl) (by kernel_rfl) (by kernel_rfl)
      (OpenSpec.preRow_of_cond 8 hx (by kernel_rfl) (fun k hk => by cases hk) (by kernel_rfl) (laid_met os))) ?_
  intro W base args ds gs before hval0 hW _ _ _ hL _ _
  have hval : ∀ (j : Nat) t v, Tryd.f3.params[j]? = some t → args[j]? = some v → Value.okWide Tryd.prog W .any base t v := hval0
  have hW' := hW
  obtain ⟨p, q, hA0, hV, rfl, hfz, hnd⟩ := hW
  have hA : DataW.TrodAll enc Tryd.prog W 0 (fun _ => true) true Tryd.f3.params.toList args.toList ds p := hA0
  rw [Tryd.params3] at hA hval
  obtain ⟨v0, vs0, d0, ds0, p0, q0, hargs, rfl, rfl, h0, r0⟩ := trodAll_cons hA
  obtain ⟨v1, vs1, d1, ds1, p1, q1, rfl, rfl, rfl, h1, r1⟩ := trodAll_cons r0
  obtain ⟨rfl, rfl, rfl⟩ := trodAll_nil r1
  obtain rfl : args = #[v0, v1] := by cases args; simp_all
  obtain ⟨rfl, rfl⟩ := trodVars_none hV
  have k0 := h0
  have k1 := h1
  have lt1 : ∀ x ∈ p1, x.block < W.heap.size := by obtain ⟨m, hm⟩ := k1; exact DataW.trod_lt m _ _ _ hm
  have lt0 : ∀ x ∈ p0, x.block < W.heap.size := by obtain ⟨m, hm⟩ := k0; exact DataW.trod_lt m _ _ _ hm
  obtain ⟨c0, c1, c2, y0, y1, y2, m, rfl, -, -, g0, g1, g2⟩ := Go.Joins.open_agg3 Tryd.underlying24 (by kernel_rfl) Tryd.cells24 (hval 0 24 v0 rfl rfl) h0
  obtain ⟨l, e0, -⟩ := DataW.trod_bool Tryd.underlying4 g0
  obtain ⟨r, e1, -⟩ := DataW.trod_bool Tryd.underlying4 g1
  simp only [List.cons.injEq, and_true] at e0 e1
  subst e0 e1
  obtain ⟨xs, hxs⟩ := els_of g2
  obtain ⟨ba, bl, bc, rfl⟩ := okWide_slice Tryd.underlying25 (hval 1 25 v1 rfl rfl)
  obtain ⟨bs, hbs, hbb⟩ : ∃ bs, SlAt mB 0 0 W.heap.size W (.slice ba bl bc) bs ∧ Bytes bs := by
    obtain ⟨fuel, hf⟩ := h1
    exact bytes_of (by simpa [Value.cells] using hf)
  clear hA0 hval0
  refine (lawMatch_any l r c2 _ xs bs W hxs hbs (bytes_mem hbb) (tz_of (table hL)).1 (tz_of (table hL)).2).mono fun e W' ⟨he, bel⟩ => ?_
  subst he
  exact ⟨_, rfl, _, _, _, [], _, [], hW', trodAll_mk1 (shut_bool Tryd.underlying4 _), (trodAll_cons_mk (Below.trod Tryd.laidOut (by kernel_rfl) (of_decide_eq_true (by kernel_rfl)) k0 bel lt0) (trodAll_cons_mk (Below.trod Tryd.laidOut (by kernel_rfl) (of_decide_eq_true (by kernel_rfl)) k1 bel lt1) trodAll_mk0)), rfl, bel.frame _, fun h => by cases h⟩

theorem match_said : Rows.FnExactMatchLineSaid :=
  OpenClaim.holds_of_cond 3 Tryd.f3 rfl rfl rfl rfl rfl rfl rfl ⟨rfl, rfl, rfl, rfl, rfl⟩ rfl rfl rfl rfl rfl (by kernel_rfl) Tryd.func3 (by kernel_rfl)
    (of_decide_eq_true (by kernel_rfl)) (by unfold Func.isWrapper; first | (rw [if_pos (by decide +kernel)]; kernel_rfl) | (rw [if_neg (by decide +kernel)]; exact ⟨rfl, rfl⟩))
    (fun os started H enc _ F => by rw [OpenClaim.pre_eq_preRow]; exact match_lifted os started H enc F)

theorem match_plain (f : FuncId) (fn : Func) (hf : Tryd.pinned.checked.prog.funcNamed "loop.example/s0027/laws.FnExactMatchLine" = some f) (hfn : Tryd.pinned.checked.prog.funcs[f]? = some fn) :
    true = Tryd.pinned.checked.prog.looks [] ∧ ∀ (j : Nat) t, fn.params[j]? = some t → Tryd.pinned.checked.prog.wantsStandIn t = false := by
  obtain rfl : f = 3 := Option.some.inj ((show Tryd.prog.funcNamed "loop.example/s0027/laws.FnExactMatchLine" = some 3 by kernel_rfl).symm.trans hf) |>.symm
  obtain rfl : fn = Tryd.f3 := (Option.some.inj (Tryd.func3.symm.trans hfn)).symm
  refine ⟨by kernel_rfl, fun j t ht => ?_⟩
  rw [Tryd.params3] at ht
  obtain rfl | rfl : t = 24 ∨ t = 25 := by simpa using Array.mem_of_getElem? ht
  · exact (show Tryd.prog.wantsStandIn 24 = false by kernel_rfl)
  · exact (show Tryd.prog.wantsStandIn 25 = false by kernel_rfl)

theorem matchLine_holds : Rows.FnExactMatchLineCardSaid :=
  Claim7.holds_tied_plain_at .later [] _ _ _ _ match_said (fun _ h => by cases h) (by kernel_rfl) (fun _ h => by cases h) fnExactMatchLine_row_tie rfl ⟨rfl, rfl⟩ (by kernel_rfl) rfl match_plain (by kernel_rfl)

#print axioms matchLine_holds
end Go.Proofs.YtfdkdjngeomcdaaDoor
