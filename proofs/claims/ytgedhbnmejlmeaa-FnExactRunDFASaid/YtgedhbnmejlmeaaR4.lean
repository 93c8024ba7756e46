import Derived.Test.YtgedhbnmejlmeaaR3
import Derived.Test.YtgedhbnmejlmeaaU1
import Derived.ShutString
import Derived.ChangeOld
namespace Go.Proofs.Ytgedhbnmejlmeaa
open Go.ChangeShapes Go.WideShapes Go.ChangeAt Go.RowKit

theorem Try.cells42 : Try.prog.cellsOf 42 = 4 := by kernel_rfl
theorem Try.cells4 : Try.prog.cellsOf 4 = 1 := by kernel_rfl

section
variable {H : Type} {enc : TypeId × Value → H} {W : World}

theorem bools_of {n : Nat} {v : Value} {y : DataW H × List MemPlace} (h : DataW.trod enc Try.prog W 0 (fun _ => true) true n 40 [v] = some y) : ∃ zs, SlAt mT false 0 W.heap.size W v zs := by
  rcases Go.Deep.open_slice1 Try.underlying40 Try.cells4 h with ⟨hcs, -⟩ | ⟨a, len, cap, m, fu, V, D, Pl, hcs, -, hl, hm, hmm, -, hx⟩
  · simp only [List.cons.injEq, and_true] at hcs
    subst hcs
    exact ⟨[], none, 0, rfl, by simp, by simp⟩
  · simp only [List.cons.injEq, and_true] at hcs
    subst hcs
    simp only [if_true] at hmm
    subst hmm
    by_cases h0 : len = 0
    · subst h0
      exact ⟨[], some a, m, rfl, by simp, by simp⟩
    · obtain ⟨b, off, spot⟩ := a
      have hspot : spot = none := by simpa [Addr.add] using World.cell?_spot (hx 0 (by omega)).1
      subst hspot
      obtain ⟨f, hf⟩ := Go.Deep.choose_lt (α := Bool) (p := fun i x => W.cell? ⟨b, off + i, none⟩ = some (.bool x)) (n := len) (fun i hi => by
        obtain ⟨h1, h2⟩ := hx i (by omega)
        obtain ⟨z, e, -⟩ := DataW.trod_bool Try.underlying4 h2
        simp only [List.cons.injEq, and_true] at e
        rw [add_plain] at h1
        exact ⟨z, by rw [h1, e]⟩)
      have hb : b < W.heap.size := World.block_lt_of_cell? _ _ (hf 0 (by omega))
      refine ⟨(List.range len).map f, _, m, by simp, by simp only [List.length_map, List.length_range]; omega, fun _ => ⟨b, off, rfl, Nat.zero_le _, hb, fun i hi => ?_⟩⟩
      have hi' : i < len := by simpa using hi
      have := hf i hi'
      simpa [hi', mT] using this

end

set_option maxRecDepth 100000 in
theorem runDFA_lifted (himpl : RunsTable 22) (os : Os) (started : os.Started) (H : Type) (enc : TypeId × Value → H) :
    ReturnsInHanded {} Try.checked os 5 .any (Rows.fnExactRunDFASpec.pre6 enc Try.prog Try.f5 Rows.fnExactRunDFARow.domain false) (Rows.fnExactRunDFASpec.post enc Try.prog Try.f5 false true false false) := by
  refine returnsInHanded_of_change (C := Try.checked) Try.own started (by kernel_rfl) Try.func5
    (ChangeSpec.witness6 (enc := enc) (C := Try.checked) false ⟨#[], #[.agg #[.slice none 0 0, .int .i64 0, .slice none 0 0, .slice none 0 0], .slice none 0 0], []⟩ 8 (by kernel_rfl) (by kernel_rfl) (by kernel_rfl) (by kernel_rfl)) ?_
  intro W base args ds gs before hval0 hW hcnd _
  have hval : ∀ (j : Nat) t v, Try.f5.params[j]? = some t → args[j]? = some v → Value.okWide Try.prog W .any base t v := hval0
  have hW' := hW
  obtain ⟨p, q, hA0, hV, rfl, hfz, hnd⟩ := hW
  have hA : DataW.TrodAll enc Try.prog W 0 (fun _ => true) true Try.f5.params.toList args.toList ds p := hA0
  rw [Try.params5] at hA hval
  obtain ⟨v0, vs0, d0, ds0, p0, q0, hargs, rfl, rfl, h0, r0⟩ := trodAll_cons hA
  obtain ⟨v1, vs1, d1, ds1, p1, q1, rfl, rfl, rfl, h1, r1⟩ := trodAll_cons r0
  obtain ⟨rfl, rfl, rfl⟩ := trodAll_nil r1
  obtain rfl : args = #[v0, v1] := by cases args; simp_all
  obtain ⟨rfl, rfl⟩ := trodVars_none hV
  have k0 := h0
  have k1 := h1
  have lt0 : ∀ x ∈ p0, x.block < W.heap.size := by obtain ⟨m, hm⟩ := k0; exact DataW.trod_lt m _ _ _ hm
  have lt1 : ∀ x ∈ p1, x.block < W.heap.size := by obtain ⟨m, hm⟩ := k1; exact DataW.trod_lt m _ _ _ hm
  obtain ⟨c0, c1, c2, c3, y0, y1, y2, y3, m, rfl, -, -, g0, g1, g2, g3⟩ := Go.Joins.open_agg4 Try.underlying42 (by kernel_rfl) Try.cells42 (hval 0 42 v0 rfl rfl) h0
  obtain ⟨nc, e1, -, wn⟩ := DataW.trod_int Try.underlying3 g1
  simp only [List.cons.injEq, and_true] at e1
  subst e1
  obtain ⟨xs, hxs⟩ := ints_of g0
  obtain ⟨ys, hys⟩ := ints_of g2
  obtain ⟨zs, hzs⟩ := bools_of g3
  obtain ⟨a, l, c, rfl⟩ := okWide_slice Try.underlying43 (hval 1 43 v1 rfl rfl)
  obtain ⟨bs, hbs, hbb⟩ : ∃ bs, SlAt mB 0 0 W.heap.size W (.slice a l c) bs ∧ Bytes bs := by
    obtain ⟨fuel, hf⟩ := h1
    exact bytes_of (by simpa [Value.cells] using hf)
  clear hA0 hval0
  refine (lawRun_any himpl c0 c2 c3 _ xs ys bs zs nc W hxs.sl.1 hys.sl.1 hzs hbs hbb (in64_of_wf wn) hxs.sl.2 hys.sl.2).mono fun e W' ⟨he, bel⟩ => ?_
  subst he
  exact ⟨_, rfl, _, _, _, [], _, [], hW', trodAll_mk1 (shut_bool Try.underlying4 _), (trodAll_cons_mk (Below.trod Try.laidOut (by kernel_rfl) (of_decide_eq_true (by kernel_rfl)) k0 bel lt0) (trodAll_cons_mk (Below.trod Try.laidOut (by kernel_rfl) (of_decide_eq_true (by kernel_rfl)) k1 bel lt1) trodAll_mk0)), rfl, bel.frame _, fun h => by cases h⟩

theorem runDFA_of (himpl : RunsTable 22) : Rows.FnExactRunDFASaid :=
  OpenClaim.holds_of_wide 5 Try.f5 rfl rfl rfl rfl rfl rfl rfl ⟨rfl, rfl, rfl, rfl, rfl⟩ rfl rfl rfl rfl rfl (by kernel_rfl) Try.func5 (by kernel_rfl)
    (of_decide_eq_true (by kernel_rfl)) (by unfold Func.isWrapper; first | (rw [if_pos (by decide +kernel)]; kernel_rfl) | (rw [if_neg (by decide +kernel)]; exact ⟨rfl, rfl⟩))
    (fun os started H enc _ => runDFA_lifted himpl os started H enc)

end Go.Proofs.Ytgedhbnmejlmeaa
