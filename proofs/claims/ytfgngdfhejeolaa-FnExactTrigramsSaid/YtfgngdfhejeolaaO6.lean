import Derived.Test.YtfgngdfhejeolaaO5
namespace Go.Proofs.Ytfgngdfhejeolaa
open Go.RowKit Go.Shelf

attribute [local go_sem] Oper.semAt_some

set_option maxRecDepth 100000 in
set_option maxHeartbeats 2000000 in
theorem numbersOf_any (sv : Value) (bs : List Int) (w : World) (hv : SlAt mB 0 0 w.heap.size w sv bs) (hbb : ∀ i : Nat, 0 ≤ bs[i]?.getD 0 ∧ bs[i]?.getD 0 ≤ 255) (hl : bs.length ≤ 1048576) :
    Calls Try.prog 26 #[sv] w fun e w' => OrdRet e w w' (tris bs (bs.length - 2)) ∧ Below w.heap.size w w' := by
  obtain ⟨a, cap, rfl, hml, hc⟩ := hv
  obtain ⟨i0, hi, hz0, hz1, hz2⟩ := info_parts Try.zinInt
  refine (callsIn_wide (n := 5)).1 ?_
  refine callsIn_of_wp_marks Try.func26 rfl trivial ?_ rfl
  simp only [Try.ntmps26, List.size_toArray, List.length_cons, List.length_nil, Nat.reduceAdd, Nat.reduceSub, Array.replicate_succ, Array.replicate_zero, List.push_toArray, List.append_toArray, List.nil_append, List.cons_append]
  gi_wp2_with (refine ⟨trivial, ?_⟩; gi_at_call 44; refine (pieces_in _ _ rfl _).mono ?_; rintro e w' ⟨rfl, rfl⟩)
  have bO := Boxed.new w 23 (.slice none 0 0)
  have bN := Boxed.new (w.alloc (.cells #[.slice none 0 0] 23)) 22 (.slice a bs.length cap)
  rw [World.size_alloc] at bN
  have hB0 : Below w.heap.size w ((w.alloc (.cells #[.slice none 0 0] 23)).alloc (.cells #[.slice a bs.length cap] 22)) := ((Below.refl _ w).alloc (Nat.le_refl _) _).alloc (by simp) _
  refine wpIn_rangeFunc_ownG rfl (by omega) (gf := 54) (lb := #[.pointer (some ⟨w.heap.size + 1, 0, none⟩)]) rfl trivial (enters_of Try.func54 (by kernel_rfl) rfl)
    (pieces_stops 4 (by omega) (w.heap.size + 1) w.heap.size cap a bs hl hbb _ bN (by simp; omega) (fun hp => by
      obtain ⟨b, off, e, -, h1, h2⟩ := hc hp
      exact ⟨b, off, e, h1, fun i hi => (hB0.cell (p := ⟨b, off + i, none⟩) h1).trans (h2 i hi)⟩)) KpX.trans (KpX.putObj (by simp; omega)) (Below.refl _ _) (fun _ => rfl)
    (fun (pre : List Int) W => (∃ v, Boxed W w.heap.size 23 v ∧ W.ownsRow w.heap.size 3 1 v pre.length (pre.map mI) ∧ True) ∧ Below w.heap.size w W)
    (fun _ _ _ => False)
    (OwnFrom.and (Own.from (holdsRow_own w.heap.size w.heap.size 23 3 1 (fun pre : List Int => pre.length) (fun pre : List Int => pre.map mI) (fun _ _ => True)) _) (ownFrom_below (Nat.le_refl _) (by simp; omega)))
    (fun _ _ _ _ _ hs _ _ => hs)
    ⟨⟨_, bO.alloc _, World.ownsRow_nil _ _ _ _, trivial⟩, hB0⟩
    (fun x => { tmps := #[.slice a bs.length cap, undef, .slice none 0 0, .pointer (some ⟨w.heap.size, 0, none⟩), .int .i64 x, .slice a bs.length cap, .func (.func 54) #[] #[.pointer (some ⟨w.heap.size + 1, 0, none⟩)], .int .i64 x, undef, undef, undef, undef, undef, undef], defers := [] }) ?assign ?body ?done ?stop
  case assign =>
    intro l x W K hK
    gi_wp2
    exact hK
  case body =>
    rintro l pre x W ⟨⟨v, hv, hrow, -⟩, hB⟩ hlt
    have hcv := hv.cell
    have hszB := hB.size
    gi_wp2_with (gi_at_builtin; refine wpListIn_append_own _ rfl _ _ 23 rfl w.heap.size 3 i0 (.int .i64 0) 1 8 Try.underlying23 hi hz0 hz1 hz2 rfl (by decide) _ _ _ rfl (hrow.alloc _) ⟨W.heap.size, 0, none⟩ 1 1 [.int .i64 x] rfl rfl (cell_one_new _ _ _) (by simp [Value.oneCell']) (by unfold maxLen; omega) (by omega) (by simp; omega) ?_; intro v' w1 hown' hgrow _; obtain ⟨g', cap', rfl⟩ := ownsRow_succ hown'; obtain ⟨hv1, hv2, hr2, hk2, hb2⟩ := hv.appended (by decide) hrow hB.size (Nat.le_refl _) hown' hgrow; have hc1 := hv1.cell; have hf1 := hv1.frozen)
    exact ⟨hk2.from _, ⟨hb2, fun u hu => (Below.heap_setCell _ _ _ _ (by show w.heap.size + 1 ≠ w.heap.size; omega)).trans ((hu.alloc _).kept hgrow (hu.not_row (by decide) hrow))⟩, ⟨_, hv2, by simpa [mI] using hr2, trivial⟩, hB.trans hb2⟩
  case done =>
    rintro D ys W hD hys ⟨⟨v, hv, hrow, -⟩, hB⟩ hK
    have hyl : ys.length ≤ 1048576 := by rw [hys, tris_len]; omega
    have Hys := hide hys
    clear hys
    have hcv := hv.cell
    have hne : some D ≠ v.ownBlock := fun e => by
      rcases hrow.2 with ⟨rfl, _⟩ | ⟨g, cap, cur, rfl, _, hgb, _⟩
      · cases e
      · obtain rfl : D = g := by simpa [Value.ownBlock] using e
        rw [hgb] at hK
        cases hK
    have hDl : D < W.heap.size := (Array.getElem?_eq_some_iff.1 hK).1
    have Hrow := hide hrow
    obtain ⟨oa, oc, rfl⟩ := own_is hrow
    clear hrow
    gi_wp2_with fail
    refine ⟨trivial, ?_⟩
    refine (callsIn_wide.2 (ascending_any w.heap.size _ _ _ (unhide Hrow) hB.size (by omega))).mono ?_
    rintro e w2 ⟨v2, zs, rfl, ho, hle, hown2, hb2, hg2⟩
    have hK2 : w2.heap[D]? = some (.deferred (some [])) := (hg2.block D hDl hne).trans hK
    have Hown2 := hide hown2
    obtain ⟨pa, pc, rfl⟩ := own_is hown2
    clear hown2
    gi_wp2
    refine ⟨by simp, .inl ⟨_, _, rfl, run_takeDeferred hK2, ?_⟩⟩
    refine ⟨_, results_tmp rfl _ _ _, ⟨_, zs, rfl, by rw [← unhide Hys]; exact ho, by rw [← unhide Hys]; exact hle, ?_⟩, ?_⟩
    · exact own_slw (ownsRow_putObj (unhide Hown2) _ hK2 rfl) (Nat.le_refl _) (by unfold maxLen; omega)
    · exact (hB.trans hb2).trans (belowK_b (w := w) (Nat.le_refl _) w2 D _ _ (by simp at hD; omega) hK2 rfl rfl)
  case stop =>
    rintro D c pre W _ _ h _
    exact h.elim

set_option maxHeartbeats 1000000 in
theorem implTri_any (sv : Value) (bs : List Int) (w : World) (hv : SlAt mB 0 0 w.heap.size w sv bs) (hbb : ∀ i : Nat, 0 ≤ bs[i]?.getD 0 ∧ bs[i]?.getD 0 ≤ 255) (hl : bs.length ≤ 1048576) :
    Calls Try.prog 8 #[sv] w fun e w' => OrdRet e w w' (tris bs (bs.length - 2)) ∧ Below w.heap.size w w' := by
  have Hv := hide hv
  obtain ⟨a, cap, rfl, hml, hc⟩ := hv
  clear hc
  go_enter Try.func8, Try.ntmps8
  go_wp2_with fail
  refine (numbersOf_any _ bs _ (unhide Hv) hbb hl).mono ?_
  rintro e w1 ⟨⟨v1, ys, rfl, h1, h2, h3⟩, hb1⟩
  have H3 := hide h3
  obtain ⟨_, _, rfl, -⟩ := h3
  go_wp2_with fail
  go_ret
  exact ⟨⟨_, ys, rfl, h1, h2, unhide H3⟩, hb1⟩

end Go.Proofs.Ytfgngdfhejeolaa
