import Derived.Test.YtfdkdjngeomcdaaDoorP1
import Derived.Lib.SmallJoins
import Derived.Deep.Slices
import Derived.OpenShut
namespace Go.Proofs.YtfdkdjngeomcdaaDoor
open Go.ChangeShapes Go.WideShapes Go.ChangeAt Go.RowKit

theorem Tryd.cells24 : Tryd.prog.cellsOf 24 = 3 := by kernel_rfl
theorem Tryd.cells22 : Tryd.prog.cellsOf 22 = 1 := by kernel_rfl
theorem Tryd.cells54 : Tryd.prog.cellsOf 54 = 4 := by kernel_rfl
theorem Tryd.cells3 : Tryd.prog.cellsOf 3 = 1 := by kernel_rfl
theorem Tryd.cells44 : Tryd.prog.cellsOf 44 = 1 := by kernel_rfl

theorem in64_of_wf {n : Int} (h : (Lit.int .i64 n).wf = true) : In64 n := by
  simpa [Lit.wf, IntKind.min, IntKind.max, IntKind.signed, IntKind.bits, In64] using h

section
variable {H : Type} {enc : TypeId × Value → H} {W : World}

theorem ints_of {n : Nat} {v : Value} {y : DataW H × List MemPlace} (h : DataW.trod enc Tryd.prog W 0 (fun _ => true) true n 44 [v] = some y) : ∃ xs, IntsAt 0 W.heap.size W v xs := by
  rcases open_ints Tryd.underlying44 Tryd.underlying3 Tryd.cells3 h with ⟨hcs, -⟩ | ⟨a, len, cap, zs, hcs, -, hl, hm, hz, -, hcell, hwz⟩
  · simp only [List.cons.injEq, and_true] at hcs
    subst hcs
    exact ⟨[], none, 0, rfl, by simp, by intro i; simp [In64], by simp⟩
  · simp only [List.cons.injEq, and_true] at hcs
    subst hcs
    simp only [if_true] at hz
    have hlen : (zs.take len).length = len := by rw [List.length_take]; omega
    refine ⟨zs.take len, some a, cap, by rw [hlen], by omega, fun i => ?_, fun hp => ?_⟩
    · by_cases hi : i < (zs.take len).length
      · rw [List.getElem?_eq_getElem hi]
        exact in64_of_wf (hwz _ (List.mem_of_mem_take (List.getElem_mem hi)))
      · rw [List.getElem?_eq_none (by omega)]
        simp [In64]
    · obtain ⟨b, off, rfl, hc⟩ := ints_at hcell (by omega)
      refine ⟨b, off, rfl, Nat.zero_le _, World.block_lt_of_cell? _ _ (hc 0 (by omega)), fun i hi => ?_⟩
      rw [hlen] at hi
      rw [hc i (by omega), List.getElem?_take_of_lt hi]
      rfl

theorem el_of {n b o : Nat} {cs : List Value} {y : DataW H × List MemPlace} (hc : W.cells? 0 ⟨b, o, none⟩ 4 = some cs) (h : DataW.trod enc Tryd.prog W 0 (fun _ => true) true n 54 cs = some y) : ∃ x, ElAt 0 W.heap.size W b o x := by
  obtain ⟨-, hlen, hcell⟩ := World.cells?_some hc
  match cs, hlen with
  | [c0, c1, c2, c3], _ =>
    obtain ⟨y0, y1, y2, y3, m, -, -, h0, h1, h2, h3⟩ := Go.Joins.trod_struct4 Tryd.underlying54 h
    simp only [Tryd.cells3, Tryd.cells44, List.drop_zero, List.take_succ_cons, List.take_zero, List.drop_succ_cons] at h0 h1 h2 h3
    obtain ⟨k, e0, -, wk⟩ := DataW.trod_int Tryd.underlying3 h0
    obtain ⟨mn, e2, -, wmn⟩ := DataW.trod_int Tryd.underlying3 h2
    obtain ⟨mx, e3, -, wmx⟩ := DataW.trod_int Tryd.underlying3 h3
    simp only [List.cons.injEq, and_true] at e0 e2 e3
    subst e0 e2 e3
    obtain ⟨xs, hxs⟩ := ints_of h1
    have k0 := hcell 0 (by omega)
    have k1 := hcell 1 (by omega)
    have k2 := hcell 2 (by omega)
    have k3 := hcell 3 (by omega)
    rw [add_plain] at k0 k1 k2 k3
    exact ⟨⟨k, xs, mn, mx⟩, in64_of_wf wk, in64_of_wf wmn, in64_of_wf wmx, c1, k0, k1, k2, k3, hxs⟩

theorem els_of {n : Nat} {v : Value} {y : DataW H × List MemPlace} (h : DataW.trod enc Tryd.prog W 0 (fun _ => true) true n 22 [v] = some y) : ∃ xs, ElsAt 0 W.heap.size W v xs := by
  rcases Go.Deep.open_slice Tryd.underlying22 h with ⟨hcs, -⟩ | ⟨a, len, cap, m, fu, D, Pl, hcs, -, hl, hm, hmm, -, hx⟩
  · simp only [List.cons.injEq, and_true] at hcs
    subst hcs
    exact ⟨[], none, 0, rfl, by simp, by simp⟩
  · simp only [List.cons.injEq, and_true] at hcs
    subst hcs
    simp only [if_true] at hmm
    subst hmm
    rw [Tryd.cells54] at hx
    by_cases h0 : len = 0
    · subst h0
      exact ⟨[], some a, m, rfl, ⟨by simp, hm⟩, by simp⟩
    · obtain ⟨cs0, hc0, -⟩ := hx 0 (by omega)
      obtain ⟨-, -, hcell0⟩ := World.cells?_some hc0
      obtain ⟨cs00, hh, hsome⟩ : ∃ q w', cs0 = q ∧ W.cell? a = some w' := by
        obtain ⟨-, hlen0, -⟩ := World.cells?_some hc0
        match cs0, hlen0 with
        | [c0, c1, c2, c3], _ => exact ⟨_, c0, rfl, by simpa [Addr.add] using hcell0 0 (by omega)⟩
      obtain ⟨b, off, spot⟩ := a
      have hspot : spot = none := World.cell?_spot hsome.2
      subst hspot
      have inh : Inhabited El := ⟨dE⟩
      obtain ⟨f, hf⟩ := Go.Deep.choose_lt (α := El) (p := fun i x => ElAt 0 W.heap.size W b (off + i * 4) x) (n := len) (fun i hi => by
        obtain ⟨cs', h1, h2⟩ := hx i (by omega)
        rw [add_plain] at h1
        exact el_of h1 h2)
      have hb : b < W.heap.size := World.block_lt_of_cell? _ _ hsome.2
      refine ⟨(List.range len).map f, _, m, by simp, ⟨by simpa using hl, hm⟩, fun _ => ⟨b, off, rfl, Nat.zero_le _, hb, fun i hi => ?_⟩⟩
      have hi' : i < len := by simpa using hi
      have := hf i hi'
      simpa [hi'] using this

end
end Go.Proofs.YtfdkdjngeomcdaaDoor
