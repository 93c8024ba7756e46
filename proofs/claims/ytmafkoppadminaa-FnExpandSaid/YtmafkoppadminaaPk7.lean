import Derived.Test.YtmafkoppadminaaE3
import Derived.Test.YtmafkoppadminaaC5
import Derived.Test.YtmafkoppadminaaPk4
import Derived.Test.YtmafkoppadminaaPk2
import Derived.Test.YtmafkoppadminaaPk6
import Derived.Test.YtmafkoppadminaaPk5
import Derived.Test.YtmafkoppadminaaB0
import Derived.Lib.SmallJoins
import Derived.Deep.Slices
import Derived.OpenShut
import Derived.Test.YtmafkoppadminaaPk1
import Derived.ShutString
import Derived.ChangeOld
import Derived.Test.YtmafkoppadminaaPk3
namespace Go.Proofs.Ytmafkoppadminaa
open Go.RowKit
def NodeRet (e : Ending) (xs : List El) : Prop :=
  (∃ u, e = .returned (.tuple #[u, .bool true]) ∧ ValidT xs) ∨ (e = .returned (.tuple #[.nilIface, .bool false]) ∧ ¬ ValidT xs)
theorem NodeRet.no {xs : List El} (h : ¬ ValidT xs) : NodeRet (.returned (.tuple #[.nilIface, .bool false])) xs := Or.inr ⟨rfl, h⟩
theorem short_bad {xs : List El} {st : List (List El × Int)} {k : Nat} (hk : k < xs.length) (hst : flats st = xs.take k) (hw : ∀ s ∈ st, SegM s.1 s.2) (ok : ElOk (xs[k]?.getD dE)) (hlt : (st.length : Int) < cnt (xs[k]?.getD dE).kind) : ¬ ValidT xs := by
  intro hv
  have sh := hv.2.2.1
  have htk := take_next hk
  have h1 : wsum (xs.take (k + 1)) + wsum (xs.drop (k + 1)) = 1 := by rw [← wsum_append, List.take_append_drop]; exact sh.1
  have h2 := sh.2 (k + 1) (by omega) (by omega)
  have h3 := wsum_flats (fun s hs => (hw s hs).ws)
  rw [hst] at h3
  rw [htk, wsum_append, h3] at h1
  simp only [wsum] at h1
  generalize xs[k]?.getD dE = x at *
  rcases ok with ⟨q1, -⟩ | ⟨q1 | q1 | q1, -⟩ | ⟨q1, -⟩ <;> simp [cnt, wt, q1] at hlt h1 <;> omega
theorem own_slice {base n : Nat} {w : World} {v : Value} {vals : List Value} (hown : w.ownsRow base 42 1 v n vals) : ∃ ao c, v = .slice ao n c := by
  rcases hown.2 with ⟨rfl, hn⟩ | ⟨g, cap, cur, rfl, hbg, hg, hnc, hcm, hcs, htake⟩
  · exact ⟨none, 0, by rw [hn]⟩
  · exact ⟨_, _, rfl⟩
set_option maxHeartbeats 2000000 in
theorem l1treeOK_any (v : Value) (xs : List El) (w : World) (hv : ElsAt 0 w.heap.size w v xs) :
    Calls Try.prog 12 #[v] w fun e w' => RetB e (ValidT xs) ∧ Below w.heap.size w w' := by
  have hv0 := hv
  obtain ⟨a, cp, rfl, hl, hc⟩ := hv
  unfold maxLen at hl
  by_cases n1 : xs.length < 1
  · have n1' : (xs.length : Int) < 1 := by omega
    go_enter Try.func12, Try.ntmps12
    go_wp2
    go_ret
    exact ⟨RetB.no (fun h => by have := h.1; omega), Below.refl _ _⟩
  · have n1' : ¬ (xs.length : Int) < 1 := by omega
    by_cases n2 : 3000 < xs.length
    · have n2' : 3000 < (xs.length : Int) := by omega
      go_enter Try.func12, Try.ntmps12
      go_wp2
      go_ret
      exact ⟨RetB.no (fun h => by have := h.1; omega), Below.refl _ _⟩
    · have n2' : ¬ 3000 < (xs.length : Int) := by omega
      have Hv0 := hide hv0
      clear hv0
      go_enter Try.func12, Try.ntmps12
      go_wp2
      go_loopw [3] (fun i wr => ∃ k : Nat, k ≤ xs.length ∧ i = .int .i64 k ∧ (∀ j : Nat, j < k → ElOk (xs[j]?.getD dE)) ∧ Below w.heap.size w wr) (fun i _ => xs.length - (intOf i).toNat)
      case atStart => exact ⟨0, Nat.zero_le _, rfl, fun j hj => absurd hj (Nat.not_lt_zero _), Below.refl _ _⟩
      case round =>
        obtain ⟨k, hk, rfl, hok, hb⟩ := hrel
        have Hok := hide hok
        clear hok
        by_cases hlt : k < xs.length
        · obtain ⟨b, off, rfl, -, hbn, hel⟩ := hc (by omega)
          obtain ⟨i1, i2, i3, v, c0, c1, c2, c3, hints⟩ := (hel k hlt).same (Same.of_below hb (Nat.le_refl _)) (Nat.zero_le _) hbn
          have hlt' : (k : Int) < (xs.length : Int) := by omega
          generalize hX : xs[k]?.getD dE = x at *
          have HX := hide hX
          clear hX hel
          obtain ⟨a', cap', rfl, -, -, -⟩ := id hints
          go_wp2_with fail
          refine (l1opOK_any _ x _ (hints.mono (Nat.le_refl _) hb.size)).mono ?_
          rintro e w1 ⟨hret, hb1⟩
          have hB1 := hb.trans (hb1.mono hb.size)
          rcases hret.cases with ⟨rfl, hgood⟩ | ⟨rfl, hbad⟩
          · have Hgood := hide hgood
            clear hgood hb1
            go_wp2
            go_roundw
            case rel => exact ⟨k + 1, by omega, by go_num, fun j hj => by
              by_cases e : j = k
              · subst e; rw [unhide HX]; exact unhide Hgood
              · exact unhide Hok j (by omega), hB1⟩
            case measure => simp [intOf]; omega
          · have Hbad := hide hbad
            clear hbad hb1
            go_wp2
            go_ret
            exact ⟨RetB.no (fun h => by have := h.2.1 k hlt; rw [unhide HX] at this; exact unhide Hbad this), hB1⟩
        · obtain rfl : k = xs.length := by omega
          have hv1 := (unhide Hv0).below hb (Nat.le_refl _)
          go_wp2_with fail
          refine (l1shape_any _ xs _ hv1 (by omega)).mono ?_
          rintro e w1 ⟨hret, rfl⟩
          rcases hret.cases with ⟨rfl, hgood⟩ | ⟨rfl, hbad⟩
          · obtain ⟨c, hseg, hsz⟩ := exists_seg (unhide Hok) hgood
            have Hgood := hide hgood
            have Hrun := hide (hseg.run [])
            have hts := hseg.bd
            clear hgood hseg
            go_wp2_with fail
            refine (hsz _ _ hv1 (by omega)).mono ?_
            rintro e w2 ⟨rfl, hb2⟩
            have hB2 := hb.trans (hb2.mono hb.size)
            clear hb2 hv1 hsz
            go_wp2
            go_ret
            refine ⟨RetB.of ?_, hB2⟩
            rw [decide_eq_true_iff]
            exact ⟨fun h => ⟨⟨by omega, by omega⟩, unhide Hok, unhide Hgood, c, unhide Hrun, h⟩, fun ⟨_, _, _, u, hu, hus⟩ => by rw [unhide Hrun] at hu; simp only [List.cons.injEq, and_true] at hu; omega⟩
          · have Hbad := hide hbad
            clear hbad hv1
            go_wp2
            go_ret
            exact ⟨RetB.no (fun h => unhide Hbad h.2.2.1), hb⟩
set_option maxHeartbeats 400000 in
theorem specValid_any (l r : Bool) (v : Value) (xs : List El) (w : World) (hv : ElsAt 0 w.heap.size w v xs) :
    Calls Try.prog 5 #[.agg #[.bool l, .bool r, v]] w fun e w' => RetB e (ValidT xs) ∧ Below w.heap.size w w' := by
  obtain ⟨a, cp, rfl, -, -⟩ := id hv
  have Hv := hide hv
  clear hv
  go_enter Try.func5, Try.ntmps5
  go_wp2_with fail
  refine (l1treeOK_any _ xs _ (by exact (unhide Hv).below (below1 w _) (Nat.le_refl _))).mono ?_
  rintro e w1 ⟨hret, hb1⟩
  have hB1 : Below w.heap.size w w1 := (below1 w _).trans (hb1.mono (by rw [sz_alloc]; omega))
  rcases hret.cases with ⟨rfl, hgood⟩ | ⟨rfl, hbad⟩
  · have Hgood := hide hgood
    clear hgood hb1
    go_wp2
    go_ret
    exact ⟨RetB.yes (unhide Hgood), hB1⟩
  · have Hbad := hide hbad
    clear hbad hb1
    go_wp2
    go_ret
    exact ⟨RetB.no (unhide Hbad), hB1⟩
def Bx3 (w : World) (b : Nat) (t : TypeId) (c0 c1 c2 : Value) : Prop := w.rowIs b t 3 (fun j => [c0, c1, c2].getD j undef)
theorem Bx3.new (w : World) (t : TypeId) (c0 c1 c2 : Value) : Bx3 (w.alloc (.cells #[c0, c1, c2] t)) w.heap.size t c0 c1 c2 :=
  World.rowIs_alloc w #[c0, c1, c2] t _ (fun i hi => by
    match i, hi with
    | 0, _ => rfl
    | 1, _ => rfl
    | 2, _ => rfl)
theorem Bx3.below {w w' : World} {b m : Nat} {t : TypeId} {c0 c1 c2 : Value} (h : Bx3 w b t c0 c1 c2) (hb : Below m w w') (hm : b < m) : Bx3 w' b t c0 c1 c2 := World.rowIs.of_block h (hb.block b hm)
theorem Bx3.blk {w w' : World} {b : Nat} {t : TypeId} {c0 c1 c2 : Value} (h : Bx3 w b t c0 c1 c2) (e : w'.heap[b]? = w.heap[b]?) : Bx3 w' b t c0 c1 c2 := World.rowIs.of_block h e
theorem Bx3.facts {w : World} {b : Nat} {t : TypeId} {c0 c1 c2 : Value} (h : Bx3 w b t c0 c1 c2) : w.cell? ⟨b, 0, none⟩ = some c0 ∧ w.cell? ⟨b, 1, none⟩ = some c1 ∧ w.cell? ⟨b, 2, none⟩ = some c2 :=
  ⟨World.rowIs.cell h (i := 0) (by omega), World.rowIs.cell h (i := 1) (by omega), World.rowIs.cell h (i := 2) (by omega)⟩
theorem own_byte {base n e g cap j : Nat} {w : World} {xs : List Int} (h : w.ownsRow base e 1 (.slice (some ⟨g, 0, none⟩) n cap) n (xs.map mB)) (hj : j < n) : w.cell? ⟨g, j, none⟩ = some (mB (xs[j]?.getD 0)) ∧ w.frozen? ⟨g, j, none⟩ = false := by
  have hl : n = xs.length := by have := h.1; rw [List.length_map] at this; omega
  refine ⟨?_, h.frozenAt j⟩
  rw [h.cellAt j (by omega), List.getElem?_map, getD_of_lt (by omega)]
  rfl
theorem own_setB {base n e g cap j : Nat} {w : World} {xs : List Int} {y : Int} (h : w.ownsRow base e 1 (.slice (some ⟨g, 0, none⟩) n cap) n (xs.map mB)) (hj : j < n) : (w.setCell ⟨g, j, none⟩ (.int .u8 y)).ownsRow base e 1 (.slice (some ⟨g, 0, none⟩) n cap) n ((xs.set j y).map mB) := by
  have h1 := own_set (u := mB y) h hj
  rw [← List.map_set] at h1
  exact h1
open Go.ChangeShapes Go.WideShapes Go.ChangeAt Go.RowKit
section
variable {H : Type} {enc : TypeId × Value → H} {W : World}
end
theorem Try.own : ownKnob Try.prog.godebug = none := by kernel_rfl
theorem Try.laidOut : laidOutB Try.prog = true := by kernel_rfl
theorem Try.cells5 : Try.prog.cellsOf 5 = 1 := by kernel_rfl
theorem IntsAt.sl {lo n : Nat} {w : World} {v : Value} {xs : List Int} (h : IntsAt lo n w v xs) : SlAt mI 0 lo n w v xs ∧ ∀ i : Nat, In64 (xs[i]?.getD 0) := by
  obtain ⟨a, cap, rfl, hl, hr, hc⟩ := h
  exact ⟨⟨a, cap, rfl, hl, hc⟩, hr⟩
section
variable {H : Type} {enc : TypeId × Value → H} {W : World}
theorem bytes_of {n : Nat} {v : Value} {y : DataW H × List MemPlace} (h : DataW.trod enc Try.prog W 0 (fun _ => true) true n 22 [v] = some y) : ∃ bs, SlAt mB 0 0 W.heap.size W v bs ∧ Bytes bs := by
  rcases open_ints Try.underlying22 Try.underlying5 Try.cells5 h with ⟨hcs, -⟩ | ⟨a, len, cap, zs, hcs, -, hl, hm, hz, -, hcell, hwz⟩
  · simp only [List.cons.injEq, and_true] at hcs
    subst hcs
    exact ⟨[], ⟨none, 0, rfl, by simp, by simp⟩, by intro i; simp⟩
  · simp only [List.cons.injEq, and_true] at hcs
    subst hcs
    simp only [if_true] at hz
    have hlen : (zs.take len).length = len := by rw [List.length_take]; omega
    refine ⟨zs.take len, ⟨some a, cap, by rw [hlen], by omega, fun hp => ?_⟩, fun i => ?_⟩
    · obtain ⟨b, off, rfl, hc⟩ := ints_at hcell (by omega)
      refine ⟨b, off, rfl, Nat.zero_le _, World.block_lt_of_cell? _ _ (hc 0 (by omega)), fun i hi => ?_⟩
      rw [hlen] at hi
      rw [hc i (by omega), List.getElem?_take_of_lt hi]
      rfl
    · by_cases hi : i < (zs.take len).length
      · rw [List.getElem?_eq_getElem hi]
        have := hwz _ (List.mem_of_mem_take (List.getElem_mem hi))
        simpa [Lit.wf, IntKind.min, IntKind.max, IntKind.signed, IntKind.bits] using this
      · rw [List.getElem?_eq_none (by omega)]
        simp
end
section
variable {H : Type} {enc : TypeId × Value → H} {W : World}
end
section
variable {H : Type} {enc : TypeId × Value → H} {W : World}
theorem bytes_cap {n : Nat} {v : Value} {y : DataW H × List MemPlace} (h : DataW.trod enc Try.prog W 0 (fun _ => true) true n 22 [v] = some y) : ∃ xs, SlAt mB 0 0 W.heap.size W v xs ∧ CapOk v ∧ Bytes xs := by
  obtain ⟨xs, h1, h2⟩ := bytes_of h
  refine ⟨xs, h1, ?_, h2⟩
  rcases open_ints Try.underlying22 Try.underlying5 Try.cells5 h with ⟨hcs, -⟩ | ⟨a, len, cap, zs, hcs, -, hl, hm, -⟩
  · simp only [List.cons.injEq, and_true] at hcs
    subst hcs
    exact CapOk.mk (Nat.le_refl _) (Nat.zero_le _)
  · simp only [List.cons.injEq, and_true] at hcs
    subst hcs
    exact CapOk.mk hl hm
end
end Go.Proofs.Ytmafkoppadminaa
