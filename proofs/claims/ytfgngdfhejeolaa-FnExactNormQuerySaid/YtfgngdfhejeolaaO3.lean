import Derived.Test.YtfgngdfhejeolaaO1
import Derived.Test.YtfgngdfhejeolaaX0
import Derived.Test.YtfgngdfhejeolaaSh
import Derived.Lib.OwnBridge
import Derived.Shelf.Sort.Plain
import Derived.Shelf.Slices.Clone
import Derived.Shelf.Slices.CompactI
import Derived.Shelf.Slices.In.SortNone
namespace Go.Proofs.Ytfgngdfhejeolaa
open Go.RowKit Go.Sort Go.Shelf

theorem below_grow (w : World) (os : Array Obj) : Below w.heap.size w (Sort.grow w os) := by
  refine ⟨rfl, rfl, rfl, by simp [Sort.grow], fun k hk => ?_⟩
  simp [Sort.grow, Array.getElem?_append_left hk]

theorem grown_put {w : World} {g nn q : Nat} {os : Array Obj} {d d' : Array Int} : w.grownBy (putRow mI (Sort.ahead (Sort.grow (putRow mI (Sort.ahead w nn) g 0 d) os) q) g 0 d') (some g) := by
  refine ⟨rfl, rfl, rfl, ?_, fun k hk hne => ?_⟩
  · simp [putRow, mapBlock, Sort.ahead, Sort.grow]
  · have e : g ≠ k := fun e => hne (by rw [e])
    simp [putRow, mapBlock, Sort.ahead, Sort.grow, Array.getElem?_modify, e]
    rw [Array.getElem?_append_left (by simpa using hk), Array.getElem?_modify, if_neg e]

/-- From what the contracts of the library's sort and compacting leave. -/
theorem asc_left {w : World} {lo g cap nn q : Nat} {os : Array Obj} {zs : List Int} (hown : w.ownsRow lo 3 1 (.slice (some ⟨g, 0, none⟩) zs.length cap) zs.length (zs.map mI)) (hlo : lo ≤ w.heap.size) (hlg : lo ≤ g) :
    (putRow mI (Sort.ahead (Sort.grow (putRow mI (Sort.ahead w nn) g 0 (zs.mergeSort fun x y => decide (x ≤ y)).toArray) os) q) g 0 (Lib.compact (zs.mergeSort fun x y => decide (x ≤ y)) ++ List.replicate (zs.length - (Lib.compact (zs.mergeSort fun x y => decide (x ≤ y))).length) 0).toArray).ownsRow lo 3 1
      (.slice (some ⟨g, 0, none⟩) (Lib.compact (zs.mergeSort fun x y => decide (x ≤ y))).length cap) (Lib.compact (zs.mergeSort fun x y => decide (x ≤ y))).length ((Lib.compact (zs.mergeSort fun x y => decide (x ≤ y))).map mI) ∧
    Below lo w (putRow mI (Sort.ahead (Sort.grow (putRow mI (Sort.ahead w nn) g 0 (zs.mergeSort fun x y => decide (x ≤ y)).toArray) os) q) g 0 (Lib.compact (zs.mergeSort fun x y => decide (x ≤ y)) ++ List.replicate (zs.length - (Lib.compact (zs.mergeSort fun x y => decide (x ≤ y))).length) 0).toArray) := by
  have hl2 : (zs.mergeSort fun x y => decide (x ≤ y)).length = zs.length := List.length_mergeSort zs
  have hle := Lib.compact_length_le (zs.mergeSort fun x y => decide (x ≤ y))
  generalize (zs.mergeSort fun x y => decide (x ≤ y)) = ss at *
  have h1 := Lib.ownsRow_putRow (q := nn) (k := zs.length) (ys := ss) hown hl2 (Nat.le_refl _)
  rw [List.take_of_length_le (by omega)] at h1
  have h2 := own_keep h1 (below_grow _ os) (Nat.le_refl _)
  have h3 := Lib.ownsRow_putRow (q := q) (k := (Lib.compact ss).length) (ys := Lib.compact ss ++ List.replicate (zs.length - (Lib.compact ss).length) 0) h2 (by simp; omega) (by omega)
  rw [List.take_left] at h3
  refine ⟨h3, Lib.below_putRow ?_ hlg⟩
  have b1 : Below lo w (putRow mI (Sort.ahead w nn) g 0 ss.toArray) := Lib.below_putRow (Below.refl _ _) hlg
  exact b1.trans ((below_grow _ os).mono (by have := b1.size; omega))

set_option maxHeartbeats 2000000 in
set_option maxRecDepth 100000 in
theorem ascending_any (lo : Nat) (v : Value) (xs : List Int) (w : World) (h : w.ownsRow lo 3 1 v xs.length (xs.map mI)) (hlo : lo ≤ w.heap.size) (hlen : xs.length ≤ 4611686018427387903) :
    Calls Try.prog 31 #[v] w fun e w' => ∃ v' ys, e = .returned v' ∧ Ord xs ys ∧ ys.length ≤ xs.length ∧ w'.ownsRow lo 3 1 v' ys.length (ys.map mI) ∧ Below lo w w' ∧ w.grownBy w' v.ownBlock := by
  by_cases hnil : v = .slice none 0 0
  · subst hnil
    have h0 : xs = [] := by
      rcases h.2 with ⟨_, hz⟩ | ⟨g, cap, cur, e, -⟩
      · exact List.eq_nil_of_length_eq_zero hz
      · cases e
    subst h0
    go_enter Try.func31, Try.ntmps31
    go_wp2_with (first
      | (go_at_call 47; refine (Any.slices_Sort_int_none Try.laysSort none 0 _).mono ?_; rintro e w1 ⟨rfl, rfl⟩)
      | (go_at_call 48; refine (Any.slices_Compact_int_empty Try.laysCompact none 0 _).mono ?_; rintro e w1 ⟨rfl, rfl⟩))
    go_ret
    exact ⟨_, [], rfl, Ord.nil, Nat.le_refl _, h, Below.refl _ _, ⟨rfl, rfl, rfl, Nat.le_refl _, fun _ _ _ => rfl⟩⟩
  · obtain ⟨g, cap, rfl, hlg, hgl, hncap, hcm, hl, hH⟩ := Lib.holds_of_ownsRow h hnil
    have hcomp : ∀ W : World, Holds mI W g 0 (xs.mergeSort fun x y => decide (x ≤ y)).toArray → Calls Try.prog 48 #[.slice (some ⟨g, 0, none⟩) xs.length cap] W fun e w' => e = .returned (.slice (some ⟨g, 0, none⟩) (Lib.compact (xs.mergeSort fun x y => decide (x ≤ y))).length cap) ∧ ∃ q, w' = putRow mI (Sort.ahead W q) g 0 (Lib.compact (xs.mergeSort fun x y => decide (x ≤ y)) ++ List.replicate (xs.length - (Lib.compact (xs.mergeSort fun x y => decide (x ≤ y))).length) 0).toArray := by
      intro W hW
      have hl2 : (xs.mergeSort fun x y => decide (x ≤ y)).length = xs.length := List.length_mergeSort xs
      have hc := Any.slices_Compact_int Try.laysCompact g 0 cap (xs.mergeSort fun x y => decide (x ≤ y)) W hW (by omega) (by omega)
      rw [hl2] at hc
      exact hc
    have hH2 : ∀ (nn : Nat) (os : Array Obj), Holds mI (Sort.grow (putRow mI (Sort.ahead w nn) g 0 (xs.mergeSort fun x y => decide (x ≤ y)).toArray) os) g 0 (xs.mergeSort fun x y => decide (x ≤ y)).toArray := by
      intro nn os
      have hl2 : (xs.mergeSort fun x y => decide (x ≤ y)).length = xs.length := List.length_mergeSort xs
      exact holds_grow mI _ os g 0 _ (by simpa [putRow, mapBlock, Sort.ahead] using hgl) (holds_putRow mI _ g 0 _ _ (holds_ahead mI w nn g 0 _ hH) (by simp))
    have HH := hide hH
    have HH2 := hide hH2
    have Hown := hide h
    have Hcomp := hide hcomp
    clear hH hH2 h hcomp
    go_enter Try.func31, Try.ntmps31
    go_wp2_with fail
    refine (Any.slices_Sort_int Try.laysSort g 0 cap xs w (unhide HH) hgl (by omega)).mono ?_
    rintro e w1 ⟨rfl, nn, os, rfl⟩
    go_wp2_with fail
    refine (unhide Hcomp _ (unhide HH2 nn os)).mono ?_
    rintro e w1 ⟨rfl, q, rfl⟩
    have hfin := hide (asc_left (nn := nn) (q := q) (os := os) (unhide Hown) hlo hlg)
    have hl2 : (xs.mergeSort fun x y => decide (x ≤ y)).length = xs.length := List.length_mergeSort xs
    have hle := Lib.compact_length_le (xs.mergeSort fun x y => decide (x ≤ y))
    have Hord := hide (ord_compact xs)
    go_wp2_with fail
    go_ret
    exact ⟨_, _, rfl, unhide Hord, by omega, (unhide hfin).1, (unhide hfin).2, grown_put⟩

end Go.Proofs.Ytfgngdfhejeolaa
