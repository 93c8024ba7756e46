import Derived.Shelf.Sort.Plain
import Derived.Shelf.Slices.Clone
import Derived.Shelf.Slices.CompactI
import Derived.Shelf.Slices.In.SortNone
import Derived.Test.YtkajdhliejjohaaRows
import Derived.Test.YtkajdhliejjohaaP4
import Derived.Test.YtkajdhliejjohaaP1
import Derived.Lib.OwnBridge
import Derived.Test.YtkajdhliejjohaaP5
import Derived.RangeFuncBox
import Derived.RangeFuncLeaves
import Derived.RangeFuncCalls
import Derived.Shelf.Abstract
import Derived.OwnWalkIn
import Derived.TacticsInMore
import Derived.LoopNIn
import Derived.LoopIn
import Derived.Sort.QuietIn
import Derived.Maps.AppendAt
import Derived.Test.YtkajdhliejjohaaP6
import Derived.Maps.OwnIn
namespace Go.Proofs.Ytkajdhliejjohaa
open Go.Shelf
def Try.laysSort_ren : Go.Shelf.Ren := ⟨fun | 189 => 64 | 125 => 67 | 257 => 66 | 128 => 77 | 129 => 78 | 294 => 68 | 295 => 69 | 296 => 70 | 297 => 71 | 298 => 72 | 299 => 73 | 216 => 74 | 300 => 75 | 301 => 76 | 328 => 79 | 329 => 80 | 330 => 81 | 331 => 82 | 332 => 83 | 215 => 84 | 343 => 85 | n => n, fun | 28 => 25 | 3 => 3 | 46 => 82 | 0 => 0 | 51 => 83 | 53 => 106 | 4 => 4 | 183 => 97 | 182 => 96 | 131 => 102 | 5 => 5 | 9 => 9 | 218 => 107 | 222 => 111 | 228 => 113 | 229 => 60 | n => n, fun | n => n⟩
theorem Try.laysSort : Go.Proofs.Lays.n189 Try.prog Try.laysSort_ren := {
  mixed := by kernel_rfl
  f125 := Try.func67.trans (congrArg some (by kernel_rfl))
  f128 := Try.func77.trans (congrArg some (by kernel_rfl))
  f129 := Try.func78.trans (congrArg some (by kernel_rfl))
  f189 := Try.func64.trans (congrArg some (by kernel_rfl))
  f215 := Try.func84.trans (congrArg some (by kernel_rfl))
  f216 := Try.func74.trans (congrArg some (by kernel_rfl))
  f257 := Try.func66.trans (congrArg some (by kernel_rfl))
  f294 := Try.func68.trans (congrArg some (by kernel_rfl))
  f295 := Try.func69.trans (congrArg some (by kernel_rfl))
  f296 := Try.func70.trans (congrArg some (by kernel_rfl))
  f297 := Try.func71.trans (congrArg some (by kernel_rfl))
  f298 := Try.func72.trans (congrArg some (by kernel_rfl))
  f299 := Try.func73.trans (congrArg some (by kernel_rfl))
  f300 := Try.func75.trans (congrArg some (by kernel_rfl))
  f301 := Try.func76.trans (congrArg some (by kernel_rfl))
  f328 := Try.func79.trans (congrArg some (by kernel_rfl))
  f329 := Try.func80.trans (congrArg some (by kernel_rfl))
  f330 := Try.func81.trans (congrArg some (by kernel_rfl))
  f331 := Try.func82.trans (congrArg some (by kernel_rfl))
  f332 := Try.func83.trans (congrArg some (by kernel_rfl))
  f343 := Try.func85.trans (congrArg some (by kernel_rfl))
  t0 := Try.underlying0
  a0 := Try.isAgg0
  z0 := Try.sizeOf0
  v0 := Try.zeroValue0
  t3 := Try.underlying3
  a3 := Try.isAgg3
  z3 := Try.sizeOf3
  v3 := Try.zeroValue3
  t4 := Try.underlying4
  a4 := Try.isAgg4
  z4 := Try.sizeOf4
  v4 := Try.zeroValue4
  t5 := Try.underlying5
  a5 := Try.isAgg5
  z5 := Try.sizeOf5
  v5 := Try.zeroValue5
  t9 := Try.underlying9
  a9 := Try.isAgg9
  z9 := Try.sizeOf9
  v9 := Try.zeroValue9
  t28 := Try.underlying25
  a28 := Try.isAgg25
  z28 := Try.sizeOf25
  v28 := Try.zeroValue25
  t46 := Try.underlying82
  a46 := Try.isAgg82
  z46 := Try.sizeOf82
  v46 := Try.zeroValue82
  t51 := Try.underlying83
  a51 := Try.isAgg83
  z51 := Try.sizeOf83
  v51 := Try.zeroValue83
  t53 := Try.underlying106
  a53 := Try.isAgg106
  z53 := Try.sizeOf106
  v53 := Try.zeroValue106
  t131 := Try.underlying102
  a131 := Try.isAgg102
  z131 := Try.sizeOf102
  v131 := Try.zeroValue102
  t182 := Try.underlying96
  a182 := Try.isAgg96
  z182 := Try.sizeOf96
  v182 := Try.zeroValue96
  t183 := Try.underlying97
  a183 := Try.isAgg97
  z183 := Try.sizeOf97
  v183 := Try.zeroValue97
  t218 := Try.underlying107
  a218 := Try.isAgg107
  z218 := Try.sizeOf107
  v218 := Try.zeroValue107
  t222 := Try.underlying111
  a222 := Try.isAgg111
  z222 := Try.sizeOf111
  v222 := Try.zeroValue111
  t228 := Try.underlying113
  a228 := Try.isAgg113
  z228 := Try.sizeOf113
  v228 := Try.zeroValue113
  t229 := Try.underlying60
  a229 := Try.isAgg60
  z229 := Try.sizeOf60
  v229 := Try.zeroValue60 }
def Try.laysCompact_ren : Go.Shelf.Ren := ⟨fun | 20 => 65 | n => n, fun | 22 => 25 | 3 => 3 | 4 => 4 | 0 => 0 | n => n, fun | n => n⟩
theorem Try.laysCompact : Go.Proofs.Lays2.n20 Try.prog Try.laysCompact_ren := {
  mixed := by kernel_rfl
  f20 := Try.func65.trans (congrArg some (by kernel_rfl))
  t0 := Try.underlying0
  a0 := Try.isAgg0
  z0 := Try.sizeOf0
  v0 := Try.zeroValue0
  t3 := Try.underlying3
  a3 := Try.isAgg3
  z3 := Try.sizeOf3
  v3 := Try.zeroValue3
  t4 := Try.underlying4
  a4 := Try.isAgg4
  z4 := Try.sizeOf4
  v4 := Try.zeroValue4
  t22 := Try.underlying25
  a22 := Try.isAgg25
  z22 := Try.sizeOf25
  v22 := Try.zeroValue25
  i3 := by kernel_rfl }
end Go.Proofs.Ytkajdhliejjohaa

namespace Go.Proofs.Ytkajdhliejjohaa
open Go.RowKit Go.Sort Go.Shelf

theorem below_grow (w : World) (os : Array Obj) : Below w.heap.size w (Sort.grow w os) := by
  refine ⟨rfl, rfl, rfl, by simp [Sort.grow], fun k hk => ?_⟩
  simp [Sort.grow, Array.getElem?_append_left hk]

theorem grown_put {w : World} {g nn q : Nat} {os : Array Obj} {d d' : Array Int} : w.grownBy (putRow mI (Sort.ahead (Sort.grow (putRow mI (Sort.ahead w nn) g 0 d) os) q) g 0 d') (some g) := by
  refine ⟨rfl, rfl, rfl, ?_, fun k hk hne => ?_⟩
  · simp [putRow, mapBlock, Sort.ahead, Sort.grow]
  · have e : g ≠ k := fun e => hne (by rw [e])
    simp [putRow, mapBlock, Sort.ahead, Sort.grow, Array.getElem?_modify, e]
    rw [Array.getElem?_append_left (by simpa using hk), Array.getElem?_modify, if_neg e]

/-- From what the contracts of the library's sort and compacting leave. -/
theorem asc_left {w : World} {lo g cap nn q : Nat} {os : Array Obj} {zs : List Int} (hown : w.ownsRow lo 3 1 (.slice (some ⟨g, 0, none⟩) zs.length cap) zs.length (zs.map mI)) (hlo : lo ≤ w.heap.size) (hlg : lo ≤ g) :
    (putRow mI (Sort.ahead (Sort.grow (putRow mI (Sort.ahead w nn) g 0 (zs.mergeSort fun x y => decide (x ≤ y)).toArray) os) q) g 0 (Lib.compact (zs.mergeSort fun x y => decide (x ≤ y)) ++ List.replicate (zs.length - (Lib.compact (zs.mergeSort fun x y => decide (x ≤ y))).length) 0).toArray).ownsRow lo 3 1
      (.slice (some ⟨g, 0, none⟩) (Lib.compact (zs.mergeSort fun x y => decide (x ≤ y))).length cap) (Lib.compact (zs.mergeSort fun x y => decide (x ≤ y))).length ((Lib.compact (zs.mergeSort fun x y => decide (x ≤ y))).map mI) ∧
    Below lo w (putRow mI (Sort.ahead (Sort.grow (putRow mI (Sort.ahead w nn) g 0 (zs.mergeSort fun x y => decide (x ≤ y)).toArray) os) q) g 0 (Lib.compact (zs.mergeSort fun x y => decide (x ≤ y)) ++ List.replicate (zs.length - (Lib.compact (zs.mergeSort fun x y => decide (x ≤ y))).length) 0).toArray) := by
  have hl2 : (zs.mergeSort fun x y => decide (x ≤ y)).length = zs.length := List.length_mergeSort zs
  have hle := Lib.compact_length_le (zs.mergeSort fun x y => decide (x ≤ y))
  generalize (zs.mergeSort fun x y => decide (x ≤ y)) = ss at *
  have h1 := Lib.ownsRow_putRow (q := nn) (k := zs.length) (ys := ss) hown hl2 (Nat.le_refl _)
  rw [List.take_of_length_le (by omega)] at h1
  have h2 := own_keep h1 (below_grow _ os) (Nat.le_refl _)
  have h3 := Lib.ownsRow_putRow (q := q) (k := (Lib.compact ss).length) (ys := Lib.compact ss ++ List.replicate (zs.length - (Lib.compact ss).length) 0) h2 (by simp; omega) (by omega)
  rw [List.take_left] at h3
  refine ⟨h3, Lib.below_putRow ?_ hlg⟩
  have b1 : Below lo w (putRow mI (Sort.ahead w nn) g 0 ss.toArray) := Lib.below_putRow (Below.refl _ _) hlg
  exact b1.trans ((below_grow _ os).mono (by have := b1.size; omega))

set_option maxHeartbeats 2000000 in
set_option maxRecDepth 100000 in
theorem ascending_any (lo : Nat) (v : Value) (xs : List Int) (w : World) (h : w.ownsRow lo 3 1 v xs.length (xs.map mI)) (hlo : lo ≤ w.heap.size) (hlen : xs.length ≤ 4611686018427387903) :
    Calls Try.prog 59 #[v] w fun e w' => ∃ v' ys, e = .returned v' ∧ Ord xs ys ∧ ys.length ≤ xs.length ∧ w'.ownsRow lo 3 1 v' ys.length (ys.map mI) ∧ Below lo w w' ∧ w.grownBy w' v.ownBlock := by
  by_cases hnil : v = .slice none 0 0
  · subst hnil
    have h0 : xs = [] := by
      rcases h.2 with ⟨_, hz⟩ | ⟨g, cap, cur, e, -⟩
      · exact List.eq_nil_of_length_eq_zero hz
      · cases e
    subst h0
    go_enter Try.func59, Try.ntmps59
    go_wp2_with (first
      | (go_at_call 64; refine (Any.slices_Sort_int_none Try.laysSort none 0 _).mono ?_; rintro e w1 ⟨rfl, rfl⟩)
      | (go_at_call 65; refine (Any.slices_Compact_int_empty Try.laysCompact none 0 _).mono ?_; rintro e w1 ⟨rfl, rfl⟩))
    go_ret
    exact ⟨_, [], rfl, Ord.nil, Nat.le_refl _, h, Below.refl _ _, ⟨rfl, rfl, rfl, Nat.le_refl _, fun _ _ _ => rfl⟩⟩
  · obtain ⟨g, cap, rfl, hlg, hgl, hncap, hcm, hl, hH⟩ := Lib.holds_of_ownsRow h hnil
    have hcomp : ∀ W : World, Holds mI W g 0 (xs.mergeSort fun x y => decide (x ≤ y)).toArray → Calls Try.prog 65 #[.slice (some ⟨g, 0, none⟩) xs.length cap] W fun e w' => e = .returned (.slice (some ⟨g, 0, none⟩) (Lib.compact (xs.mergeSort fun x y => decide (x ≤ y))).length cap) ∧ ∃ q, w' = putRow mI (Sort.ahead W q) g 0 (Lib.compact (xs.mergeSort fun x y => decide (x ≤ y)) ++ List.replicate (xs.length - (Lib.compact (xs.mergeSort fun x y => decide (x ≤ y))).length) 0).toArray := by
      intro W hW
      have hl2 : (xs.mergeSort fun x y => decide (x ≤ y)).length = xs.length := List.length_mergeSort xs
      have hc := Any.slices_Compact_int Try.laysCompact g 0 cap (xs.mergeSort fun x y => decide (x ≤ y)) W hW (by omega) (by omega)
      rw [hl2] at hc
      exact hc
    have hH2 : ∀ (nn : Nat) (os : Array Obj), Holds mI (Sort.grow (putRow mI (Sort.ahead w nn) g 0 (xs.mergeSort fun x y => decide (x ≤ y)).toArray) os) g 0 (xs.mergeSort fun x y => decide (x ≤ y)).toArray := by
      intro nn os
      have hl2 : (xs.mergeSort fun x y => decide (x ≤ y)).length = xs.length := List.length_mergeSort xs
      exact holds_grow mI _ os g 0 _ (by simpa [putRow, mapBlock, Sort.ahead] using hgl) (holds_putRow mI _ g 0 _ _ (holds_ahead mI w nn g 0 _ hH) (by simp))
    have HH := hide hH
    have HH2 := hide hH2
    have Hown := hide h
    have Hcomp := hide hcomp
    clear hH hH2 h hcomp
    go_enter Try.func59, Try.ntmps59
    go_wp2_with fail
    refine (Any.slices_Sort_int Try.laysSort g 0 cap xs w (unhide HH) hgl (by omega)).mono ?_
    rintro e w1 ⟨rfl, nn, os, rfl⟩
    go_wp2_with fail
    refine (unhide Hcomp _ (unhide HH2 nn os)).mono ?_
    rintro e w1 ⟨rfl, q, rfl⟩
    have hfin := hide (asc_left (nn := nn) (q := q) (os := os) (unhide Hown) hlo hlg)
    have hl2 : (xs.mergeSort fun x y => decide (x ≤ y)).length = xs.length := List.length_mergeSort xs
    have hle := Lib.compact_length_le (xs.mergeSort fun x y => decide (x ≤ y))
    have Hord := hide (ord_compact xs)
    go_wp2_with fail
    go_ret
    exact ⟨_, _, rfl, unhide Hord, by omega, (unhide hfin).1, (unhide hfin).2, grown_put⟩

end Go.Proofs.Ytkajdhliejjohaa

namespace Go.Proofs.Ytkajdhliejjohaa
open Go.RowKit Go.Shelf

attribute [local go_sem] Oper.semAt_some

/-- What a round keeps: all below n, and the box of the list. -/
def KpX (n Bs : Nat) (W W' : World) : Prop := Below n W W' ∧ ∀ v, Boxed W Bs 22 v → Boxed W' Bs 22 v
theorem KpX.trans {n Bs : Nat} {A B C : World} (h : KpX n Bs A B) (k : KpX n Bs B C) : KpX n Bs A C := ⟨h.1.trans k.1, fun v hv => k.2 v (h.2 v hv)⟩
theorem KpX.putObj {n Bs : Nat} {w : World} (hn : n ≤ w.heap.size) (W : World) (l : Nat) (o o' : Obj) (hl : w.heap.size ≤ l) (h : W.heap[l]? = some o) (hc : o.isCells = false) (hw : o.isWalk = false) : KpX n Bs W (W.putObj l o') :=
  ⟨belowK_b hn W l o o' hl h hc hw, fun v hv => hv.kept (grownBy_putObj' W l o') (fun e => by
    cases e
    rw [show W.heap[Bs]? = _ from hv] at h
    cases h
    cases hc)⟩

theorem tri_same (x y z : Int) : (x * 256 + y) * 256 + z = x * 65536 + y * 256 + z := by omega

set_option maxRecDepth 100000 in
set_option maxHeartbeats 2000000 in
theorem pieces1_in (n : Nat) (hn : 1 ≤ n) (l Bs n₀ cap : Nat) (a : Option Addr) (bs : List Int) (hlen : bs.length ≤ 1048576) (hbb : ∀ i : Nat, 0 ≤ bs[i]?.getD 0 ∧ bs[i]?.getD 0 ≤ 255) (J Jx : List Int → World → Prop) (hJd : ∀ pre W q, J pre W → J pre (W.drewN q))
    (hY : ∀ pre x W, J pre W → pre.length < bs.length → YieldAt Fence.wide (n - 1) Try.prog l #[.int .i64 x] W fun e W' =>
      (e = .returned (.bool true) ∧ J (pre ++ [x]) W' ∧ KpX n₀ Bs W W') ∨ (e = .returned (.bool false) ∧ Jx (pre ++ [x]) W'))
    (W : World) (hBs : Boxed W Bs 22 (.slice a bs.length cap)) (hc : 0 < bs.length → ∃ b off, a = some ⟨b, off, none⟩ ∧ b < n₀ ∧ ∀ i : Nat, i < bs.length → W.cell? ⟨b, off + i, none⟩ = some (.int .u8 (bs[i]?.getD 0))) (h0 : J [] W) :
    CallsIn Fence.wide n Try.prog 63 #[.func (.yield l) #[] #[], .pointer (some ⟨Bs, 0, none⟩)] W fun e W' => (∃ v, e = .returned v) ∧
      ((∃ ys, ys = tris bs (bs.length - 2) ∧ J ys W') ∨ (∃ pre, (∃ k, pre = tris bs k) ∧ Jx pre W')) := by
  have hcB := hBs.cell
  refine callsIn_of_wp Try.func63 rfl trivial ?_ rfl
  simp only [Try.ntmps63, List.size_toArray, List.length_cons, List.length_nil, Nat.reduceAdd, Nat.reduceSub, Array.replicate_succ, Array.replicate_zero, List.push_toArray, List.append_toArray, List.nil_append, List.cons_append]
  gi_wp2
  gi_loopw [11] (fun i wr => ∃ k : Nat, k ≤ bs.length - 2 ∧ i = .int .i64 k ∧ J (tris bs k) wr ∧ KpX n₀ Bs W wr) (fun i _ => bs.length - (intOf i).toNat)
  case atStart => exact ⟨0, Nat.zero_le _, rfl, h0, Below.refl _ _, fun _ h => h⟩
  case round =>
    obtain ⟨k, hk, rfl, hJs, hkp⟩ := hrel
    have hcB := (hkp.2 _ hBs).cell
    by_cases hlt : k + 2 < bs.length
    · have hlt2 : (k : Int) < (bs.length : Int) - 3 + 1 := by omega
      have hlt' : (k : Int) + 2 < (bs.length : Int) := by omega
      have hlt1 : (k : Int) + 1 < (bs.length : Int) := by omega
      have hlt0 : (k : Int) < (bs.length : Int) := by omega
      have hp1 : (0 : Int) ≤ (k : Int) + 1 := by omega
      have hp2 : (0 : Int) ≤ (k : Int) + 2 := by omega
      obtain ⟨b, off, rfl, hbn, hcell⟩ := hc (by omega)
      have hx0 : wr.cell? ⟨b, off + k, none⟩ = some (.int .u8 (bs[k]?.getD 0)) := by rw [hkp.1.cell (p := ⟨b, off + k, none⟩) hbn]; exact hcell k (by omega)
      have hx1 : wr.cell? ⟨b, off + (k + 1), none⟩ = some (.int .u8 (bs[k + 1]?.getD 0)) := by rw [hkp.1.cell (p := ⟨b, off + (k + 1), none⟩) hbn]; exact hcell (k + 1) (by omega)
      have hx2 : wr.cell? ⟨b, off + (k + 2), none⟩ = some (.int .u8 (bs[k + 2]?.getD 0)) := by rw [hkp.1.cell (p := ⟨b, off + (k + 2), none⟩) hbn]; exact hcell (k + 2) (by omega)
      have q0 := hbb k
      have q1 := hbb (k + 1)
      have q2 := hbb (k + 2)
      have HT : Hid (tri3 bs k = bs[k]?.getD 0 * 65536 + bs[k + 1]?.getD 0 * 256 + bs[k + 2]?.getD 0) := rfl
      have Hc := hide hc
      have Hbb := hide hbb
      clear hcell hc hbb
      generalize bs[k]?.getD 0 = x0 at *
      generalize bs[k + 1]?.getD 0 = x1 at *
      generalize bs[k + 2]?.getD 0 = x2 at *
      have HY := hide hY
      have HJ := hide hJs
      have HJd := hide hJd
      clear hY hJs hJd
      have g0 : (x0 == 256) = false := by simp; omega
      have g1 : (x1 == 256) = false := by simp; omega
      have g2 : (x2 == 256) = false := by simp; omega
      have k1 : IntKind.i64.wrap ((k : Int) + 2) = (k : Int) + 2 := k64i (by omega) (by omega)
      have k2 : IntKind.i64.wrap ((k : Int) + 1) = (k : Int) + 1 := k64i (by omega) (by omega)
      have k3 : IntKind.i64.wrap x0 = x0 := k64i (by omega) (by omega)
      have k4 : IntKind.i64.wrap x1 = x1 := k64i (by omega) (by omega)
      have k5 : IntKind.i64.wrap x2 = x2 := k64i (by omega) (by omega)
      gi_wp2_with fail
      gi_quiet (fail)
      have hkd : KpX n₀ Bs W (wr.drewN nq) := ⟨below_drewN hkp.1 nq, fun v hv => hkp.2 v hv⟩
      have hJw := hide (unhide HJd _ _ nq (unhide HJ))
      clear hcB hx0 hx1 hx2
      generalize wr.drewN nq = wd at *
      obtain ⟨fn, tmps, assign, body, hy, hR⟩ := unhide HY (tris bs k) ((x0 * 256 + x1) * 256 + x2) wd (unhide hJw) (by rw [tris_len]; omega)
      gi_wp2_with fail
      refine hR.mono ?_
      rintro e W3 (⟨rfl, hJ3, hk3⟩ | ⟨rfl, hJx3⟩)
      · have HJ3 := hide hJ3
        clear hJ3 hR hy
        gi_wp2
        go_roundw
        case rel => exact ⟨k + 1, by omega, by go_num, by rw [tris_succ, unhide HT, ← tri_same]; exact unhide HJ3, hkd.trans hk3⟩
        case measure => simp [intOf]; omega
      · have HJ3 := hide hJx3
        clear hJx3 hR hy
        gi_wp2
        refine bodyPost_ret (results_none rfl _ _ _) rfl ?_
        exact ⟨⟨_, rfl⟩, .inr ⟨_, ⟨k + 1, by rw [tris_succ, unhide HT, ← tri_same]⟩, unhide HJ3⟩⟩
    · have hlt2 : ¬ (k : Int) < (bs.length : Int) - 3 + 1 := by omega
      have hz : Hid (k = bs.length - 2) := by show k = bs.length - 2; omega
      gi_wp2
      go_end0
      exact ⟨⟨_, rfl⟩, .inl (by rw [← unhide hz]; exact hJs)⟩

set_option maxHeartbeats 1000000 in
/-- pieces(symbols): the list is boxed; the function value captures the box. -/
theorem pieces_in (n : Nat) (sv : Value) (hone : sv.oneCell' = true) (w : World) :
    CallsIn Fence.wide n Try.prog 58 #[sv] w fun e w' => e = .returned (.func (.func 63) #[] #[.pointer (some ⟨w.heap.size, 0, none⟩)]) ∧ w' = w.alloc (.cells #[sv] 22) := by
  refine callsIn_of_wp Try.func58 rfl trivial ?_ rfl
  simp only [Try.ntmps58, List.size_toArray, List.length_cons, List.length_nil, Nat.reduceAdd, Nat.reduceSub, Array.replicate_succ, Array.replicate_zero, List.push_toArray, List.append_toArray, List.nil_append, List.cons_append]
  gi_wp2
  go_ret
  exact ⟨rfl, rfl⟩

theorem pieces_stops (n : Nat) (hn : 1 ≤ n) (Bs n₀ cap : Nat) (a : Option Addr) (bs : List Int) (hlen : bs.length ≤ 1048576) (hbb : ∀ i : Nat, 0 ≤ bs[i]?.getD 0 ∧ bs[i]?.getD 0 ≤ 255) (w : World) (hBs : Boxed w Bs 22 (.slice a bs.length cap)) (hn₀ : n₀ ≤ w.heap.size)
    (hc : 0 < bs.length → ∃ b off, a = some ⟨b, off, none⟩ ∧ b < n₀ ∧ ∀ i : Nat, i < bs.length → w.cell? ⟨b, off + i, none⟩ = some (.int .u8 (bs[i]?.getD 0))) :
    SeqStopsK Fence.wide n Try.prog 63 #[.pointer (some ⟨Bs, 0, none⟩)] (fun x : Int => #[Value.int .i64 x]) (KpX n₀ Bs) (fun ys => ys = tris bs (bs.length - 2)) (fun pre => ∃ k, pre = tris bs k) bs.length w := fun l J Jx W hW hJ _ hY h0 =>
  pieces1_in n hn l Bs n₀ cap a bs hlen hbb J Jx (fun pre V q hp => hJ pre V _ none hp ⟨rfl, rfl, rfl, Nat.le_refl _, fun _ _ _ => rfl⟩ (fun r e => by cases e)) hY W ((hW.block Bs hBs.lt).trans hBs)
    (fun hp => by
      obtain ⟨b, off, e, h1, h2⟩ := hc hp
      exact ⟨b, off, e, h1, fun i hi => (hW.cell (p := ⟨b, off + i, none⟩) (by show b < w.heap.size; omega)).trans (h2 i hi)⟩) h0

end Go.Proofs.Ytkajdhliejjohaa

namespace Go.Proofs.Ytkajdhliejjohaa
open Go.RowKit Go.Shelf

attribute [local go_sem] Oper.semAt_some

/-- One number for each trigram of line i. -/
def plc (i : Nat) (bs : List Int) (n : Nat) : List Int := (tris bs n).map (fun t => t * 1000 + (i : Int))
def plcs (xss : List (List Int)) : Nat → List Int
  | 0 => []
  | n + 1 => plcs xss n ++ plc n (xss[n]?.getD []) ((xss[n]?.getD []).length - 2)

theorem plc_len (i : Nat) (bs : List Int) (n : Nat) : (plc i bs n).length = n := by simp [plc, tris_len]
theorem plcs_len (xss : List (List Int)) (k : Nat) (hk : k ≤ xss.length) : (plcs xss k).length ≤ tot (xss.take k) := by
  induction k with
  | zero => simp [plcs]
  | succ k ih =>
    rw [plcs, List.length_append, plc_len, tot_step xss k (by omega)]
    have := ih (by omega)
    omega
theorem plc_wrap (k : Nat) (hk : k < 1000) (bs : List Int) (hb : Bytes bs) (n : Nat) : (tris bs n).map (fun t => wrap64 (wrap64 (t * 1000) + k)) = plc k bs n := by
  unfold plc tris
  rw [List.map_map, List.map_map]
  refine List.map_congr_left (fun i _ => ?_)
  show wrap64 (wrap64 (tri3 bs i * 1000) + k) = tri3 bs i * 1000 + k
  have h0 := hb i
  have h1 := hb (i + 1)
  have h2 := hb (i + 2)
  have e : tri3 bs i = bs[i]?.getD 0 * 65536 + bs[i + 1]?.getD 0 * 256 + bs[i + 2]?.getD 0 := rfl
  have q1 : 0 ≤ tri3 bs i := by omega
  have q2 : tri3 bs i ≤ 16777215 := by omega
  rw [w64i (n := tri3 bs i * 1000) (by omega) (by omega), w64i (by omega) (by omega)]

def mrk (D : Nat) : Deferred := { target := .collected D, args := #[] }
/-- The marks of the loops that are over. -/
structure Mks (w W : World) (Ds : List Nat) : Prop where
  nd : Ds.Nodup
  lo : ∀ D ∈ Ds, w.heap.size < D
  at' : ∀ D ∈ Ds, W.heap[D]? = some (.deferred (some []))
theorem leaves_marks {fn : Func} {t : Tmp} (hres : fn.results = #[.tmp t]) (tmps : Array Value) (R : Ending → World → Prop) (n : Nat) : ∀ (Ds : List Nat) (W : World), Ds.Nodup → (∀ D ∈ Ds, W.heap[D]? = some (.deferred (some []))) →
    (∀ W' : World, W'.os = W.os → W'.tape = W.tape → W'.output = W.output → W'.heap.size = W.heap.size → (∀ k, (∀ D ∈ Ds, k ≠ D) → W'.heap[k]? = W.heap[k]?) → R (.returned (tmps.getD t undef)) W') → LeavesInM Fence.wide n Try.prog fn tmps R (Ds.map mrk) .returning W := by
  intro Ds
  induction Ds with
  | nil =>
    intro W _ _ hR
    exact ⟨_, results_tmp hres _ _ _, hR W rfl rfl rfl rfl (fun _ _ => rfl)⟩
  | cons D Ds ih =>
    intro W hnd hat hR
    have hnd' := List.nodup_cons.1 hnd
    refine ⟨by simp, .inl ⟨D, _, rfl, run_takeDeferred (hat D (by simp)), ih _ hnd'.2 (fun D' hD' => ?_) (fun W' e1 e2 e3 e4 e5 => hR W' e1 e2 e3 ?_ (fun k hk => ?_))⟩⟩
    · rw [World.putObj_heap_other (fun e => by subst e; exact hnd'.1 hD')]
      exact hat D' (by simp [hD'])
    · rw [e4]; simp
    · rw [e5 k (fun D' hD' => hk D' (by simp [hD'])), World.putObj_heap_other (hk D (by simp))]

/-- While the places of line i are put behind those of the lines before. -/
def IPl (w : World) (Bi : Nat) (k : Nat) (ys : List Int) (Ds : List Nat) (f : Int → Int) (pre : List Int) (W : World) : Prop :=
  (∃ v, Boxed W w.heap.size 25 v ∧ W.ownsRow w.heap.size 3 1 v (ys ++ pre.map f).length ((ys ++ pre.map f).map mI) ∧ v.ownBlock ≠ some Bi) ∧ Below w.heap.size w W ∧ Boxed W Bi 3 (.int .i64 k) ∧ Mks w W Ds
theorem IPl.own {w V : World} {Bi k : Nat} {ys : List Int} {Ds : List Nat} {f : Int → Int} (hV : w.heap.size ≤ V.heap.size) (hD : ∀ D ∈ Ds, D < V.heap.size) : OwnFrom V.heap.size (IPl w Bi k ys Ds f) := by
  rintro s W W' row ⟨⟨v, hv, hr, hn⟩, hb, hbi, hm⟩ hg hrow
  have hb' : ∀ (B : Nat) (t : TypeId) (u : Value), Boxed W B t u → Boxed W' B t u := fun B t u h => h.kept hg (fun e' => by
    obtain ⟨-, o, ho, hc⟩ := hrow B e'.symm
    rw [show W.heap[B]? = _ from h] at ho; cases ho; cases hc)
  refine ⟨⟨v, hb' _ _ _ hv, hr.kept hg ?_, hn⟩, ?_, hb' _ _ _ hbi, hm.nd, hm.lo, fun D hDm => ?_⟩
  · rcases hr.2 with ⟨rfl, _⟩ | ⟨g, cap, cur, rfl, _, hgb, _⟩
    · exact .inl rfl
    · refine .inr fun e' => ?_
      obtain ⟨-, o, ho, hc⟩ := hrow g (by simpa [Value.ownBlock] using e'.symm)
      rw [hgb] at ho; cases ho; cases hc
  · refine hb.trans ⟨hg.os, hg.tape, hg.output, hg.size, fun j hj => hg.block j (by have := hb.size; omega) (fun e => ?_)⟩
    have := (hrow j e.symm).1
    omega
  · rw [hg.block D (by have := Array.getElem?_eq_some_iff.1 (hm.at' D hDm); exact this.1) (fun e => ?_)]
    · exact hm.at' D hDm
    · have h1 := (hrow D e.symm).1
      have h2 := hD D hDm
      omega

set_option maxRecDepth 100000 in
set_option maxHeartbeats 4000000 in
theorem trigramPlaces_any (v : Value) (xss : List (List Int)) (w : World) (hv : SsAt mB 0 w.heap.size w v xss) (hbb : ∀ x ∈ xss, Bytes x) (hT : tot xss ≤ 1048576) (hL : xss.length ≤ 1000) :
    Calls Try.prog 50 #[v] w fun e w' => OrdOwn e w w' (plcs xss xss.length) ∧ Below w.heap.size w w' := by
  have Hv := hide hv
  have HB := hide hbb
  obtain ⟨a, cap, rfl, hl, hc⟩ := hv
  obtain ⟨i0, hi, hz0, hz1, hz2⟩ := info_parts Try.zinInt
  clear hbb
  refine (callsIn_wide (n := 5)).1 ?_
  refine callsIn_of_wp_marks Try.func50 rfl trivial ?_ rfl
  simp only [Try.ntmps50, List.size_toArray, List.length_cons, List.length_nil, Nat.reduceAdd, Nat.reduceSub, Array.replicate_succ, Array.replicate_zero, List.push_toArray, List.append_toArray, List.nil_append, List.cons_append]
  gi_wp2_with fail
  have bO := Boxed.new w 25 (.slice none 0 0)
  refine wpIn_loop (fun A W => ∃ (k : Nat) (Ds : List Nat) (t4 t5 t6 t10 t11 t12 t13 t14 t15 t16 t17 t18 t19 t20 t21 t22 t23 t24 t25 t26 : Value), A = { tmps := #[.slice a xss.length cap, undef, .slice none 0 0, .pointer (some ⟨w.heap.size, 0, none⟩), t4, t5, t6, .slice a xss.length cap, .int .i64 xss.length, .int .i64 k, t10, t11, t12, t13, t14, t15, t16, t17, t18, t19, t20, t21, t22, t23, t24, t25, t26], defers := Ds.map mrk } ∧ k ≤ xss.length ∧ (∃ v, Boxed W w.heap.size 25 v ∧ W.ownsRow w.heap.size 3 1 v (plcs xss k).length ((plcs xss k).map mI)) ∧ Below w.heap.size w W ∧ Mks w W Ds) (fun A _ => xss.length - (intOf (A.tmps.getD 9 undef)).toNat) ?start ?round
  case start => exact ⟨0, [], _, _, _, _, _, _, _, _, _, _, _, _, _, _, _, _, _, _, _, _, rfl, Nat.zero_le _, ⟨_, bO, World.ownsRow_nil _ _ _ _⟩, below1 w _, ⟨List.nodup_nil, by simp, by simp⟩⟩
  case round =>
    rintro A W ⟨k, Ds, t4, t5, t6, t10, t11, t12, t13, t14, t15, t16, t17, t18, t19, t20, t21, t22, t23, t24, t25, t26, rfl, hk, ⟨v, hbx, hown⟩, hB, hM⟩
    by_cases hlt : k < xss.length
    · have hlt' : (k : Int) < (xss.length : Int) := by omega
      obtain ⟨b, off, rfl, hbn, hcell⟩ := hc (by omega)
      obtain ⟨s, hx0, hs, -⟩ := hcell k hlt
      have hx : W.cell? ⟨b, off + k, none⟩ = some s := by rw [hB.cell (p := ⟨b, off + k, none⟩) hbn]; exact hx0
      have Hs := hide hs
      have ht := tot_get xss k
      have Hb := hide (unhide HB (xss[k]?.getD []) (by rw [List.getElem?_eq_getElem hlt]; exact List.getElem_mem _))
      have Hpl : Hid (plcs xss (k + 1) = plcs xss k ++ plc k (xss[k]?.getD []) ((xss[k]?.getD []).length - 2)) := rfl
      obtain ⟨sa, sc, rfl, -, hsc⟩ := hs
      clear hcell hc hx0
      generalize xss[k]?.getD [] = x at *
      generalize hys : plcs xss k = ys at *
      gi_wp2_with (refine ⟨trivial, ?_⟩; gi_at_call 58; refine (pieces_in _ _ rfl _).mono ?_; rintro e w' ⟨rfl, rfl⟩)
      have hszW := hB.size
      have hMlt : ∀ D ∈ Ds, D < W.heap.size := fun D hD => (Array.getElem?_eq_some_iff.1 (hM.at' D hD)).1
      have hG : W.grownBy ((W.alloc (.cells #[.int .i64 k] 3)).alloc (.cells #[.slice sa x.length sc] 22)) none := ⟨rfl, rfl, rfl, by simp; omega, fun j hj _ => by rw [(pushd_alloc _ _).old (by rw [sz_alloc]; omega), (pushd_alloc W _).old hj]⟩
      have bN := Boxed.new (W.alloc (.cells #[.int .i64 k] 3)) 22 (.slice sa x.length sc)
      rw [World.size_alloc] at bN
      have bI : Boxed ((W.alloc (.cells #[.int .i64 k] 3)).alloc (.cells #[.slice sa x.length sc] 22)) W.heap.size 3 (.int .i64 k) := (Boxed.new W 3 (.int .i64 k)).alloc _
      have hBV : Below w.heap.size w ((W.alloc (.cells #[.int .i64 k] 3)).alloc (.cells #[.slice sa x.length sc] 22)) := (hB.alloc hszW _).alloc (by simp; omega) _
      have h0 : IPl w W.heap.size k ys Ds (fun t => wrap64 (wrap64 (t * 1000) + k)) [] ((W.alloc (.cells #[.int .i64 k] 3)).alloc (.cells #[.slice sa x.length sc] 22)) := by
        refine ⟨⟨v, (hbx.alloc _).alloc _, ?_, ?_⟩, hBV, bI, hM.nd, hM.lo, fun D hD => ?_⟩
        · rw [List.map_nil, List.append_nil]; exact (hown.alloc _).alloc _
        · intro e
          have := (hown.lt _ e).2
          omega
        · rw [hG.block D (hMlt D hD) (by simp)]; exact hM.at' D hD
      have hVz : ((W.alloc (.cells #[.int .i64 k] 3)).alloc (.cells #[.slice sa x.length sc] 22)).heap.size = W.heap.size + 2 := by simp
      refine wpIn_rangeFunc_ownG rfl (by omega) (gf := 63) (lb := #[.pointer (some ⟨W.heap.size + 1, 0, none⟩)]) rfl trivial (enters_of Try.func63 (by kernel_rfl) rfl)
        (pieces_stops 4 (by omega) (W.heap.size + 1) w.heap.size sc sa x (by omega) (unhide Hb) _ bN (by rw [hVz]; omega) (fun hp => by
          obtain ⟨b', off', e, -, h1, h2⟩ := hsc hp
          exact ⟨b', off', e, h1, fun i hi => (hBV.cell (p := ⟨b', off' + i, none⟩) h1).trans (h2 i hi)⟩)) KpX.trans (KpX.putObj (by rw [hVz]; omega)) (Below.refl _ _) (fun _ => rfl)
        (IPl w W.heap.size k ys Ds (fun t => wrap64 (wrap64 (t * 1000) + k)))
        (fun _ _ _ => False)
        (IPl.own (by rw [hVz]; omega) (fun D hD => by have := hMlt D hD; rw [hVz]; omega))
        (fun _ _ _ _ _ hs _ _ => hs)
        h0
        (fun u => { tmps := #[.slice (some ⟨b, off, none⟩) xss.length cap, undef, .slice none 0 0, .pointer (some ⟨w.heap.size, 0, none⟩), .pointer (some ⟨W.heap.size, 0, none⟩), .slice sa x.length sc, .int .i64 u, .slice (some ⟨b, off, none⟩) xss.length cap, .int .i64 xss.length, .int .i64 k, .bool true, .int .i64 k, .pointer (some ⟨b, off + k, none⟩), .slice sa x.length sc, .slice sa x.length sc, .func (.func 63) #[] #[.pointer (some ⟨W.heap.size + 1, 0, none⟩)], .int .i64 u, t17, t18, t19, t20, t21, t22, t23, t24, t25, t26], defers := [] }) ?assign ?body ?done ?stop
      case assign =>
        intro l u W' K hK
        gi_wp2
        exact hK
      case body =>
        rintro l pre u W' ⟨⟨v', hv', hrow, hne⟩, hB', hbi, hM'⟩ hlt2
        have hcv := hv'.cell
        have hci := hbi.cell
        have hszB := hB'.size
        have hyl : ys.length ≤ 1048576 := by
          rw [← hys]
          exact Nat.le_trans (plcs_len xss k hk) (Nat.le_trans (tot_take xss k) hT)
        have hlb : w.heap.size < W.heap.size := hbx.lt
        have hpl : (ys ++ pre.map (fun t => wrap64 (wrap64 (t * 1000) + k))).length ≤ 2097152 := by simp; omega
        have HL : Hid (ys ++ (pre ++ [u]).map (fun t => wrap64 (wrap64 (t * 1000) + k)) = (ys ++ pre.map (fun t => wrap64 (wrap64 (t * 1000) + k))) ++ [wrap64 (wrap64 (u * 1000) + k)]) := by
          show _ = _
          rw [List.map_append, List.append_assoc]
          rfl
        generalize ys ++ pre.map (fun t => wrap64 (wrap64 (t * 1000) + k)) = L at *
        have hil := hbi.lt
        gi_wp2_with (gi_at_builtin; refine wpListIn_append_own_at _ rfl _ _ 25 rfl w.heap.size 3 i0 (.int .i64 0) 1 8 Try.underlying25 hi hz0 hz1 hz2 rfl (by decide) _ _ _ rfl (hrow.alloc _) ⟨W'.heap.size, 0, none⟩ 1 1 [.int .i64 (wrap64 (wrap64 (u * 1000) + k))] rfl rfl (cell_one_new _ _ _) (by simp [Value.oneCell']) (by unfold maxLen; omega) (by omega) (by simp; omega) ?_; intro v2 w1 hown' hgrow _ hbl2; obtain ⟨g', cap', rfl⟩ := ownsRow_succ hown'; obtain ⟨hv1, hv2, hr2, hk2, hb2⟩ := hv'.appended (by decide) hrow hB'.size (Nat.le_refl _) hown' hgrow; have hc1 := hv1.cell; have hf1 := hv1.frozen)
        refine ⟨hk2.from _, ⟨hb2, fun u' hu => (Below.heap_setCell _ _ _ _ (by show W.heap.size + 1 ≠ w.heap.size; omega)).trans ((hu.alloc _).kept hgrow (hu.not_row (by decide) hrow))⟩, ⟨_, hv2, ?_, ?_⟩, hB'.trans hb2, ?_, hM'.nd, hM'.lo, fun D hD => hk2.same D _ (hM'.at' D hD) rfl⟩
        · rw [unhide HL, List.length_append, List.map_append]
          exact hr2
        · rcases hbl2 with e | e
          · rw [e]; exact hne
          · rw [e]
            intro e2
            have := Option.some.inj e2
            simp at this
            omega
        · exact (Below.heap_setCell _ _ _ _ (by show W.heap.size ≠ w.heap.size; omega)).trans ((hbi.alloc _).kept hgrow (fun e => hne e.symm))
      case done =>
        rintro D zs W' hD hzs ⟨⟨v', hv', hrow, hne⟩, hB', hbi, hM'⟩ hK
        have e1 := plc_wrap k (by omega) x (unhide Hb) (x.length - 2)
        rw [hzs, e1] at hrow
        have HR := hide hrow
        rw [← unhide Hpl] at HR
        gi_wp2_with fail
        refine ⟨⟨k + 1, D :: Ds, _, _, _, _, _, _, _, _, _, _, _, _, _, _, _, _, _, _, _, _, rfl, by omega, ⟨v', hv', unhide HR⟩, hB', ⟨List.nodup_cons.2 ⟨fun hm => ?_, hM'.nd⟩, fun D' hD' => ?_, fun D' hD' => ?_⟩⟩, by simp [intOf]; omega⟩
        · have := hMlt D hm
          rw [hVz] at hD
          omega
        · rcases List.mem_cons.1 hD' with rfl | h
          · rw [hVz] at hD; omega
          · exact hM'.lo D' h
        · rcases List.mem_cons.1 hD' with rfl | h
          · exact hK
          · exact hM'.at' D' h
      case stop =>
        rintro D c pre W' _ _ h _
        exact h.elim
    · obtain rfl : k = xss.length := by omega
      have hyl : (plcs xss xss.length).length ≤ 1048576 := Nat.le_trans (plcs_len xss xss.length hk) (Nat.le_trans (tot_take xss _) hT)
      have hcv := hbx.cell
      have Hown := hide hown
      have Hbx := hide hbx
      generalize hys : plcs xss xss.length = ys at *
      have Hys := hide hys.symm
      clear hys
      obtain ⟨oa, oc, rfl⟩ := own_is hown
      have hnD : Hid (∀ D ∈ Ds, some D ≠ (Value.slice oa ys.length oc).ownBlock) := fun D hD e => by
        rcases (unhide Hown).2 with ⟨e1, _⟩ | ⟨g, cap', cur, e1, _, hgb, _⟩
        · rw [e1] at e; cases e
        · rw [e1] at e
          obtain rfl : D = g := by simpa [Value.ownBlock] using e
          have := hM.at' D hD
          rw [hgb] at this
          cases this
      clear hown hc hbx
      gi_wp2_with fail
      refine ⟨trivial, ?_⟩
      refine (callsIn_wide.2 (ascending_any w.heap.size _ _ _ (unhide Hown) hB.size (by omega))).mono ?_
      rintro e w2 ⟨v2, zs, rfl, ho, hle, hown2, hb2, hg2⟩
      have hM2 : Mks w w2 Ds := ⟨hM.nd, hM.lo, fun D hD => (hg2.block D ((Array.getElem?_eq_some_iff.1 (hM.at' D hD)).1) (unhide hnD D hD)).trans (hM.at' D hD)⟩
      have Hown2 := hide hown2
      obtain ⟨pa, pc, rfl⟩ := own_is hown2
      clear hown2
      gi_wp2
      refine leaves_marks rfl _ _ 5 Ds w2 hM2.nd hM2.at' (fun W' e1 e2 e3 e4 e5 => ?_)
      have hz2 := hb2.size
      have hBB : Below w.heap.size w W' := (hB.trans hb2).trans ⟨e1, e2, e3, by rw [e4]; exact Nat.le_refl _, fun k hk => e5 k (fun D hD => by have := hM.lo D hD; omega)⟩
      refine ⟨⟨_, zs, rfl, unhide Hys ▸ ho, unhide Hys ▸ hle, ?_⟩, hBB⟩
      refine ⟨(unhide Hown2).1, ?_⟩
      rcases (unhide Hown2).2 with h | ⟨g, cap', cur, q1, q2, q3, q4⟩
      · exact Or.inl h
      · refine Or.inr ⟨g, cap', cur, q1, q2, (e5 g (fun D hD e => ?_)).trans q3, q4⟩
        have := hM2.at' D hD
        rw [← e, q3] at this
        cases this

end Go.Proofs.Ytkajdhliejjohaa

namespace Go.Proofs.Ytkajdhliejjohaa
open Go.RowKit

theorem own_ne {b b' e e' s s' n n' : Nat} {w : World} {v v' : Value} {xs xs' : List Value} (h : w.ownsRow b e s v n xs) (h' : w.ownsRow b' e' s' v' n' xs') (he : e ≠ e') : v.ownBlock = none ∨ v.ownBlock ≠ v'.ownBlock := by
  rcases h.2 with ⟨rfl, _⟩ | ⟨g, cap, cur, rfl, _, hg, _⟩
  · exact Or.inl rfl
  · refine Or.inr (fun e1 => ?_)
    rcases h'.2 with ⟨rfl, _⟩ | ⟨g', cap', cur', rfl, _, hg', _⟩
    · simp [Value.ownBlock] at e1
    · obtain rfl : g = g' := by simpa [Value.ownBlock] using e1
      rw [hg] at hg'
      simp at hg'
      exact he hg'.2
theorem LL.grown {α : Type} {mk : α → Value} {d : α} {e te : TypeId} {base : Nat} {w w' : World} {v : Value} {ps : List (Cl α)} {row : Option Nat} (h : LL mk d e te base w v ps) (hg : w.grownBy w' row) (hr : v.ownBlock = none ∨ v.ownBlock ≠ row) (he : ∀ p ∈ ps, 0 < p.xs.length → some p.b ≠ row) : LL mk d e te base w' v ps :=
  ⟨h.own.kept hg hr, fun p hp => (h.ok p hp).same (fun h0 => hg.block p.b ((h.ok p hp).lt h0) (he p hp h0)), h.lo, h.apart⟩
theorem grown_alloc (w : World) (o : Obj) : w.grownBy (w.alloc o) none := ⟨rfl, rfl, rfl, by rw [sz_alloc]; omega, fun k hk _ => (pushd_alloc w o).old hk⟩

/-- Keys and posting lists that own their memory. -/
structure GT (n0 : Nat) (w : World) (kv : Value) (ks : List Int) (pv : Value) (ps : List (Cl Int)) : Prop where
  keys : w.ownsRow n0 3 1 kv ks.length (ks.map mI)
  ll : LL mI 0 3 25 n0 w pv ps
  kap : ∀ p ∈ ps, 0 < p.xs.length → some p.b ≠ kv.ownBlock
/-- .. and the last list can grow. -/
structure GS (n0 : Nat) (w : World) (kv : Value) (ks : List Int) (pv : Value) (ps : List (Cl Int)) : Prop extends GT n0 w kv ks pv ps where
  last : ∀ ps' q, ps = ps' ++ [q] → w.ownsRow n0 3 1 q.v q.xs.length (q.xs.map mI) ∧ (q.v.ownBlock = none ∨ (0 < q.xs.length ∧ q.v.ownBlock = some q.b))

theorem GT.nil {n0 : Nat} {w : World} : GS n0 w (.slice none 0 0) [] (.slice none 0 0) [] := ⟨⟨World.ownsRow_nil _ _ _ _, LL.nil, by simp⟩, fun ps' q e => by simp at e⟩
theorem GT.drewN {n0 : Nat} {w : World} {kv pv : Value} {ks : List Int} {ps : List (Cl Int)} (h : GT n0 w kv ks pv ps) (q : Nat) : GT n0 (w.drewN q) kv ks pv ps := ⟨h.keys, ⟨h.ll.own, h.ll.ok, h.ll.lo, h.ll.apart⟩, h.kap⟩
theorem GS.drewN {n0 : Nat} {w : World} {kv pv : Value} {ks : List Int} {ps : List (Cl Int)} (h : GS n0 w kv ks pv ps) (q : Nat) : GS n0 (w.drewN q) kv ks pv ps := ⟨h.toGT.drewN q, h.last⟩

/-- One key more. -/
theorem GT.key {n0 : Nat} {w w' : World} {kv kv' pv : Value} {ks : List Int} {ps : List (Cl Int)} {k : Int} {o : Obj} (h : GT n0 w kv ks pv ps) (hn : n0 ≤ w.heap.size) (h1 : w'.ownsRow n0 3 1 kv' (ks.length + 1) (ks.map mI ++ [.int .i64 k])) (hg : (w.alloc o).grownBy w' kv.ownBlock)
    (hat : kv'.ownBlock = kv.ownBlock ∨ kv'.ownBlock = some (w.alloc o).heap.size) : GT n0 w' kv' (ks ++ [k]) pv ps ∧ Below n0 w w' := by
  refine ⟨⟨by rw [List.length_append, List.map_append]; exact h1, (h.ll.grown (grown_alloc w o) (by cases pv.ownBlock <;> simp) (fun _ _ _ => by simp)).grown hg ?_ h.kap, fun p hp h0 => ?_⟩, ((below1 w o).mono hn).grown hg (by rw [sz_alloc]; omega) (fun j hj => (h.keys.lt j hj).1)⟩
  · exact own_ne h.ll.own h.keys (by decide)
  · rcases hat with e | e
    · rw [e]; exact h.kap p hp h0
    · rw [e]
      intro e2
      have h2 := (h.ll.ok p hp).lt h0
      rw [sz_alloc] at e2
      have := Option.some.inj e2
      omega

/-- One empty posting list more. -/
theorem GT.post0 {n0 : Nat} {w w' : World} {kv pv pv' : Value} {ks : List Int} {ps : List (Cl Int)} {o : Obj} (h : GT n0 w kv ks pv ps) (hn : n0 ≤ w.heap.size) (h1 : w'.ownsRow n0 25 1 pv' (ps.length + 1) (ps.map Cl.v ++ [.slice none 0 0])) (hg : (w.alloc o).grownBy w' pv.ownBlock) :
    GS n0 w' kv ks pv' (ps ++ [⟨.slice none 0 0, [], 0⟩]) ∧ Below n0 w w' := by
  obtain ⟨r1, r2⟩ := h.ll.app (p := ⟨.slice none 0 0, [], 0⟩) (by decide) hn ⟨none, 0, rfl, ⟨Nat.le_refl _, Nat.zero_le _⟩, fun h0 => absurd h0 (by simp)⟩ (fun h0 => absurd h0 (by simp)) (fun q _ _ h0 => absurd h0 (by simp)) (pushd_alloc w o) h1 hg
  refine ⟨⟨⟨(h.keys.alloc o).kept hg ?_, r1, fun p hp h0 => ?_⟩, fun ps' q e => ?_⟩, r2⟩
  · exact own_ne h.keys h.ll.own (by decide)
  · rcases List.mem_append.1 hp with hp | hp
    · exact h.kap p hp h0
    · rw [List.mem_singleton] at hp
      subst hp
      exact absurd h0 (by simp)
  · have e2 := (List.append_inj' e rfl).2
    rw [List.singleton_inj] at e2
    subst e2
    exact ⟨World.ownsRow_nil _ _ _ _, Or.inl rfl⟩

theorem own_block_is {base e n : Nat} {w : World} {v : Value} {xs : List Int} (h : w.ownsRow base e 1 v n (xs.map mI)) (hp : 0 < n) : ∃ g, v.ownBlock = some g ∧ Cl.ok mI 0 e w ⟨v, xs, g⟩ ∧ base ≤ g ∧ g < w.heap.size := by
  have hlen := h.1
  rw [List.length_map, Nat.mul_one] at hlen
  rcases h.2 with ⟨rfl, hz⟩ | ⟨g, cap, cur, rfl, hbg, hg, hnc, hcm, hcs, htake⟩
  · omega
  · refine ⟨g, rfl, ⟨some ⟨g, 0, none⟩, cap, by rw [hlen], ⟨by show xs.length ≤ cap; omega, hcm⟩, fun hp => ⟨0, rfl, ⟨cur, hg⟩, fun i hi => ?_⟩⟩, hbg, (h.lt g rfl).2⟩
    have hi' : i < xs.length := hi
    show w.cell? ⟨g, 0 + i, none⟩ = some (mI (xs[i]?.getD 0))
    rw [Nat.zero_add, h.cellAt i (by omega), List.getElem?_map, List.getElem?_eq_getElem hi']
    rfl

/-- The last posting list grows by one. -/
theorem GS.post {n0 g : Nat} {w w' : World} {kv v' : Value} {ks : List Int} {ps : List (Cl Int)} {q : Cl Int} {x : Int} {o : Obj} {cap : Nat} (h : GS n0 w kv ks (.slice (some ⟨g, 0, none⟩) (ps.length + 1) cap) (ps ++ [q])) (hn : n0 ≤ w.heap.size)
    (h1 : w'.ownsRow n0 3 1 v' (q.xs.length + 1) (q.xs.map mI ++ [.int .i64 x])) (hg : (w.alloc o).grownBy w' q.v.ownBlock) (hat : v'.ownBlock = q.v.ownBlock ∨ v'.ownBlock = some (w.alloc o).heap.size) :
    ∃ q' : Cl Int, q'.xs = q.xs ++ [x] ∧ GS n0 (w'.setCell ⟨g, ps.length, none⟩ v') kv ks (.slice (some ⟨g, 0, none⟩) (ps.length + 1) cap) (ps ++ [q']) ∧ Below n0 w (w'.setCell ⟨g, ps.length, none⟩ v') ∧ w'.cell? ⟨g, ps.length, none⟩ = some q.v ∧ w'.frozen? ⟨g, ps.length, none⟩ = false := by
  obtain ⟨hq, hqb⟩ := h.last ps q rfl
  have h1' : w'.ownsRow n0 3 1 v' (q.xs ++ [x]).length ((q.xs ++ [x]).map mI) := by rw [List.length_append, List.map_append]; exact h1
  obtain ⟨g', e', hok', hlo', hlt'⟩ := own_block_is (xs := q.xs ++ [x]) (n := (q.xs ++ [x]).length) h1' (by simp)
  have hrow : w.ownsRow n0 25 1 (.slice (some ⟨g, 0, none⟩) (ps.length + 1) cap) (ps.length + 1) ((ps ++ [q]).map Cl.v) := by
    have := h.ll.own
    rwa [List.length_append] at this
  have hgn : n0 ≤ g := by
    rcases hrow.2 with ⟨e, _⟩ | ⟨g2, cap2, cur, e, hb, _⟩
    · cases e
    · cases e; exact hb
  have hge : (some g) ≠ q.v.ownBlock := by
    intro e
    rcases own_ne hq hrow (by decide) with e2 | e2
    · rw [e2] at e; cases e
    · rw [← e] at e2; exact e2 rfl
  have hg' : g ≠ g' := by
    intro e
    obtain ⟨a2, c2, -, -, hc2⟩ := hok'
    obtain ⟨off, -, ⟨c3, hb3⟩, -⟩ := hc2 (by simp)
    rcases hat with e3 | e3
    · rw [e'] at e3; rw [← e] at e3; exact hge e3
    · rw [e'] at e3
      have h5 := Option.some.inj e3
      rw [sz_alloc] at h5
      have h6 : g < w.heap.size := (hrow.lt g rfl).2
      omega
  have hrow' : w'.ownsRow n0 25 1 (.slice (some ⟨g, 0, none⟩) (ps.length + 1) cap) (ps.length + 1) ((ps ++ [q]).map Cl.v) := (hrow.alloc o).kept hg (Or.inr hge)
  have hset := own_set (k := ps.length) (u := v') hrow' (by omega)
  have hkq : kv.ownBlock = none ∨ kv.ownBlock ≠ q.v.ownBlock := by
    rcases hqb with e | ⟨hq0, e⟩
    · rw [e]
      cases kv.ownBlock <;> simp
    · rw [e]
      exact Or.inr (fun e2 => h.kap q (by simp) hq0 e2.symm)
  have hkeys' : w'.ownsRow n0 3 1 kv ks.length (ks.map mI) := (h.keys.alloc o).kept hg hkq
  have hgk : w'.grownBy (w'.setCell ⟨g, ps.length, none⟩ v') (some g) := ⟨rfl, rfl, rfl, by rw [sz_put]; exact Nat.le_refl _, fun k _ hk => Below.heap_setCell _ _ _ k (fun e => hk (by rw [e]))⟩
  have hother : ∀ p ∈ ps, 0 < p.xs.length → some p.b ≠ q.v.ownBlock := fun p hp h0 => by
    rcases hqb with e | ⟨hq0, e⟩
    · rw [e]; simp
    · rw [e]
      intro e2
      have hap := (List.pairwise_append.1 h.ll.apart).2.2 p hp q (by simp) h0 hq0
      exact hap (Option.some.inj e2)
  have hpg : ∀ p : Cl Int, p.ok mI 0 3 w → 0 < p.xs.length → p.b ≠ g := fun p hp h0 e => by
    have := h.ll.not_row (by decide) hp rfl h0
    rw [e] at this
    exact this rfl
  refine ⟨⟨v', q.xs ++ [x], g'⟩, rfl, ⟨⟨hkeys'.kept hgk ?_, ⟨?_, fun p hp => ?_, fun p hp h0 => ?_, ?_⟩, fun p hp h0 => ?_⟩, fun ps' q' e => ?_⟩, ?_, ?_, ?_⟩
  · exact own_ne hkeys' hrow' (by decide)
  · rw [List.length_append, List.map_append]
    have e9 : ((ps ++ [q]).map Cl.v).set ps.length v' = ps.map Cl.v ++ [v'] := by
      rw [List.map_append, List.set_append_right _ _ (by rw [List.length_map]; exact Nat.le_refl _), List.length_map, Nat.sub_self]
      rfl
    rw [e9] at hset
    exact hset
  · rcases List.mem_append.1 hp with hp | hp
    · refine (h.ll.ok p (by simp [hp])).same (fun h0 => ?_)
      have hlt := (h.ll.ok p (by simp [hp])).lt h0
      rw [Below.heap_setCell _ _ _ _ (by show p.b ≠ g; exact hpg p (h.ll.ok p (by simp [hp])) h0), hg.block p.b (by rw [sz_alloc]; omega) (hother p hp h0), (pushd_alloc w o).old hlt]
    · rw [List.mem_singleton] at hp
      subst hp
      exact hok'.same (fun _ => Below.heap_setCell _ _ _ _ (by show g' ≠ g; exact fun e => hg' e.symm))
  · rcases List.mem_append.1 hp with hp | hp
    · exact h.ll.lo p (by simp [hp]) h0
    · rw [List.mem_singleton] at hp
      subst hp
      exact hlo'
  · refine List.pairwise_append.2 ⟨(List.pairwise_append.1 h.ll.apart).1, List.pairwise_singleton _ _, fun p hp r hr h0 _ => ?_⟩
    rw [List.mem_singleton] at hr
    subst hr
    show p.b ≠ g'
    intro e
    rcases hat with e3 | e3
    · rw [e'] at e3
      exact hother p hp h0 (by rw [e]; exact e3)
    · rw [e'] at e3
      have h5 := Option.some.inj e3
      rw [sz_alloc] at h5
      have := (h.ll.ok p (by simp [hp])).lt h0
      omega
  · rcases List.mem_append.1 hp with hp | hp
    · exact h.kap p (by simp [hp]) h0
    · rw [List.mem_singleton] at hp
      subst hp
      show some g' ≠ kv.ownBlock
      intro e
      rcases hat with e3 | e3
      · rw [e'] at e3
        rcases hkq with e4 | e4
        · rw [e4] at e; cases e
        · exact e4 (by rw [← e, e3])
      · rw [e'] at e3
        have h5 := Option.some.inj e3
        rw [sz_alloc] at h5
        have := (h.keys.lt g' e.symm).2
        omega
  · have e2 := (List.append_inj' e rfl).2
    rw [List.singleton_inj] at e2
    subst e2
    refine ⟨h1'.kept hgk ?_, Or.inr ⟨by simp, e'⟩⟩
    rw [e']
    exact Or.inr (fun e => hg' (Option.some.inj e).symm)
  · exact bput (((below1 w o).mono hn).grown hg (by rw [sz_alloc]; omega) (fun j hj => (hq.lt j hj).1)) hgn _
  · rw [hrow'.cellAt ps.length (by omega), List.map_append, List.getElem?_append_right (by rw [List.length_map]; exact Nat.le_refl _), List.length_map, Nat.sub_self]
    rfl
  · rcases hrow'.2 with ⟨e, _⟩ | ⟨g2, cap2, cur, e, _, hgb, _⟩
    · cases e
    · cases e
      exact frz ⟨_, _, hgb⟩

end Go.Proofs.Ytkajdhliejjohaa
