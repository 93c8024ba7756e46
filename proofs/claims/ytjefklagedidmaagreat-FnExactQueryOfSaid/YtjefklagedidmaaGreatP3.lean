import Derived.Test.YtjefklagedidmaaGreatP1
import Derived.Test.YtjefklagedidmaaGreatP2
import Derived.Lib.OwnBridge
import Derived.Shelf.Sort.Plain
import Derived.Shelf.Slices.Clone
import Derived.Shelf.Slices.CompactI
import Derived.Shelf.Slices.In.SortNone
import Derived.RangeFuncBox
import Derived.RangeFuncLeaves
import Derived.RangeFuncCalls
import Derived.Shelf.Abstract
import Derived.OwnWalkIn
import Derived.TacticsInMore
import Derived.LoopNIn
import Derived.LoopIn
import Derived.Sort.QuietIn
import Derived.Maps.AppendAt
namespace Go.Proofs.YtjefklagedidmaaGreat
open Go.RowKit Go.Sort Go.Shelf

theorem below_grow (w : World) (os : Array Obj) : Below w.heap.size w (Sort.grow w os) := by
  refine ⟨rfl, rfl, rfl, by simp [Sort.grow], fun k hk => ?_⟩
  simp [Sort.grow, Array.getElem?_append_left hk]

theorem grown_put {w : World} {g nn q : Nat} {os : Array Obj} {d d' : Array Int} : w.grownBy (putRow mI (Sort.ahead (Sort.grow (putRow mI (Sort.ahead w nn) g 0 d) os) q) g 0 d') (some g) := by
  refine ⟨rfl, rfl, rfl, ?_, fun k hk hne => ?_⟩
  · simp [putRow, mapBlock, Sort.ahead, Sort.grow]
  · have e : g ≠ k := fun e => hne (by rw [e])
    simp [putRow, mapBlock, Sort.ahead, Sort.grow, Array.getElem?_modify, e]
    rw [Array.getElem?_append_left (by simpa using hk), Array.getElem?_modify, if_neg e]

/-- From what the contracts of the library's sort and compacting leave. -/
theorem asc_left {w : World} {lo g cap nn q : Nat} {os : Array Obj} {zs : List Int} (hown : w.ownsRow lo 3 1 (.slice (some ⟨g, 0, none⟩) zs.length cap) zs.length (zs.map mI)) (hlo : lo ≤ w.heap.size) (hlg : lo ≤ g) :
    (putRow mI (Sort.ahead (Sort.grow (putRow mI (Sort.ahead w nn) g 0 (zs.mergeSort fun x y => decide (x ≤ y)).toArray) os) q) g 0 (Lib.compact (zs.mergeSort fun x y => decide (x ≤ y)) ++ List.replicate (zs.length - (Lib.compact (zs.mergeSort fun x y => decide (x ≤ y))).length) 0).toArray).ownsRow lo 3 1
      (.slice (some ⟨g, 0, none⟩) (Lib.compact (zs.mergeSort fun x y => decide (x ≤ y))).length cap) (Lib.compact (zs.mergeSort fun x y => decide (x ≤ y))).length ((Lib.compact (zs.mergeSort fun x y => decide (x ≤ y))).map mI) ∧
    Below lo w (putRow mI (Sort.ahead (Sort.grow (putRow mI (Sort.ahead w nn) g 0 (zs.mergeSort fun x y => decide (x ≤ y)).toArray) os) q) g 0 (Lib.compact (zs.mergeSort fun x y => decide (x ≤ y)) ++ List.replicate (zs.length - (Lib.compact (zs.mergeSort fun x y => decide (x ≤ y))).length) 0).toArray) := by
  have hl2 : (zs.mergeSort fun x y => decide (x ≤ y)).length = zs.length := List.length_mergeSort zs
  have hle := Lib.compact_length_le (zs.mergeSort fun x y => decide (x ≤ y))
  generalize (zs.mergeSort fun x y => decide (x ≤ y)) = ss at *
  have h1 := Lib.ownsRow_putRow (q := nn) (k := zs.length) (ys := ss) hown hl2 (Nat.le_refl _)
  rw [List.take_of_length_le (by omega)] at h1
  have h2 := own_keep h1 (below_grow _ os) (Nat.le_refl _)
  have h3 := Lib.ownsRow_putRow (q := q) (k := (Lib.compact ss).length) (ys := Lib.compact ss ++ List.replicate (zs.length - (Lib.compact ss).length) 0) h2 (by simp; omega) (by omega)
  rw [List.take_left] at h3
  refine ⟨h3, Lib.below_putRow ?_ hlg⟩
  have b1 : Below lo w (putRow mI (Sort.ahead w nn) g 0 ss.toArray) := Lib.below_putRow (Below.refl _ _) hlg
  exact b1.trans ((below_grow _ os).mono (by have := b1.size; omega))

set_option maxHeartbeats 2000000 in
set_option maxRecDepth 100000 in
theorem ascending_any (lo : Nat) (v : Value) (xs : List Int) (w : World) (h : w.ownsRow lo 3 1 v xs.length (xs.map mI)) (hlo : lo ≤ w.heap.size) (hlen : xs.length ≤ 4611686018427387903) :
    Calls Tryz.prog 38 #[v] w fun e w' => ∃ v' ys, e = .returned v' ∧ Ord xs ys ∧ ys.length ≤ xs.length ∧ w'.ownsRow lo 3 1 v' ys.length (ys.map mI) ∧ Below lo w w' ∧ w.grownBy w' v.ownBlock := by
  by_cases hnil : v = .slice none 0 0
  · subst hnil
    have h0 : xs = [] := by
      rcases h.2 with ⟨_, hz⟩ | ⟨g, cap, cur, e, -⟩
      · exact List.eq_nil_of_length_eq_zero hz
      · cases e
    subst h0
    go_enter Tryz.func38, Tryz.ntmps38
    go_wp2_with (first
      | (go_at_call 77; refine (Any.slices_Sort_int_none Tryz.laysSort none 0 _).mono ?_; rintro e w1 ⟨rfl, rfl⟩)
      | (go_at_call 78; refine (Any.slices_Compact_int_empty Tryz.laysCompact none 0 _).mono ?_; rintro e w1 ⟨rfl, rfl⟩))
    go_ret
    exact ⟨_, [], rfl, Ord.nil, Nat.le_refl _, h, Below.refl _ _, ⟨rfl, rfl, rfl, Nat.le_refl _, fun _ _ _ => rfl⟩⟩
  · obtain ⟨g, cap, rfl, hlg, hgl, hncap, hcm, hl, hH⟩ := Lib.holds_of_ownsRow h hnil
    have hcomp : ∀ W : World, Holds mI W g 0 (xs.mergeSort fun x y => decide (x ≤ y)).toArray → Calls Tryz.prog 78 #[.slice (some ⟨g, 0, none⟩) xs.length cap] W fun e w' => e = .returned (.slice (some ⟨g, 0, none⟩) (Lib.compact (xs.mergeSort fun x y => decide (x ≤ y))).length cap) ∧ ∃ q, w' = putRow mI (Sort.ahead W q) g 0 (Lib.compact (xs.mergeSort fun x y => decide (x ≤ y)) ++ List.replicate (xs.length - (Lib.compact (xs.mergeSort fun x y => decide (x ≤ y))).length) 0).toArray := by
      intro W hW
      have hl2 : (xs.mergeSort fun x y => decide (x ≤ y)).length = xs.length := List.length_mergeSort xs
      have hc := Any.slices_Compact_int Tryz.laysCompact g 0 cap (xs.mergeSort fun x y => decide (x ≤ y)) W hW (by omega) (by omega)
      rw [hl2] at hc
      exact hc
    have hH2 : ∀ (nn : Nat) (os : Array Obj), Holds mI (Sort.grow (putRow mI (Sort.ahead w nn) g 0 (xs.mergeSort fun x y => decide (x ≤ y)).toArray) os) g 0 (xs.mergeSort fun x y => decide (x ≤ y)).toArray := by
      intro nn os
      have hl2 : (xs.mergeSort fun x y => decide (x ≤ y)).length = xs.length := List.length_mergeSort xs
      exact holds_grow mI _ os g 0 _ (by simpa [putRow, mapBlock, Sort.ahead] using hgl) (holds_putRow mI _ g 0 _ _ (holds_ahead mI w nn g 0 _ hH) (by simp))
    have HH := hide hH
    have HH2 := hide hH2
    have Hown := hide h
    have Hcomp := hide hcomp
    clear hH hH2 h hcomp
    go_enter Tryz.func38, Tryz.ntmps38
    go_wp2_with fail
    refine (Any.slices_Sort_int Tryz.laysSort g 0 cap xs w (unhide HH) hgl (by omega)).mono ?_
    rintro e w1 ⟨rfl, nn, os, rfl⟩
    go_wp2_with fail
    refine (unhide Hcomp _ (unhide HH2 nn os)).mono ?_
    rintro e w1 ⟨rfl, q, rfl⟩
    have hfin := hide (asc_left (nn := nn) (q := q) (os := os) (unhide Hown) hlo hlg)
    have hl2 : (xs.mergeSort fun x y => decide (x ≤ y)).length = xs.length := List.length_mergeSort xs
    have hle := Lib.compact_length_le (xs.mergeSort fun x y => decide (x ≤ y))
    have Hord := hide (ord_compact xs)
    go_wp2_with fail
    go_ret
    exact ⟨_, _, rfl, unhide Hord, by omega, (unhide hfin).1, (unhide hfin).2, grown_put⟩

end Go.Proofs.YtjefklagedidmaaGreat

namespace Go.Proofs.YtjefklagedidmaaGreat
open Go.RowKit Go.Shelf

attribute [local go_sem] Oper.semAt_some

/-- What a round keeps: all below n, and the box of the list. -/
def KpI (n Bs : Nat) (W W' : World) : Prop := Below n W W' ∧ ∀ v, Boxed W Bs 41 v → Boxed W' Bs 41 v
theorem KpI.trans {n Bs : Nat} {A B C : World} (h : KpI n Bs A B) (k : KpI n Bs B C) : KpI n Bs A C := ⟨h.1.trans k.1, fun v hv => k.2 v (h.2 v hv)⟩
theorem KpI.putObj {n Bs : Nat} {w : World} (hn : n ≤ w.heap.size) (W : World) (l : Nat) (o o' : Obj) (hl : w.heap.size ≤ l) (h : W.heap[l]? = some o) (hc : o.isCells = false) (hw : o.isWalk = false) : KpI n Bs W (W.putObj l o') :=
  ⟨belowK_b hn W l o o' hl h hc hw, fun v hv => hv.kept (grownBy_putObj' W l o') (fun e => by
    cases e
    rw [show W.heap[Bs]? = _ from hv] at h
    cases h
    cases hc)⟩

theorem triI_same (x y z : Int) : (x * 256 + y) * 256 + z = x * 65536 + y * 256 + z := by omega

set_option maxRecDepth 100000 in
set_option maxHeartbeats 2000000 in
theorem pieces1I_in (n : Nat) (hn : 1 ≤ n) (l Bs n₀ cap : Nat) (a : Option Addr) (bs : List Int) (hlen : bs.length ≤ 1048576) (hbb : ∀ i : Nat, 0 ≤ bs[i]?.getD 0 ∧ bs[i]?.getD 0 ≤ 256) (J Jx : List Int → World → Prop) (hJd : ∀ pre W q, J pre W → J pre (W.drewN q))
    (hY : ∀ pre x W, J pre W → pre.length < bs.length → YieldAt Fence.wide (n - 1) Tryz.prog l #[.int .i64 x] W fun e W' =>
      (e = .returned (.bool true) ∧ J (pre ++ [x]) W' ∧ KpI n₀ Bs W W') ∨ (e = .returned (.bool false) ∧ Jx (pre ++ [x]) W'))
    (W : World) (hBs : Boxed W Bs 41 (.slice a bs.length cap)) (hc : 0 < bs.length → ∃ b off, a = some ⟨b, off, none⟩ ∧ b < n₀ ∧ ∀ i : Nat, i < bs.length → W.cell? ⟨b, off + i, none⟩ = some (.int .i64 (bs[i]?.getD 0))) (h0 : J [] W) :
    CallsIn Fence.wide n Tryz.prog 76 #[.func (.yield l) #[] #[], .pointer (some ⟨Bs, 0, none⟩)] W fun e W' => (∃ v, e = .returned v) ∧
      ((∃ ys, ys = gtr bs (bs.length - 2) ∧ J ys W') ∨ (∃ pre, (∃ k, pre = gtr bs k) ∧ Jx pre W')) := by
  have hcB := hBs.cell
  refine callsIn_of_wp Tryz.func76 rfl trivial ?_ rfl
  simp only [Tryz.ntmps76, List.size_toArray, List.length_cons, List.length_nil, Nat.reduceAdd, Nat.reduceSub, Array.replicate_succ, Array.replicate_zero, List.push_toArray, List.append_toArray, List.nil_append, List.cons_append]
  gi_wp2
  gi_loopw [11] (fun i wr => ∃ k : Nat, k ≤ bs.length - 2 ∧ i = .int .i64 k ∧ J (gtr bs k) wr ∧ KpI n₀ Bs W wr) (fun i _ => bs.length - (intOf i).toNat)
  case atStart => exact ⟨0, Nat.zero_le _, rfl, h0, Below.refl _ _, fun _ h => h⟩
  case round =>
    obtain ⟨k, hk, rfl, hJs, hkp⟩ := hrel
    have hcB := (hkp.2 _ hBs).cell
    by_cases hlt : k + 2 < bs.length
    · have hlt2 : (k : Int) < (bs.length : Int) - 3 + 1 := by omega
      have hlt' : (k : Int) + 2 < (bs.length : Int) := by omega
      have hlt1 : (k : Int) + 1 < (bs.length : Int) := by omega
      have hlt0 : (k : Int) < (bs.length : Int) := by omega
      have hp1 : (0 : Int) ≤ (k : Int) + 1 := by omega
      have hp2 : (0 : Int) ≤ (k : Int) + 2 := by omega
      obtain ⟨b, off, rfl, hbn, hcell⟩ := hc (by omega)
      have hx0 : wr.cell? ⟨b, off + k, none⟩ = some (.int .i64 (bs[k]?.getD 0)) := by rw [hkp.1.cell (p := ⟨b, off + k, none⟩) hbn]; exact hcell k (by omega)
      have hx1 : wr.cell? ⟨b, off + (k + 1), none⟩ = some (.int .i64 (bs[k + 1]?.getD 0)) := by rw [hkp.1.cell (p := ⟨b, off + (k + 1), none⟩) hbn]; exact hcell (k + 1) (by omega)
      have hx2 : wr.cell? ⟨b, off + (k + 2), none⟩ = some (.int .i64 (bs[k + 2]?.getD 0)) := by rw [hkp.1.cell (p := ⟨b, off + (k + 2), none⟩) hbn]; exact hcell (k + 2) (by omega)
      have q0 := hbb k
      have q1 := hbb (k + 1)
      have q2 := hbb (k + 2)
      have HG : Hid (gap3 bs k ↔ (bs[k]?.getD 0 = 256 ∨ bs[k + 1]?.getD 0 = 256 ∨ bs[k + 2]?.getD 0 = 256)) := Iff.rfl
      have HT : Hid (tri3 bs k = bs[k]?.getD 0 * 65536 + bs[k + 1]?.getD 0 * 256 + bs[k + 2]?.getD 0) := rfl
      have Hc := hide hc
      have Hbb := hide hbb
      clear hcell hc hbb
      generalize bs[k]?.getD 0 = x0 at *
      generalize bs[k + 1]?.getD 0 = x1 at *
      generalize bs[k + 2]?.getD 0 = x2 at *
      have HY := hide hY
      have HJ := hide hJs
      have HJd := hide hJd
      clear hY hJs hJd
      have k1 : IntKind.i64.wrap ((k : Int) + 2) = (k : Int) + 2 := k64i (by omega) (by omega)
      have k2 : IntKind.i64.wrap ((k : Int) + 1) = (k : Int) + 1 := k64i (by omega) (by omega)
      have k3 : IntKind.i64.wrap x0 = x0 := k64i (by omega) (by omega)
      have k4 : IntKind.i64.wrap x1 = x1 := k64i (by omega) (by omega)
      have k5 : IntKind.i64.wrap x2 = x2 := k64i (by omega) (by omega)
      gi_wp2_with fail
      gi_quiet (fail)
      have hkd : KpI n₀ Bs W (wr.drewN nq) := ⟨below_drewN hkp.1 nq, fun v hv => hkp.2 v hv⟩
      have hJw := hide (unhide HJd _ _ nq (unhide HJ))
      clear hcB hx0 hx1 hx2
      generalize wr.drewN nq = wd at *
      by_cases hg : x0 = 256 ∨ x1 = 256 ∨ x2 = 256
      · have HE := hide (gtr_no ((unhide HG).2 hg))
        by_cases e0 : x0 = 256
        · have g0 : (x0 == 256) = true := by simpa using e0
          clear hg e0
          gi_wp2
          go_roundw
          case rel => exact ⟨k + 1, by omega, by go_num, by rw [unhide HE]; exact unhide hJw, hkd⟩
          case measure => simp [intOf]; omega
        · have g0 : (x0 == 256) = false := by simpa using e0
          by_cases e1 : x1 = 256
          · have g1 : (x1 == 256) = true := by simpa using e1
            clear hg e0 e1
            gi_wp2
            go_roundw
            case rel => exact ⟨k + 1, by omega, by go_num, by rw [unhide HE]; exact unhide hJw, hkd⟩
            case measure => simp [intOf]; omega
          · have g1 : (x1 == 256) = false := by simpa using e1
            have g2 : (x2 == 256) = true := by simp; omega
            clear hg e0 e1
            gi_wp2
            go_roundw
            case rel => exact ⟨k + 1, by omega, by go_num, by rw [unhide HE]; exact unhide hJw, hkd⟩
            case measure => simp [intOf]; omega
      · have HNG : Hid (¬ gap3 bs k) := fun q => hg ((unhide HG).1 q)
        have g0 : (x0 == 256) = false := by simp; omega
        have g1 : (x1 == 256) = false := by simp; omega
        have g2 : (x2 == 256) = false := by simp; omega
        clear hg
        obtain ⟨fn, tmps, assign, body, hy, hR⟩ := unhide HY (gtr bs k) ((x0 * 256 + x1) * 256 + x2) wd (unhide hJw) (by have := gtr_len bs k; omega)
        gi_wp2_with fail
        refine hR.mono ?_
        rintro e W3 (⟨rfl, hJ3, hk3⟩ | ⟨rfl, hJx3⟩)
        · have HJ3 := hide hJ3
          clear hJ3 hR hy
          gi_wp2
          go_roundw
          case rel => exact ⟨k + 1, by omega, by go_num, by rw [gtr_yes (unhide HNG), unhide HT, ← triI_same]; exact unhide HJ3, hkd.trans hk3⟩
          case measure => simp [intOf]; omega
        · have HJ3 := hide hJx3
          clear hJx3 hR hy
          gi_wp2
          refine bodyPost_ret (results_none rfl _ _ _) rfl ?_
          exact ⟨⟨_, rfl⟩, .inr ⟨_, ⟨k + 1, by rw [gtr_yes (unhide HNG), unhide HT, ← triI_same]⟩, unhide HJ3⟩⟩
    · have hlt2 : ¬ (k : Int) < (bs.length : Int) - 3 + 1 := by omega
      have hz : Hid (k = bs.length - 2) := by show k = bs.length - 2; omega
      gi_wp2
      go_end0
      exact ⟨⟨_, rfl⟩, .inl (by rw [← unhide hz]; exact hJs)⟩

set_option maxHeartbeats 1000000 in
/-- pieces(symbols): the list is boxed; the function value captures the box. -/
theorem piecesI_in (n : Nat) (sv : Value) (hone : sv.oneCell' = true) (w : World) :
    CallsIn Fence.wide n Tryz.prog 37 #[sv] w fun e w' => e = .returned (.func (.func 76) #[] #[.pointer (some ⟨w.heap.size, 0, none⟩)]) ∧ w' = w.alloc (.cells #[sv] 41) := by
  refine callsIn_of_wp Tryz.func37 rfl trivial ?_ rfl
  simp only [Tryz.ntmps37, List.size_toArray, List.length_cons, List.length_nil, Nat.reduceAdd, Nat.reduceSub, Array.replicate_succ, Array.replicate_zero, List.push_toArray, List.append_toArray, List.nil_append, List.cons_append]
  gi_wp2
  go_ret
  exact ⟨rfl, rfl⟩

theorem piecesI_stops (n : Nat) (hn : 1 ≤ n) (Bs n₀ cap : Nat) (a : Option Addr) (bs : List Int) (hlen : bs.length ≤ 1048576) (hbb : ∀ i : Nat, 0 ≤ bs[i]?.getD 0 ∧ bs[i]?.getD 0 ≤ 256) (w : World) (hBs : Boxed w Bs 41 (.slice a bs.length cap)) (hn₀ : n₀ ≤ w.heap.size)
    (hc : 0 < bs.length → ∃ b off, a = some ⟨b, off, none⟩ ∧ b < n₀ ∧ ∀ i : Nat, i < bs.length → w.cell? ⟨b, off + i, none⟩ = some (.int .i64 (bs[i]?.getD 0))) :
    SeqStopsK Fence.wide n Tryz.prog 76 #[.pointer (some ⟨Bs, 0, none⟩)] (fun x : Int => #[Value.int .i64 x]) (KpI n₀ Bs) (fun ys => ys = gtr bs (bs.length - 2)) (fun pre => ∃ k, pre = gtr bs k) bs.length w := fun l J Jx W hW hJ _ hY h0 =>
  pieces1I_in n hn l Bs n₀ cap a bs hlen hbb J Jx (fun pre V q hp => hJ pre V _ none hp ⟨rfl, rfl, rfl, Nat.le_refl _, fun _ _ _ => rfl⟩ (fun r e => by cases e)) hY W ((hW.block Bs hBs.lt).trans hBs)
    (fun hp => by
      obtain ⟨b, off, e, h1, h2⟩ := hc hp
      exact ⟨b, off, e, h1, fun i hi => (hW.cell (p := ⟨b, off + i, none⟩) (by show b < w.heap.size; omega)).trans (h2 i hi)⟩) h0

end Go.Proofs.YtjefklagedidmaaGreat

namespace Go.Proofs.YtjefklagedidmaaGreat
open Go.RowKit Go.Shelf

attribute [local go_sem] Oper.semAt_some

set_option maxRecDepth 100000 in
set_option maxHeartbeats 2000000 in
theorem numbersI_any (sv : Value) (bs : List Int) (w : World) (hv : SlAt mI 0 0 w.heap.size w sv bs) (hbb : ∀ i : Nat, 0 ≤ bs[i]?.getD 0 ∧ bs[i]?.getD 0 ≤ 256) (hl : bs.length ≤ 1048576) :
    Calls Tryz.prog 19 #[sv] w fun e w' => OrdOwn e w w' (gtr bs (bs.length - 2)) ∧ Below w.heap.size w w' := by
  obtain ⟨a, cap, rfl, hml, hc⟩ := hv
  obtain ⟨i0, hi, hz0, hz1, hz2⟩ := info_parts Tryz.zinInt
  refine (callsIn_wide (n := 5)).1 ?_
  refine callsIn_of_wp_marks Tryz.func19 rfl trivial ?_ rfl
  simp only [Tryz.ntmps19, List.size_toArray, List.length_cons, List.length_nil, Nat.reduceAdd, Nat.reduceSub, Array.replicate_succ, Array.replicate_zero, List.push_toArray, List.append_toArray, List.nil_append, List.cons_append]
  gi_wp2_with (refine ⟨trivial, ?_⟩; gi_at_call 37; refine (piecesI_in _ _ rfl _).mono ?_; rintro e w' ⟨rfl, rfl⟩)
  have bO := Boxed.new w 41 (.slice none 0 0)
  have bN := Boxed.new (w.alloc (.cells #[.slice none 0 0] 41)) 41 (.slice a bs.length cap)
  rw [World.size_alloc] at bN
  have hB0 : Below w.heap.size w ((w.alloc (.cells #[.slice none 0 0] 41)).alloc (.cells #[.slice a bs.length cap] 41)) := ((Below.refl _ w).alloc (Nat.le_refl _) _).alloc (by simp) _
  refine wpIn_rangeFunc_ownG rfl (by omega) (gf := 76) (lb := #[.pointer (some ⟨w.heap.size + 1, 0, none⟩)]) rfl trivial (enters_of Tryz.func76 (by kernel_rfl) rfl)
    (piecesI_stops 4 (by omega) (w.heap.size + 1) w.heap.size cap a bs hl hbb _ bN (by simp; omega) (fun hp => by
      obtain ⟨b, off, e, -, h1, h2⟩ := hc hp
      exact ⟨b, off, e, h1, fun i hi => (hB0.cell (p := ⟨b, off + i, none⟩) h1).trans (h2 i hi)⟩)) KpI.trans (KpI.putObj (by simp; omega)) (Below.refl _ _) (fun _ => rfl)
    (fun (pre : List Int) W => (∃ v, Boxed W w.heap.size 41 v ∧ W.ownsRow w.heap.size 3 1 v pre.length (pre.map mI) ∧ True) ∧ Below w.heap.size w W)
    (fun _ _ _ => False)
    (OwnFrom.and (Own.from (holdsRow_own w.heap.size w.heap.size 41 3 1 (fun pre : List Int => pre.length) (fun pre : List Int => pre.map mI) (fun _ _ => True)) _) (ownFrom_below (Nat.le_refl _) (by simp; omega)))
    (fun _ _ _ _ _ hs _ _ => hs)
    ⟨⟨_, bO.alloc _, World.ownsRow_nil _ _ _ _, trivial⟩, hB0⟩
    (fun x => { tmps := #[.slice a bs.length cap, undef, .slice none 0 0, .pointer (some ⟨w.heap.size, 0, none⟩), .int .i64 x, .slice a bs.length cap, .func (.func 76) #[] #[.pointer (some ⟨w.heap.size + 1, 0, none⟩)], .int .i64 x, undef, undef, undef, undef, undef, undef], defers := [] }) ?assign ?body ?done ?stop
  case assign =>
    intro l x W K hK
    gi_wp2
    exact hK
  case body =>
    rintro l pre x W ⟨⟨v, hv, hrow, -⟩, hB⟩ hlt
    have hcv := hv.cell
    have hszB := hB.size
    gi_wp2_with (gi_at_builtin; refine wpListIn_append_own _ rfl _ _ 41 rfl w.heap.size 3 i0 (.int .i64 0) 1 8 Tryz.underlying41 hi hz0 hz1 hz2 rfl (by decide) _ _ _ rfl (hrow.alloc _) ⟨W.heap.size, 0, none⟩ 1 1 [.int .i64 x] rfl rfl (cell_one_new _ _ _) (by simp [Value.oneCell']) (by unfold maxLen; omega) (by omega) (by simp; omega) ?_; intro v' w1 hown' hgrow _; obtain ⟨g', cap', rfl⟩ := ownsRow_succ hown'; obtain ⟨hv1, hv2, hr2, hk2, hb2⟩ := hv.appended (by decide) hrow hB.size (Nat.le_refl _) hown' hgrow; have hc1 := hv1.cell; have hf1 := hv1.frozen)
    exact ⟨hk2.from _, ⟨hb2, fun u hu => (Below.heap_setCell _ _ _ _ (by show w.heap.size + 1 ≠ w.heap.size; omega)).trans ((hu.alloc _).kept hgrow (hu.not_row (by decide) hrow))⟩, ⟨_, hv2, by simpa [mI] using hr2, trivial⟩, hB.trans hb2⟩
  case done =>
    rintro D ys W hD hys ⟨⟨v, hv, hrow, -⟩, hB⟩ hK
    have hyl : ys.length ≤ 1048576 := by rw [hys]; have := gtr_len bs (bs.length - 2); omega
    have Hys := hide hys
    clear hys
    have hcv := hv.cell
    have hne : some D ≠ v.ownBlock := fun e => by
      rcases hrow.2 with ⟨rfl, _⟩ | ⟨g, cap, cur, rfl, _, hgb, _⟩
      · cases e
      · obtain rfl : D = g := by simpa [Value.ownBlock] using e
        rw [hgb] at hK
        cases hK
    have hDl : D < W.heap.size := (Array.getElem?_eq_some_iff.1 hK).1
    have Hrow := hide hrow
    obtain ⟨oa, oc, rfl⟩ := own_is hrow
    clear hrow
    gi_wp2_with fail
    refine ⟨trivial, ?_⟩
    refine (callsIn_wide.2 (ascending_any w.heap.size _ _ _ (unhide Hrow) hB.size (by omega))).mono ?_
    rintro e w2 ⟨v2, zs, rfl, ho, hle, hown2, hb2, hg2⟩
    have hK2 : w2.heap[D]? = some (.deferred (some [])) := (hg2.block D hDl hne).trans hK
    have Hown2 := hide hown2
    obtain ⟨pa, pc, rfl⟩ := own_is hown2
    clear hown2
    gi_wp2
    refine ⟨by simp, .inl ⟨_, _, rfl, run_takeDeferred hK2, ?_⟩⟩
    refine ⟨_, results_tmp rfl _ _ _, ⟨_, zs, rfl, by rw [← unhide Hys]; exact ho, by rw [← unhide Hys]; exact hle, ?_⟩, ?_⟩
    · exact ownsRow_putObj (unhide Hown2) _ hK2 rfl
    · exact (hB.trans hb2).trans (belowK_b (w := w) (Nat.le_refl _) w2 D _ _ (by simp at hD; omega) hK2 rfl rfl)
  case stop =>
    rintro D c pre W _ _ h _
    exact h.elim

end Go.Proofs.YtjefklagedidmaaGreat

namespace Go.Proofs.YtjefklagedidmaaGreat
open Go.RowKit

/-- The marks of bytes and of bools. -/
def cntB (k : Int) (n : Nat) : List Int := (List.range n).map (fun i : Nat => (k + (i : Int)) % 256)
theorem cntB_len (k : Int) (n : Nat) : (cntB k n).length = n := by simp [cntB]
theorem cntB_get (k : Int) (n i : Nat) (h : i < n) : (cntB k n)[i]?.getD 0 = (k + i) % 256 := by simp [cntB, h]
def cntT (k : Int) (n : Nat) : List Bool := (List.range n).map (fun i : Nat => ((k + (i : Int)) % 3 == 0))
theorem cntT_len (k : Int) (n : Nat) : (cntT k n).length = n := by simp [cntT]
theorem cntT_get (k : Int) (n i : Nat) (h : i < n) : (cntT k n)[i]?.getD false = ((k + (i : Int)) % 3 == 0) := by simp [cntT, h]

end Go.Proofs.YtjefklagedidmaaGreat

namespace Go.Proofs.YtjefklagedidmaaGreat
open Go.RowKit

theorem SameB.refl (lo n : Nat) (w : World) : SameB lo n w w := fun _ _ _ => rfl
theorem SameB.trans {lo n : Nat} {a b c : World} (h : SameB lo n a b) (k : SameB lo n b c) : SameB lo n a c := fun i h1 h2 => (k i h1 h2).trans (h i h1 h2)
def Bytes (bs : List Int) : Prop := ∀ i : Nat, 0 ≤ bs[i]?.getD 0 ∧ bs[i]?.getD 0 ≤ 255
theorem SlW.keep {α : Type} {mk : α → Value} {d : α} {lo n m : Nat} {w w' : World} {v : Value} {xs : List α} (h : SlW mk d lo n w v xs) (hb : Below m w w') (hn : n ≤ m) : SlW mk d lo n w' v xs := h.same (SameB.of_below hb hn)
theorem SlW.all {α : Type} {mk : α → Value} {d : α} {lo n : Nat} {w : World} {v : Value} {xs : List α} (h : SlW mk d lo n w v xs) (hn : n ≤ w.heap.size) : SlAt mk d 0 w.heap.size w v xs := h.at.mono (Nat.zero_le _) hn
theorem SlW.val {α : Type} {mk : α → Value} {d : α} {lo n : Nat} {w : World} {v : Value} {xs : List α} (h : SlW mk d lo n w v xs) : ∃ a cap, v = .slice a xs.length cap := by
  obtain ⟨a, cap, rfl, -, -⟩ := h
  exact ⟨a, cap, rfl⟩
theorem drewB {m : Nat} {w : World} (q : Nat) : Below m w (w.drewN q) := below_drewN (Below.refl _ _) q
theorem SameB.mono {lo n lo' n' : Nat} {a b : World} (h : SameB lo n a b) (h1 : lo ≤ lo') (h2 : n' ≤ n) : SameB lo' n' a b := fun k k1 k2 => h k (by omega) (by omega)
theorem SlAt.cut {α : Type} {mk : α → Value} {d : α} {m : Nat} {w w' : World} {v : Value} {xs : List α} (h : SlAt mk d 0 w.heap.size w v xs) (hb : Below m w w') (hm : w.heap.size ≤ m) : SlAt mk d 0 w'.heap.size w' v xs := h.below hb hm
theorem SlAt.drewN {α : Type} {mk : α → Value} {d : α} {lo n : Nat} {w : World} {v : Value} {xs : List α} (h : SlAt mk d lo n w v xs) (q : Nat) : SlAt mk d lo n (w.drewN q) v xs := h

end Go.Proofs.YtjefklagedidmaaGreat
