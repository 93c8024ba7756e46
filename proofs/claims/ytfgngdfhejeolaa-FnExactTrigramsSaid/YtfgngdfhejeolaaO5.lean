import Derived.Test.YtfgngdfhejeolaaO4
import Derived.Test.YtfgngdfhejeolaaO3
import Derived.RangeFuncBox
import Derived.RangeFuncLeaves
import Derived.RangeFuncCalls
import Derived.Shelf.Abstract
import Derived.OwnWalkIn
import Derived.TacticsInMore
import Derived.LoopNIn
import Derived.LoopIn
import Derived.Sort.QuietIn
import Derived.Maps.AppendAt
namespace Go.Proofs.Ytfgngdfhejeolaa
open Go.RowKit Go.Shelf

attribute [local go_sem] Oper.semAt_some

/-- What a round keeps: all below n, and the box of the list. -/
def KpX (n Bs : Nat) (W W' : World) : Prop := Below n W W' ∧ ∀ v, Boxed W Bs 22 v → Boxed W' Bs 22 v
theorem KpX.trans {n Bs : Nat} {A B C : World} (h : KpX n Bs A B) (k : KpX n Bs B C) : KpX n Bs A C := ⟨h.1.trans k.1, fun v hv => k.2 v (h.2 v hv)⟩
theorem KpX.putObj {n Bs : Nat} {w : World} (hn : n ≤ w.heap.size) (W : World) (l : Nat) (o o' : Obj) (hl : w.heap.size ≤ l) (h : W.heap[l]? = some o) (hc : o.isCells = false) (hw : o.isWalk = false) : KpX n Bs W (W.putObj l o') :=
  ⟨belowK_b hn W l o o' hl h hc hw, fun v hv => hv.kept (grownBy_putObj' W l o') (fun e => by
    cases e
    rw [show W.heap[Bs]? = _ from hv] at h
    cases h
    cases hc)⟩

theorem tri_same (x y z : Int) : (x * 256 + y) * 256 + z = x * 65536 + y * 256 + z := by omega

set_option maxRecDepth 100000 in
set_option maxHeartbeats 2000000 in
theorem pieces1_in (n : Nat) (hn : 1 ≤ n) (l Bs n₀ cap : Nat) (a : Option Addr) (bs : List Int) (hlen : bs.length ≤ 1048576) (hbb : ∀ i : Nat, 0 ≤ bs[i]?.getD 0 ∧ bs[i]?.getD 0 ≤ 255) (J Jx : List Int → World → Prop) (hJd : ∀ pre W q, J pre W → J pre (W.drewN q))
    (hY : ∀ pre x W, J pre W → pre.length < bs.length → YieldAt Fence.wide (n - 1) Try.prog l #[.int .i64 x] W fun e W' =>
      (e = .returned (.bool true) ∧ J (pre ++ [x]) W' ∧ KpX n₀ Bs W W') ∨ (e = .returned (.bool false) ∧ Jx (pre ++ [x]) W'))
    (W : World) (hBs : Boxed W Bs 22 (.slice a bs.length cap)) (hc : 0 < bs.length → ∃ b off, a = some ⟨b, off, none⟩ ∧ b < n₀ ∧ ∀ i : Nat, i < bs.length → W.cell? ⟨b, off + i, none⟩ = some (.int .u8 (bs[i]?.getD 0))) (h0 : J [] W) :
    CallsIn Fence.wide n Try.prog 54 #[.func (.yield l) #[] #[], .pointer (some ⟨Bs, 0, none⟩)] W fun e W' => (∃ v, e = .returned v) ∧
      ((∃ ys, ys = tris bs (bs.length - 2) ∧ J ys W') ∨ (∃ pre, (∃ k, pre = tris bs k) ∧ Jx pre W')) := by
  have hcB := hBs.cell
  refine callsIn_of_wp Try.func54 rfl trivial ?_ rfl
  simp only [Try.ntmps54, List.size_toArray, List.length_cons, List.length_nil, Nat.reduceAdd, Nat.reduceSub, Array.replicate_succ, Array.replicate_zero, List.push_toArray, List.append_toArray, List.nil_append, List.cons_append]
  gi_wp2
  gi_loopw [11] (fun i wr => ∃ k : Nat, k ≤ bs.length - 2 ∧ i = .int .i64 k ∧ J (tris bs k) wr ∧ KpX n₀ Bs W wr) (fun i _ => bs.length - (intOf i).toNat)
  case atStart => exact ⟨0, Nat.zero_le _, rfl, h0, Below.refl _ _, fun _ h => h⟩
  case round =>
    obtain ⟨k, hk, rfl, hJs, hkp⟩ := hrel
    have hcB := (hkp.2 _ hBs).cell
    by_cases hlt : k + 2 < bs.length
    · have hlt2 : (k : Int) < (bs.length : Int) - 3 + 1 := by omega
      have hlt' : (k : Int) + 2 < (bs.length : Int) := by omega
      have hlt1 : (k : Int) + 1 < (bs.length : Int) := by omega
      have hlt0 : (k : Int) < (bs.length : Int) := by omega
      have hp1 : (0 : Int) ≤ (k : Int) + 1 := by omega
      have hp2 : (0 : Int) ≤ (k : Int) + 2 := by omega
      obtain ⟨b, off, rfl, hbn, hcell⟩ := hc (by omega)
      have hx0 : wr.cell? ⟨b, off + k, none⟩ = some (.int .u8 (bs[k]?.getD 0)) := by rw [hkp.1.cell (p := ⟨b, off + k, none⟩) hbn]; exact hcell k (by omega)
      have hx1 : wr.cell? ⟨b, off + (k + 1), none⟩ = some (.int .u8 (bs[k + 1]?.getD 0)) := by rw [hkp.1.cell (p := ⟨b, off + (k + 1), none⟩) hbn]; exact hcell (k + 1) (by omega)
      have hx2 : wr.cell? ⟨b, off + (k + 2), none⟩ = some (.int .u8 (bs[k + 2]?.getD 0)) := by rw [hkp.1.cell (p := ⟨b, off + (k + 2), none⟩) hbn]; exact hcell (k + 2) (by omega)
      have q0 := hbb k
      have q1 := hbb (k + 1)
      have q2 := hbb (k + 2)
      have HT : Hid (tri3 bs k = bs[k]?.getD 0 * 65536 + bs[k + 1]?.getD 0 * 256 + bs[k + 2]?.getD 0) := rfl
      have Hc := hide hc
      have Hbb := hide hbb
      clear hcell hc hbb
      generalize bs[k]?.getD 0 = x0 at *
      generalize bs[k + 1]?.getD 0 = x1 at *
      generalize bs[k + 2]?.getD 0 = x2 at *
      have HY := hide hY
      have HJ := hide hJs
      have HJd := hide hJd
      clear hY hJs hJd
      have g0 : (x0 == 256) = false := by simp; omega
      have g1 : (x1 == 256) = false := by simp; omega
      have g2 : (x2 == 256) = false := by simp; omega
      have k1 : IntKind.i64.wrap ((k : Int) + 2) = (k : Int) + 2 := k64i (by omega) (by omega)
      have k2 : IntKind.i64.wrap ((k : Int) + 1) = (k : Int) + 1 := k64i (by omega) (by omega)
      have k3 : IntKind.i64.wrap x0 = x0 := k64i (by omega) (by omega)
      have k4 : IntKind.i64.wrap x1 = x1 := k64i (by omega) (by omega)
      have k5 : IntKind.i64.wrap x2 = x2 := k64i (by omega) (by omega)
      gi_wp2_with fail
      gi_quiet (fail)
      have hkd : KpX n₀ Bs W (wr.drewN nq) := ⟨below_drewN hkp.1 nq, fun v hv => hkp.2 v hv⟩
      have hJw := hide (unhide HJd _ _ nq (unhide HJ))
      clear hcB hx0 hx1 hx2
      generalize wr.drewN nq = wd at *
      obtain ⟨fn, tmps, assign, body, hy, hR⟩ := unhide HY (tris bs k) ((x0 * 256 + x1) * 256 + x2) wd (unhide hJw) (by rw [tris_len]; omega)
      gi_wp2_with fail
      refine hR.mono ?_
      rintro e W3 (⟨rfl, hJ3, hk3⟩ | ⟨rfl, hJx3⟩)
      · have HJ3 := hide hJ3
        clear hJ3 hR hy
        gi_wp2
        go_roundw
        case rel => exact ⟨k + 1, by omega, by go_num, by rw [tris_succ, unhide HT, ← tri_same]; exact unhide HJ3, hkd.trans hk3⟩
        case measure => simp [intOf]; omega
      · have HJ3 := hide hJx3
        clear hJx3 hR hy
        gi_wp2
        refine bodyPost_ret (results_none rfl _ _ _) rfl ?_
        exact ⟨⟨_, rfl⟩, .inr ⟨_, ⟨k + 1, by rw [tris_succ, unhide HT, ← tri_same]⟩, unhide HJ3⟩⟩
    · have hlt2 : ¬ (k : Int) < (bs.length : Int) - 3 + 1 := by omega
      have hz : Hid (k = bs.length - 2) := by show k = bs.length - 2; omega
      gi_wp2
      go_end0
      exact ⟨⟨_, rfl⟩, .inl (by rw [← unhide hz]; exact hJs)⟩

set_option maxHeartbeats 1000000 in
/-- pieces(symbols): the list is boxed; the function value captures the box. -/
theorem pieces_in (n : Nat) (sv : Value) (hone : sv.oneCell' = true) (w : World) :
    CallsIn Fence.wide n Try.prog 44 #[sv] w fun e w' => e = .returned (.func (.func 54) #[] #[.pointer (some ⟨w.heap.size, 0, none⟩)]) ∧ w' = w.alloc (.cells #[sv] 22) := by
  refine callsIn_of_wp Try.func44 rfl trivial ?_ rfl
  simp only [Try.ntmps44, List.size_toArray, List.length_cons, List.length_nil, Nat.reduceAdd, Nat.reduceSub, Array.replicate_succ, Array.replicate_zero, List.push_toArray, List.append_toArray, List.nil_append, List.cons_append]
  gi_wp2
  go_ret
  exact ⟨rfl, rfl⟩

theorem pieces_stops (n : Nat) (hn : 1 ≤ n) (Bs n₀ cap : Nat) (a : Option Addr) (bs : List Int) (hlen : bs.length ≤ 1048576) (hbb : ∀ i : Nat, 0 ≤ bs[i]?.getD 0 ∧ bs[i]?.getD 0 ≤ 255) (w : World) (hBs : Boxed w Bs 22 (.slice a bs.length cap)) (hn₀ : n₀ ≤ w.heap.size)
    (hc : 0 < bs.length → ∃ b off, a = some ⟨b, off, none⟩ ∧ b < n₀ ∧ ∀ i : Nat, i < bs.length → w.cell? ⟨b, off + i, none⟩ = some (.int .u8 (bs[i]?.getD 0))) :
    SeqStopsK Fence.wide n Try.prog 54 #[.pointer (some ⟨Bs, 0, none⟩)] (fun x : Int => #[Value.int .i64 x]) (KpX n₀ Bs) (fun ys => ys = tris bs (bs.length - 2)) (fun pre => ∃ k, pre = tris bs k) bs.length w := fun l J Jx W hW hJ _ hY h0 =>
  pieces1_in n hn l Bs n₀ cap a bs hlen hbb J Jx (fun pre V q hp => hJ pre V _ none hp ⟨rfl, rfl, rfl, Nat.le_refl _, fun _ _ _ => rfl⟩ (fun r e => by cases e)) hY W ((hW.block Bs hBs.lt).trans hBs)
    (fun hp => by
      obtain ⟨b, off, e, h1, h2⟩ := hc hp
      exact ⟨b, off, e, h1, fun i hi => (hW.cell (p := ⟨b, off + i, none⟩) (by show b < w.heap.size; omega)).trans (h2 i hi)⟩) h0

end Go.Proofs.Ytfgngdfhejeolaa
