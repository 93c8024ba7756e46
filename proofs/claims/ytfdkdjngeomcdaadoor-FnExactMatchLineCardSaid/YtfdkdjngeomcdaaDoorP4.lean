import Derived.Shelf.Spec.TrailingZeros
import Derived.Test.YtfdkdjngeomcdaaDoorRows
import Derived.Test.YtfdkdjngeomcdaaDoorP1
import Derived.Test.YtfdkdjngeomcdaaDoorP2
import Derived.Test.YtfdkdjngeomcdaaDoorP3
import Derived.Lib.TrailingZeros
import Derived.Laws.Bits64b
namespace Go.Proofs.YtfdkdjngeomcdaaDoor
open Go.Shelf
def Tryd.laysTZ_ren : Go.Shelf.Ren := ⟨fun | 29 => 57 | n => n, fun | 22 => 62 | 3 => 3 | 4 => 4 | 25 => 132 | 54 => 131 | 0 => 0 | 5 => 5 | n => n, fun | 1 => 0 | n => n⟩
theorem Tryd.laysTZ : Go.Proofs.Lays7.n29 Tryd.prog Tryd.laysTZ_ren := {
  mixed := by kernel_rfl
  f29 := Tryd.func57.trans (congrArg some (by kernel_rfl))
  t0 := Tryd.underlying0
  a0 := Tryd.isAgg0
  z0 := Tryd.sizeOf0
  v0 := Tryd.zeroValue0
  i0 := by kernel_rfl
  t3 := Tryd.underlying3
  a3 := Tryd.isAgg3
  z3 := Tryd.sizeOf3
  v3 := Tryd.zeroValue3
  i3 := by kernel_rfl
  t4 := Tryd.underlying4
  a4 := Tryd.isAgg4
  z4 := Tryd.sizeOf4
  v4 := Tryd.zeroValue4
  i4 := by kernel_rfl
  t5 := Tryd.underlying5
  a5 := Tryd.isAgg5
  z5 := Tryd.sizeOf5
  v5 := Tryd.zeroValue5
  i5 := by kernel_rfl
  t22 := Tryd.underlying62
  a22 := Tryd.isAgg62
  z22 := Tryd.sizeOf62
  v22 := Tryd.zeroValue62
  i22 := by kernel_rfl
  t25 := Tryd.underlying132
  a25 := Tryd.isAgg132
  z25 := Tryd.sizeOf132
  v25 := Tryd.zeroValue132
  i25 := by kernel_rfl
  t54 := Tryd.underlying131
  a54 := Tryd.isAgg131
  z54 := Tryd.sizeOf131
  g1 := by kernel_rfl }
end Go.Proofs.YtfdkdjngeomcdaaDoor

namespace Go.Proofs.YtfdkdjngeomcdaaDoor
open Go.RowKit

/-- A set of positions: eight words. -/
def ps8 (g : Nat → Nat) : Value := .agg #[.int .u64 (g 0 : Nat), .int .u64 (g 1 : Nat), .int .u64 (g 2 : Nat), .int .u64 (g 3 : Nat), .int .u64 (g 4 : Nat), .int .u64 (g 5 : Nat), .int .u64 (g 6 : Nat), .int .u64 (g 7 : Nat)]
def bitsOf (x : Nat) : List Nat := (List.range 64).filter (fun j => x.testBit j)
def blN (g : Nat → Nat) (n : Nat) : List Nat := (List.range n).filter (Bt g)

theorem clear_low (k m j : Nat) : ((2 ^ k * (2 * m + 1)) &&& (2 ^ k * (2 * m + 1) - 1)).testBit j = ((2 ^ k * (2 * m + 1)).testBit j && decide (j ≠ k)) := by
  have hp : 0 < 2 ^ k := Nat.two_pow_pos k
  have e1 : 2 ^ k * (2 * m + 1) - 1 = 2 ^ k * (2 * m) + (2 ^ k - 1) := by rw [Nat.mul_add]; omega
  have e2 : 2 ^ k * (2 * m + 1) = 2 ^ k * (2 * m + 1) + 0 := rfl
  rw [Nat.testBit_and, e1, Nat.testBit_two_pow_mul_add _ (by omega)]
  conv => lhs; lhs; rw [e2, Nat.testBit_two_pow_mul_add _ hp]
  conv => rhs; lhs; rw [e2, Nat.testBit_two_pow_mul_add _ hp]
  by_cases h : j < k
  · simp [h]
  · simp only [h, if_false]
    by_cases he : j = k
    · subst he; simp [Nat.testBit_zero]
    · obtain ⟨d, rfl⟩ : ∃ d, j = k + (d + 1) := ⟨j - k - 1, by omega⟩
      rw [show k + (d + 1) - k = d + 1 by omega, Nat.testBit_succ, Nat.testBit_succ, show (2 * m + 1) / 2 = m by omega, show 2 * m / 2 = m by omega]
      simp
theorem low_bits (k m : Nat) (hk : k < 64) : bitsOf (2 ^ k * (2 * m + 1)) = k :: bitsOf ((2 ^ k * (2 * m + 1)) &&& (2 ^ k * (2 * m + 1) - 1)) := by
  have hp : 0 < 2 ^ k := Nat.two_pow_pos k
  have e : List.range 64 = List.range k ++ (k :: List.range' (k + 1) (63 - k)) := by
    rw [List.range_eq_range', List.range_eq_range', show k :: List.range' (k + 1) (63 - k) = List.range' (0 + 1 * k) (63 - k + 1) by rw [List.range'_succ]; simp, List.range'_append]
    congr 1
    omega
  have t : ∀ j, (2 ^ k * (2 * m + 1)).testBit j = if j < k then false else (2 * m + 1).testBit (j - k) := fun j => by
    have := Nat.testBit_two_pow_mul_add (2 * m + 1) hp j
    simpa using this
  unfold bitsOf
  rw [e, List.filter_append, List.filter_append, List.filter_cons, List.filter_cons]
  have n1 : (List.range k).filter (fun j => (2 ^ k * (2 * m + 1)).testBit j) = [] := List.filter_eq_nil_iff.2 (fun j hj => by rw [t, if_pos (List.mem_range.1 hj)]; simp)
  have n2 : (List.range k).filter (fun j => ((2 ^ k * (2 * m + 1)) &&& (2 ^ k * (2 * m + 1) - 1)).testBit j) = [] := List.filter_eq_nil_iff.2 (fun j hj => by rw [clear_low, t, if_pos (List.mem_range.1 hj)]; simp)
  rw [n1, n2, if_pos (by rw [t, if_neg (Nat.lt_irrefl _)]; simp [Nat.testBit_zero]), if_neg (by rw [clear_low]; simp)]
  simp only [List.nil_append]
  congr 1
  refine List.filter_congr (fun j hj => ?_)
  have := (List.mem_range'_1.1 hj).1
  rw [clear_low]
  simp
  omega
theorem bits_next (x : Nat) (h0 : x ≠ 0) (hx : x < 18446744073709551616) : bitsOf x = Lib.ctz 64 x :: bitsOf (x &&& (x - 1)) ∧ Lib.ctz 64 x < 64 ∧ x &&& (x - 1) < x := by
  obtain ⟨m, hm, hk⟩ := Lib.ctzFrom_spec 64 x (by omega) hx
  have e : Lib.ctz 64 x = Lib.ctzFrom 64 x := by simp [Lib.ctz, h0]
  rw [e]
  refine ⟨?_, hk, ?_⟩
  · have h := low_bits _ m hk
    rw [← hm] at h
    exact h
  · have : x &&& (x - 1) ≤ x - 1 := Nat.and_le_right
    omega
theorem bits_nil : bitsOf 0 = [] := by unfold bitsOf; exact List.filter_eq_nil_iff.2 (fun j _ => by simp)
theorem bits_len (x : Nat) : (bitsOf x).length ≤ 64 := by unfold bitsOf; exact Nat.le_trans (List.length_filter_le _ _) (by simp)
theorem blN_len (g : Nat → Nat) (n : Nat) : (blN g n).length ≤ n := by unfold blN; exact Nat.le_trans (List.length_filter_le _ _) (by simp)
theorem blN_next (g : Nat → Nat) (i : Nat) : blN g (64 * (i + 1)) = blN g (64 * i) ++ (bitsOf (g i)).map (64 * i + ·) := by
  unfold blN bitsOf
  rw [show 64 * (i + 1) = 64 * i + 64 by omega, List.range_add, List.filter_append, List.filter_map]
  congr 2
  refine List.filter_congr (fun j hj => ?_)
  have := List.mem_range.1 hj
  simp only [Function.comp, Bt]
  rw [show (64 * i + j) / 64 = i by omega, show (64 * i + j) % 64 = j by omega]

/-- The library's table of de Bruijn. -/
def TZ (w : World) : Prop := TabAt (Tryd.laysTZ_ren.g 1) Lib.deBruijn64tab w
theorem tz_any (x : Nat) (h0 : x < 18446744073709551616) (w : World) (h : TZ w) : Calls Tryd.prog 57 #[.int .u64 (x : Nat)] w fun e w' => e = .returned (.int .i64 ((Lib.ctz 64 x : Nat) : Int)) ∧ w' = w :=
  Any7.bits_TrailingZeros64 Tryd.laysTZ x h0 w (fun _ => h)
theorem TZ.same {w w' : World} (h : TZ w) (e : w'.heap[Tryd.laysTZ_ren.g 1]? = w.heap[Tryd.laysTZ_ren.g 1]?) : TZ w' := fun j hj => by
  rw [World.cell?_of_block (w := w) (a := ⟨Tryd.laysTZ_ren.g 1, j, none⟩) e]
  exact h j hj
theorem TZ.below {w w' : World} {m : Nat} (h : TZ w) (hb : Below m w w') (hm : Tryd.laysTZ_ren.g 1 < m) : TZ w' := h.same (hb.block _ hm)

theorem idx8 (g : Nat → Nat) (i : Nat) (h : i < 8) (W : World) : (Instr.index 78 (.agg #[.int .u64 (g 0 : Nat), .int .u64 (g 1 : Nat), .int .u64 (g 2 : Nat), .int .u64 (g 3 : Nat), .int .u64 (g 4 : Nat), .int .u64 (g 5 : Nat), .int .u64 (g 6 : Nat), .int .u64 (g 7 : Nat)]) (.int .i64 (i : Int))).run Tryd.prog W = .ok (.int .u64 (g i : Nat)) W := by
  obtain rfl | rfl | rfl | rfl | rfl | rfl | rfl | rfl : i = 0 ∨ i = 1 ∨ i = 2 ∨ i = 3 ∨ i = 4 ∨ i = 5 ∨ i = 6 ∨ i = 7 := by omega
  all_goals kernel_rfl

set_option maxHeartbeats 4000000 in
set_option maxRecDepth 100000 in
theorem list_any (g : Nat → Nat) (hf : Fit g) (w : World) (htz : TZ w) (h0 : Tryd.laysTZ_ren.g 1 < w.heap.size) :
    Calls Tryd.prog 66 #[ps8 g] w fun e w' => ∃ v', e = .returned v' ∧ w'.ownsRow w.heap.size 3 1 v' (blN g 512).length (((blN g 512).map Int.ofNat).map mI) ∧ Below w.heap.size w w' := by
  unfold ps8
  have HTZ : Hid (∀ W, Below w.heap.size w W → TZ W) := fun W hW => htz.below hW h0
  have HF := hide hf
  have hB0 := below1 w (.cells #[.int .u64 (g 0 : Nat), .int .u64 (g 1 : Nat), .int .u64 (g 2 : Nat), .int .u64 (g 3 : Nat), .int .u64 (g 4 : Nat), .int .u64 (g 5 : Nat), .int .u64 (g 6 : Nat), .int .u64 (g 7 : Nat)] 78)
  clear htz hf
  go_enter Tryd.func66, Tryd.ntmps66
  go_wp2_with fail
  go_loopw [3, 7] (fun ov iv wr => ∃ i : Nat, i ≤ 8 ∧ iv = .int .i64 i ∧ wr.ownsRow w.heap.size 3 1 ov (blN g (64 * i)).length (((blN g (64 * i)).map Int.ofNat).map mI) ∧ Below w.heap.size w wr) (fun _ iv _ => 8 - (intOf iv).toNat)
  case atStart => exact ⟨0, by omega, rfl, World.ownsRow_nil _ _ _ _, hB0⟩
  case round =>
    clear hB0
    obtain ⟨i, hi, rfl, hown, hb⟩ := hrel
    obtain ⟨oa, oc, rfl⟩ := own_is hown
    have HO := hide hown
    clear hown
    by_cases hlt : i < 8
    · have hlt' : (i : Int) < 8 := by omega
      have hix := idx8 g i hlt
      have hgi := unhide HF i
      have HGI := hide (blN_next g i)
      have hbl := blN_len g (64 * i)
      clear HF
      go_wp2_with fail
      go_loopw [3, 5] (fun ov xv wr => ∃ (Y : List Nat) (x : Nat), xv = .int .u64 x ∧ x < 18446744073709551616 ∧ Y.length + (bitsOf x).length ≤ 1000 ∧ blN g (64 * (i + 1)) = Y ++ (bitsOf x).map (64 * i + ·) ∧ wr.ownsRow w.heap.size 3 1 ov Y.length ((Y.map Int.ofNat).map mI) ∧ Below w.heap.size w wr) (fun _ xv _ => (intOf xv).toNat)
      case atStart => exact ⟨blN g (64 * i), g i, rfl, hgi, by have := bits_len (g i); omega, unhide HGI, unhide HO, hb⟩
      case round =>
        clear HO hb HGI hgi
        obtain ⟨Y, x, rfl, hx, hDl, hE, hown, hb⟩ := hrel
        obtain ⟨oa, oc, rfl⟩ := own_is hown
        by_cases hx0 : x = 0
        · subst hx0
          rw [bits_nil, List.map_nil, List.append_nil] at hE
          subst hE
          have HO := hide hown
          clear hown
          go_wp2
          go_roundw
          case rel => exact ⟨i + 1, by omega, by go_num, unhide HO, hb⟩
          case measure => simp [intOf]; omega
        · obtain ⟨n1, n2, n3⟩ := bits_next x hx0 hx
          have hx1 : ((x : Int) != 0) = true := by simp; omega
          have hx2 : ((x : Int) == 0) = false := by simp; omega
          have a1 : IntKind.u64.wrap ((x : Int) - 1) = ((x - 1 : Nat) : Int) := by rw [IntKind.wrap_u64]; omega
          obtain ⟨x', hx'⟩ : ∃ x', x' = x &&& (x - 1) := ⟨_, rfl⟩
          have a2 := bits_and_u64_nat x (x - 1) hx (by omega)
          rw [← hx'] at a2 n3 n1
          have HO := hide hown
          obtain ⟨k, hk⟩ : ∃ k, k = Lib.ctz 64 x := ⟨_, rfl⟩
          have htz := tz_any x hx wr (unhide HTZ _ hb)
          rw [← hk] at htz n2 n1
          have HT := hide htz
          have a3 : IntKind.i64.wrap ((i : Int) * 64) = (i : Int) * 64 := k64i (by omega) (by omega)
          have a4 : IntKind.i64.wrap ((i : Int) * 64 + (k : Int)) = (i : Int) * 64 + (k : Int) := k64i (by omega) (by omega)
          have hl9 : Y.length ≤ 1000 := by omega
          have HL : Hid ((Y ++ [64 * i + k]).length + (bitsOf x').length ≤ 1000) := by show _ ≤ _; rw [n1] at hDl; simp only [List.length_cons, List.length_append, List.length_nil] at hDl ⊢; omega
          have HE : Hid (blN g (64 * (i + 1)) = (Y ++ [64 * i + k]) ++ (bitsOf x').map (64 * i + ·)) := by show _ = _; rw [hE, n1]; simp
          have HM : Hid (((Y ++ [64 * i + k]).map Int.ofNat).map mI = (Y.map Int.ofNat).map mI ++ [.int .i64 ((i : Int) * 64 + (k : Int))]) := by show _ = _; simp [mI]; omega
          have hsz1 := hb.size
          obtain ⟨i0, hi2, hz0, hz1, hz2⟩ := info_parts Tryd.zinInt
          clear hown hE n1 htz hk hx' hDl
          go_wp2_with fail
          refine (unhide HT).mono ?_
          rintro e w2 ⟨rfl, rfl⟩
          go_wp2_with (at_builtin; refine wpList_append_own _ rfl _ _ 44 rfl w.heap.size 3 i0 (.int .i64 0) 1 8 Tryd.underlying44 hi2 hz0 hz1 hz2 rfl (by decide) _ _ _ rfl (World.ownsRow.alloc (w := w2) (unhide HO) _) ⟨w2.heap.size, 0, none⟩ 1 1 [.int .i64 ((i : Int) * 64 + (k : Int))] rfl rfl (cell_1 (by simp)) (fun u' hu => by simp at hu; subst hu; rfl) (by unfold maxLen; omega) (by omega) (by rw [sz_alloc]; omega) ?_)
          intro v' w3 h5 hg5 _
          have h5' : w3.ownsRow w.heap.size 3 1 v' ((Y.map Int.ofNat).length + 1) ((Y.map Int.ofNat).map mI ++ [.int .i64 ((i : Int) * 64 + (k : Int))]) := by rw [List.length_map, List.map_map]; exact h5
          have hst := grow_int (os := Y.map Int.ofNat) (by rw [List.length_map]; exact unhide HO) hsz1 (pushd_alloc w2 _) h5' hg5
          have HR : Hid (w3.ownsRow w.heap.size 3 1 v' (Y ++ [64 * i + k]).length (((Y ++ [64 * i + k]).map Int.ofNat).map mI)) := by
            have h := h5'
            rw [← unhide HM, List.length_map] at h
            show World.ownsRow _ _ _ _ _ _ _
            rw [List.length_append]
            exact h
          have HB3 := hide (hb.trans hst.2)
          clear h5 hg5 h5' hst
          go_wp2
          go_roundw
          case rel => exact ⟨Y ++ [64 * i + k], x', by go_num, by omega, unhide HL, unhide HE, unhide HR, unhide HB3⟩
          case measure => simp [intOf]; omega
    · obtain rfl : i = 8 := by omega
      go_wp2
      go_ret
      exact ⟨_, rfl, unhide HO, hb⟩

end Go.Proofs.YtfdkdjngeomcdaaDoor

namespace Go.Proofs.YtfdkdjngeomcdaaDoor
open Go.RowKit

/-- Outside one block nothing has changed. -/
structure Obk (g : Nat) (w w' : World) : Prop where
  os : w'.os = w.os
  tape : w'.tape = w.tape
  output : w'.output = w.output
  size : w'.heap.size = w.heap.size
  block : ∀ k, k ≠ g → w'.heap[k]? = w.heap[k]?
theorem Obk.trans {g : Nat} {a b c : World} (h : Obk g a b) (k : Obk g b c) : Obk g a c := ⟨k.os.trans h.os, k.tape.trans h.tape, k.output.trans h.output, k.size.trans h.size, fun i hi => (k.block i hi).trans (h.block i hi)⟩
theorem Obk.refl (g : Nat) (w : World) : Obk g w w := ⟨rfl, rfl, rfl, rfl, fun _ _ => rfl⟩
theorem obk_put {w : World} {b : Nat} (o : Nat) (u : Value) : Obk b w (w.setCell ⟨b, o, none⟩ u) := ⟨rfl, rfl, rfl, by simp [World.setCell], fun k hk => Below.heap_setCell _ _ _ _ (by show k ≠ b; exact hk)⟩
theorem Obk.drew {g : Nat} {a b : World} (h : Obk g a b) : Obk g a b.drew := ⟨h.os, h.tape, h.output, h.size, h.block⟩

def wd (g : Nat → Nat) (j : Nat) : Value := .int .u64 (g j : Nat)
def putW (g : Nat → Nat) (k : Nat) : Nat → Nat := fun j => if j = k / 64 then g (k / 64) ||| 2 ^ (k % 64) else g j
theorem fit_put {g : Nat → Nat} (h : Fit g) (k : Nat) : Fit (putW g k) := fun j => by
  unfold putW
  split
  · exact or_lt _ _ (h _) (by omega)
  · exact h j
def orW (g h : Nat → Nat) : Nat → Nat := fun j => g j ||| h j
theorem fit_or {g h : Nat → Nat} (a : Fit g) (b : Fit h) : Fit (orW g h) := fun j => by
  have h1 : g j < 2 ^ 64 := a j
  have h2 : h j < 2 ^ 64 := b j
  exact Nat.or_lt_two_pow h1 h2
theorem bt_or (g h : Nat → Nat) (b : Nat) : Bt (orW g h) b = (Bt g b || Bt h b) := by unfold Bt orW; rw [Nat.testBit_or]

set_option maxHeartbeats 1000000 in
theorem put_any (b i : Nat) (g : Nat → Nat) (w : World) (hg : Fit g) (hi : i < 512) (hrow : w.rowIs b 78 8 (wd g)) :
    Calls Tryd.prog 29 #[.pointer (some ⟨b, 0, none⟩), .int .i64 i] w fun e w' => e = .returned (.tuple #[]) ∧ w'.rowIs b 78 8 (wd (putW g i)) ∧ Obk b w w' := by
  have hq : i / 64 < 8 := by omega
  have c0 := hrow.cell hq
  have f0 := hrow.frozen (i / 64)
  unfold wd at c0
  have hq' : ((i / 64 : Nat) : Int) < 8 := by omega
  have hq2 : (i : Int) / 64 < 8 := by omega
  have hq3 : 0 ≤ (i : Int) / 64 := by omega
  have hor := or_bit (g (i / 64)) (i % 64) (hg _) (by omega)
  have Hor := hide hor
  have HR := hide hrow
  clear hrow hor hg
  go_enter Tryd.func29, Tryd.ntmps29
  go_region
  go_wp2
  rw [unhide Hor]
  first | (refine bodyPost_ret (results_none rfl _ _ _) rfl ?_) | (refine bodyPost_end (results_none rfl _ _ _) rfl ?_)
  exact ⟨rfl, (((unhide HR).set (i / 64) _).congr (fun j _ => by unfold wd putW; by_cases e : j = i / 64 <;> simp [e])).drew, (obk_put _ _).drew⟩

set_option maxHeartbeats 2000000 in
theorem join_any (b o n c p m : Nat) (t t' : TypeId) (F F' : Nat → Value) (g h : Nat → Nat) (w : World) (hg : Fit g) (hh : Fit h) (hbc : b ≠ c) (hrow : w.rowIs b t n F) (hF : ∀ j, j < 8 → F (o + j) = wd g j) (ho : o + 8 ≤ n)
    (hrow' : w.rowIs c t' m F') (hF' : ∀ j, j < 8 → F' (p + j) = wd h j) (hp : p + 8 ≤ m) :
    Calls Tryd.prog 56 #[.pointer (some ⟨b, o, none⟩), .pointer (some ⟨c, p, none⟩)] w fun e w' => e = .returned (.tuple #[]) ∧ w'.rowIs b t n (fun k => if o ≤ k ∧ k < o + 8 then wd (orW g h) (k - o) else F k) ∧ Obk b w w' := by
  have HG := hide hg
  have HH := hide hh
  have HF := hide hF
  have HF' := hide hF'
  have HR := hide hrow
  have HR' := hide hrow'
  clear hg hh hF hF' hrow hrow'
  go_enter Tryd.func56, Tryd.ntmps56
  go_wp2_with fail
  go_loopw [5] (fun iv wr => ∃ i : Nat, i ≤ 8 ∧ iv = .int .i64 i ∧ wr.rowIs b t n (fun k => if o ≤ k ∧ k < o + i then wd (orW g h) (k - o) else F k) ∧ Obk b w wr) (fun iv _ => 8 - (intOf iv).toNat)
  case atStart => exact ⟨0, by omega, rfl, (unhide HR).congr (fun k _ => by rw [if_neg (by omega)]), ⟨rfl, rfl, rfl, rfl, fun _ _ => rfl⟩⟩
  case round =>
    obtain ⟨i, hi, rfl, hr, hb⟩ := hrel
    by_cases hlt : i < 8
    · have hlt' : (i : Int) < 8 := by omega
      have c0 : wr.cell? ⟨b, o + i, none⟩ = some (.int .u64 (g i : Nat)) := by
        rw [hr.cell (by omega), if_neg (by omega), unhide HF i hlt]; rfl
      have f0 := hr.frozen (o + i)
      have c1 : wr.cell? ⟨c, p + i, none⟩ = some (.int .u64 (h i : Nat)) := by
        rw [World.cell?_of_block (w := w) (a := ⟨c, p + i, none⟩) (hb.block c (fun e => hbc e.symm)), (unhide HR').cell (by omega), unhide HF' i hlt]; rfl
      have hor := bits_or_u64_nat (g i) (h i) (unhide HG i) (unhide HH i)
      have HR2 : Hid ((wr.setCell ⟨b, o + i, none⟩ (.int .u64 ((g i ||| h i : Nat) : Int))).rowIs b t n (fun k => if o ≤ k ∧ k < o + (i + 1) then wd (orW g h) (k - o) else F k)) := (hr.set (o + i) _).congr (fun k hk => by
        by_cases e : k = o + i
        · subst e; rw [if_pos rfl, if_pos (by omega), show o + i - o = i by omega]; rfl
        · rw [if_neg e]
          by_cases e2 : o ≤ k ∧ k < o + i
          · rw [if_pos e2, if_pos (by omega)]
          · rw [if_neg e2, if_neg (by omega)])
      have HB2 : Hid (Obk b w (wr.setCell ⟨b, o + i, none⟩ (.int .u64 ((g i ||| h i : Nat) : Int)))) := hb.trans (obk_put _ _)
      have Hor := hide hor
      clear hr hor
      go_wp2_with fail
      go_region
      all_goals
        go_wp2
        rw [unhide Hor]
        go_roundw
        case rel => exact ⟨i + 1, by omega, by go_num, unhide HR2, ⟨(unhide HB2).os, (unhide HB2).tape, (unhide HB2).output, (unhide HB2).size, (unhide HB2).block⟩⟩
        case measure => simp [intOf]; omega
    · obtain rfl : i = 8 := by omega
      have HR2 := hide hr
      clear hr
      go_wp2
      first | (refine bodyPost_ret (results_none rfl _ _ _) rfl ?_) | (refine bodyPost_end (results_none rfl _ _ _) rfl ?_)
      exact ⟨rfl, unhide HR2, hb⟩

end Go.Proofs.YtfdkdjngeomcdaaDoor

namespace Go.Proofs.YtfdkdjngeomcdaaDoor
open Go.RowKit

/-- What an element adds to the number of trees on the stack. -/
def wt (x : El) : Int := if x.kind = 0 ∨ x.kind = 1 then 1 else if x.kind = 2 ∨ x.kind = 3 then -1 else 0
def wsum : List El → Int
  | [] => 0
  | x :: r => wt x + wsum r

theorem wsum_append (a b : List El) : wsum (a ++ b) = wsum a + wsum b := by
  induction a with
  | nil => simp [wsum]
  | cons x r ih => simp [wsum, ih]; omega

theorem wt_le (x : El) : wt x ≤ 1 := by unfold wt; split <;> (try split) <;> omega
theorem wt_ge (x : El) : -1 ≤ wt x := by unfold wt; split <;> (try split) <;> omega
theorem wsum_bd (l : List El) : -(l.length : Int) ≤ wsum l ∧ wsum l ≤ l.length := by
  induction l with
  | nil => simp [wsum]
  | cons x r ih => have := wt_le x; have := wt_ge x; simp [wsum]; omega

theorem drop_getD {xs : List El} {k : Nat} (h : k < xs.length) : xs.drop k = xs[k]?.getD dE :: xs.drop (k + 1) := by
  rw [List.drop_eq_getElem_cons h]; simp [h]

theorem wsum_drop {xs : List El} {k : Nat} (h : k < xs.length) : wsum (xs.drop k) = wt (xs[k]?.getD dE) + wsum (xs.drop (k + 1)) := by
  rw [drop_getD h]; rfl

/-- Read from behind: each place but the first still wants a tree, and in the end none is wanting. -/
def Shape (xs : List El) : Prop := wsum xs = 1 ∧ ∀ k : Nat, 0 < k → k ≤ xs.length → wsum (xs.drop k) ≤ 0

set_option maxHeartbeats 1000000 in
theorem l1shape_any (v : Value) (xs : List El) (w : World) (hv : ElsAt 0 w.heap.size w v xs) (hlen : xs.length ≤ 1048576) :
    Calls Tryd.prog 37 #[v] w fun e w' => RetB e (Shape xs) ∧ w' = w := by
  obtain ⟨a, cap, rfl, hl, hc⟩ := hv
  go_enter Tryd.func37, Tryd.ntmps37
  go_wp2
  go_loop [3, 4] (fun n i => ∃ k : Nat, k ≤ xs.length ∧ i = .int .i64 ((k : Int) - 1) ∧ n = .int .i64 (1 - wsum (xs.drop k)) ∧ wsum (xs.drop k) ≤ 1 ∧ ∀ j : Nat, k < j → j ≤ xs.length → wsum (xs.drop j) ≤ 0) (fun _ i => (intOf i + 1).toNat)
  case atStart => exact ⟨xs.length, Nat.le_refl _, rfl, by simp [wsum], by simp [wsum], fun j h1 h2 => absurd h2 (by omega)⟩
  case round =>
    obtain ⟨k, hk, rfl, rfl, hle, hin⟩ := hrel
    have Hin := hide hin
    clear hin
    cases k with
    | zero =>
      go_wp2
      go_ret
      refine ⟨RetB.of ⟨fun h => ⟨?_, fun j h1 h2 => unhide Hin j h1 h2⟩, fun h => ?_⟩, rfl⟩
      · have := beq_iff_eq.1 h; omega
      · have := h.1; exact beq_iff_eq.2 (by omega)
    | succ k =>
      obtain ⟨b, off, rfl, -, hbn, hel⟩ := hc (by omega)
      obtain ⟨i1, i2, i3, v, c0, c1, c2, c3, hints⟩ := hel k (by omega)
      have hws := wsum_drop (xs := xs) (k := k) (by omega)
      have hbd := wsum_bd (xs.drop (k + 1))
      rw [List.length_drop] at hbd
      have hkk : (k : Int) < (xs.length : Int) := by omega
      generalize hS : wsum (xs.drop (k + 1)) = s at *
      generalize xs[k]?.getD dE = x at *
      have Hws := hide hws
      have HS := hide hS
      clear hws hS hints i2 i3 c1 c2 c3
      by_cases hs : 1 - s = 0
      · go_wp2
        go_ret
        exact ⟨RetB.no (fun hsh => by have := hsh.2 (k + 1) (by omega) hk; rw [unhide HS] at this; omega), rfl⟩
      · have hs0 : s ≤ 0 := by omega
        have hnext : Hid (∀ j : Nat, k < j → j ≤ xs.length → wsum (xs.drop j) ≤ 0) := by
          intro j h1 h2
          by_cases e : j = k + 1
          · subst e; rw [unhide HS]; exact hs0
          · exact unhide Hin j (by omega) h2
        have hwt : wt x = if x.kind = 0 ∨ x.kind = 1 then 1 else if x.kind = 2 ∨ x.kind = 3 then -1 else 0 := rfl
        generalize wt x = t at *
        generalize x.kind = q at *
        have Hwt := hide hwt
        clear hwt
        have hs' : (1 - s == 0) = false := by simp; omega
        by_cases q0 : q = 0
        · subst q0
          have ht : t = 1 := unhide Hwt
          go_wp2
          go_round
          case rel => exact ⟨k, by omega, by congr 1, by have := unhide Hws; congr 1; omega, by have := unhide Hws; omega, unhide hnext⟩
          case measure => simp [intOf]
        · by_cases q1 : q = 1
          · subst q1
            have ht : t = 1 := unhide Hwt
            go_wp2
            go_round
            case rel => exact ⟨k, by omega, by congr 1, by have := unhide Hws; congr 1; omega, by have := unhide Hws; omega, unhide hnext⟩
            case measure => simp [intOf]
          · by_cases q2 : q = 2
            · subst q2
              have ht : t = -1 := unhide Hwt
              go_wp2
              go_round
              case rel => exact ⟨k, by omega, by congr 1, by have := unhide Hws; congr 1; omega, by have := unhide Hws; omega, unhide hnext⟩
              case measure => simp [intOf]
            · by_cases q3 : q = 3
              · subst q3
                have ht : t = -1 := unhide Hwt
                go_wp2
                go_round
                case rel => exact ⟨k, by omega, by congr 1, by have := unhide Hws; congr 1; omega, by have := unhide Hws; omega, unhide hnext⟩
                case measure => simp [intOf]
              · have ht : t = 0 := by rw [unhide Hwt, if_neg (by omega), if_neg (by omega)]
                have b0 : (q == 0) = false := by simp [q0]
                have b1 : (q == 1) = false := by simp [q1]
                have b2 : (q == 2) = false := by simp [q2]
                have b3 : (q == 3) = false := by simp [q3]
                go_wp2
                go_round
                case rel => exact ⟨k, by omega, by congr 1, by have := unhide Hws; congr 1; omega, by have := unhide Hws; omega, unhide hnext⟩
                case measure => simp [intOf]

end Go.Proofs.YtfdkdjngeomcdaaDoor

namespace Go.Proofs.YtfdkdjngeomcdaaDoor

def cap (n : Int) : Int := if 500 < n then 501 else n
def repSize (c mn mx : Int) : Int := if mx = -1 then (if mn < 1 then 1 else mn) * c + 1 else if mx = 0 then c else mn * c + (mx - mn) * (c + 1)

theorem cap_bd {n : Int} (h : 0 ≤ n) : 0 ≤ cap n ∧ cap n ≤ 501 := by unfold cap; split <;> omega

/-- The sizes on the stack, top first, behind one element more. -/
def szPush (st : List Int) (x : El) : List Int :=
  if x.kind = 0 ∨ x.kind = 1 then 1 :: st else
  match st with
  | [] => []
  | [o] => if x.kind = 4 then [cap (repSize o x.mn x.mx)] else [o]
  | r :: l :: b => if x.kind = 4 then cap (repSize r x.mn x.mx) :: l :: b else cap (l + r) :: b
def szRun (st : List Int) : List El → List Int
  | [] => st
  | x :: r => szRun (szPush st x) r

theorem szRun_append (st : List Int) (a b : List El) : szRun st (a ++ b) = szRun (szRun st a) b := by
  induction a generalizing st with
  | nil => rfl
  | cons x r ih => simp [szRun, ih]

/-- A tree in postfix order, of size c. -/
structure SegM (seg : List El) (c : Int) : Prop where
  ne : 0 < seg.length
  ws : wsum seg = 1
  tl : ∀ k : Nat, 0 < k → k ≤ seg.length → wsum (seg.drop k) ≤ 0
  run : ∀ st, szRun st seg = c :: st
  bd : 0 ≤ c ∧ c ≤ 501

theorem SegM.leaf {x : El} (h : x.kind = 0 ∨ x.kind = 1) : SegM [x] 1 := by
  have hw : wt x = 1 := by unfold wt; rw [if_pos h]
  refine ⟨by simp, by simp [wsum, hw], fun k h0 h1 => ?_, fun st => ?_, by omega⟩
  · simp only [List.length_singleton] at h1
    obtain rfl : k = 1 := by omega
    simp [wsum]
  · simp only [szRun, szPush]; rw [if_pos h]

theorem SegM.bin {a b : List El} {ca cb : Int} {x : El} (ha : SegM a ca) (hb : SegM b cb) (h : x.kind = 2 ∨ x.kind = 3) : SegM (a ++ b ++ [x]) (cap (ca + cb)) := by
  have hx : wt x = -1 := by unfold wt; rw [if_neg (by omega), if_pos h]
  refine ⟨by simp; omega, by simp [wsum_append, ha.ws, hb.ws, wsum, hx], fun k h0 h1 => ?_, fun st => ?_, cap_bd (by have := ha.bd; have := hb.bd; omega)⟩
  · simp only [List.length_append, List.length_singleton] at h1
    rw [List.append_assoc, List.drop_append, wsum_append]
    by_cases hk : k ≤ a.length
    · have e : k - a.length = 0 := by omega
      have := ha.tl k h0 hk
      rw [e, List.drop_zero, wsum_append, hb.ws]
      simp [wsum, hx]; omega
    · rw [List.drop_eq_nil_of_le (by omega), List.drop_append, wsum_append]
      by_cases hk2 : k - a.length ≤ b.length
      · have e : k - a.length - b.length = 0 := by omega
        have := hb.tl (k - a.length) (by omega) hk2
        rw [e, List.drop_zero]
        simp [wsum, hx]; omega
      · rw [List.drop_eq_nil_of_le (show b.length ≤ k - a.length by omega), List.drop_eq_nil_of_le (by simp; omega)]
        simp [wsum]
  · rw [szRun_append, szRun_append, ha.run, hb.run]
    simp only [szRun, szPush]
    rw [if_neg (by omega), if_neg (by omega)]

theorem SegM.rep {a : List El} {ca : Int} {x : El} (ha : SegM a ca) (h : x.kind = 4) (o2 : 0 ≤ x.mn) (o4 : x.mx = -1 ∨ (x.mn ≤ x.mx ∧ x.mx ≤ 250)) : SegM (a ++ [x]) (cap (repSize ca x.mn x.mx)) := by
  have hx : wt x = 0 := by unfold wt; rw [if_neg (by omega), if_neg (by omega)]
  have hc := ha.bd
  refine ⟨by simp, by simp [wsum_append, ha.ws, wsum, hx], fun k h0 h1 => ?_, fun st => ?_, cap_bd ?_⟩
  · simp only [List.length_append, List.length_singleton] at h1
    rw [List.drop_append, wsum_append]
    by_cases hk : k ≤ a.length
    · have e : k - a.length = 0 := by omega
      have := ha.tl k h0 hk
      rw [e, List.drop_zero]
      simp [wsum, hx]; omega
    · rw [List.drop_eq_nil_of_le (by omega), List.drop_eq_nil_of_le (by simp; omega)]
      simp [wsum]
  · rw [szRun_append, ha.run]
    cases st with
    | nil => simp only [szRun, szPush]; rw [if_neg (by omega), if_pos h]
    | cons q st => simp only [szRun, szPush]; rw [if_neg (by omega), if_pos h]
  · unfold repSize
    split
    · have : 0 ≤ (if x.mn < 1 then 1 else x.mn) * ca := Int.mul_nonneg (by split <;> omega) hc.1
      omega
    · split
      · exact hc.1
      · have h1 : 0 ≤ x.mn * ca := Int.mul_nonneg o2 hc.1
        have h2 : 0 ≤ (x.mx - x.mn) * (ca + 1) := Int.mul_nonneg (by omega) (by omega)
        omega

/-- One element more on a stack of trees with their sizes, the last tree at the end. -/
def PushR (st : List (List El × Int)) (x : El) (st' : List (List El × Int)) : Prop :=
  ((x.kind = 0 ∨ x.kind = 1) ∧ st' = st ++ [([x], 1)]) ∨
  ((x.kind = 2 ∨ x.kind = 3) ∧ ∃ b l r, st = b ++ [l, r] ∧ st' = b ++ [(l.1 ++ r.1 ++ [x], cap (l.2 + r.2))]) ∨
  (x.kind = 4 ∧ ∃ b o, st = b ++ [o] ∧ st' = b ++ [(o.1 ++ [x], cap (repSize o.2 x.mn x.mx))])

def flats (st : List (List El × Int)) : List El := (st.map (fun s => s.1)).flatten

theorem flats_one (t : List El × Int) : flats [t] = t.1 := by simp [flats]
theorem wsum_flats {st : List (List El × Int)} (h : ∀ s ∈ st, wsum s.1 = 1) : wsum (flats st) = st.length := by
  induction st with
  | nil => rfl
  | cons t r ih =>
    have e : flats (t :: r) = t.1 ++ flats r := rfl
    rw [e, wsum_append, h t (by simp), ih (fun s hs => h s (by simp [hs]))]; simp; omega

theorem PushR.flats {st st' : List (List El × Int)} {x : El} (h : PushR st x st') : flats st' = flats st ++ [x] := by
  rcases h with ⟨-, rfl⟩ | ⟨-, b, l, r, rfl, rfl⟩ | ⟨-, b, o, rfl, rfl⟩ <;> simp [YtfdkdjngeomcdaaDoor.flats]

theorem snoc1 {st : List (List El × Int)} (h : 1 ≤ st.length) : ∃ b o, st = b ++ [o] := by
  rcases List.eq_nil_or_concat st with rfl | ⟨b, o, rfl⟩
  · simp at h
  · exact ⟨b, o, by simp⟩
theorem snoc2 {st : List (List El × Int)} (h : 2 ≤ st.length) : ∃ b l r, st = b ++ [l, r] := by
  obtain ⟨b, r, rfl⟩ := snoc1 (st := st) (by omega)
  obtain ⟨b', l, rfl⟩ := snoc1 (st := b) (by simp at h; omega)
  exact ⟨b', l, r, by simp⟩

theorem PushR.ex {st : List (List El × Int)} {x : El} (ok : ElOk x) (h : 1 ≤ (st.length : Int) + wt x) : ∃ st', PushR st x st' := by
  rcases ok with ⟨q1, q2, q3, q4⟩ | ⟨q1 | q1, q2, q3, q4⟩ | ⟨q1, q2, q3, q4, q5⟩
  · exact ⟨_, Or.inl ⟨Or.inr q1, rfl⟩⟩
  · exact ⟨_, Or.inl ⟨Or.inl q1, rfl⟩⟩
  · obtain ⟨b, l, r, rfl⟩ := snoc2 (st := st) (by have e : wt x = -1 := by unfold wt; rw [if_neg (by omega), if_pos q1]
                                                  omega)
    exact ⟨_, Or.inr (Or.inl ⟨q1, b, l, r, rfl, rfl⟩)⟩
  · obtain ⟨b, o, rfl⟩ := snoc1 (st := st) (by have e : wt x = 0 := by unfold wt; rw [if_neg (by omega), if_neg (by omega)]
                                               omega)
    exact ⟨_, Or.inr (Or.inr ⟨q1, b, o, rfl, rfl⟩)⟩

theorem PushR.seg {st st' : List (List El × Int)} {x : El} (h : PushR st x st') (ok : ElOk x) (hs : ∀ s ∈ st, SegM s.1 s.2) : ∀ s ∈ st', SegM s.1 s.2 := by
  rcases h with ⟨hk, rfl⟩ | ⟨hk, b, l, r, rfl, rfl⟩ | ⟨hk, b, o, rfl, rfl⟩
  · intro s hm; simp only [List.mem_append, List.mem_singleton] at hm; rcases hm with hm | rfl
    · exact hs s hm
    · exact SegM.leaf hk
  · intro s hm; simp only [List.mem_append, List.mem_singleton] at hm; rcases hm with hm | rfl
    · exact hs s (by simp [hm])
    · exact SegM.bin (hs l (by simp)) (hs r (by simp)) hk
  · intro s hm; simp only [List.mem_append, List.mem_singleton] at hm; rcases hm with hm | rfl
    · exact hs s (by simp [hm])
    · rcases ok with ⟨q1, q2, q3, q4⟩ | ⟨q1, q2, q3, q4⟩ | ⟨q1, q2, q3, q4, q5⟩
      · omega
      · omega
      · exact SegM.rep (hs o (by simp)) hk q3 q5

theorem take_next {xs : List El} {k : Nat} (hk : k < xs.length) : xs.take (k + 1) = xs.take k ++ [xs[k]?.getD dE] := by
  rw [List.take_add_one, List.getElem?_eq_getElem hk]; rfl

/-- A valid tree, as the document says it. -/
def ValidT (xs : List El) : Prop :=
  (1 ≤ xs.length ∧ xs.length ≤ 3000) ∧ (∀ i : Nat, i < xs.length → ElOk (xs[i]?.getD dE)) ∧ Shape xs ∧ ∃ c, szRun [] xs = [c] ∧ c ≤ 500

end Go.Proofs.YtfdkdjngeomcdaaDoor
