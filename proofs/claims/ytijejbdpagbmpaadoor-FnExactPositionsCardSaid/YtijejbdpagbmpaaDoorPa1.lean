import Derived.Test.YtijejbdpagbmpaaDoorP14
import Derived.Test.YtijejbdpagbmpaaDoorP3
import Derived.Test.YtijejbdpagbmpaaDoorP13
import Derived.Test.YtijejbdpagbmpaaDoorP2
import Derived.Lib.TrailingZeros
import Derived.Laws.Bits64b
namespace Go.Proofs.YtijejbdpagbmpaaDoor
open Go.RowKit

/-- A set of positions: eight words. -/
def ps8 (g : Nat → Nat) : Value := .agg #[.int .u64 (g 0 : Nat), .int .u64 (g 1 : Nat), .int .u64 (g 2 : Nat), .int .u64 (g 3 : Nat), .int .u64 (g 4 : Nat), .int .u64 (g 5 : Nat), .int .u64 (g 6 : Nat), .int .u64 (g 7 : Nat)]
def bitsOf (x : Nat) : List Nat := (List.range 64).filter (fun j => x.testBit j)
def blN (g : Nat → Nat) (n : Nat) : List Nat := (List.range n).filter (Bt g)

theorem clear_low (k m j : Nat) : ((2 ^ k * (2 * m + 1)) &&& (2 ^ k * (2 * m + 1) - 1)).testBit j = ((2 ^ k * (2 * m + 1)).testBit j && decide (j ≠ k)) := by
  have hp : 0 < 2 ^ k := Nat.two_pow_pos k
  have e1 : 2 ^ k * (2 * m + 1) - 1 = 2 ^ k * (2 * m) + (2 ^ k - 1) := by rw [Nat.mul_add]; omega
  have e2 : 2 ^ k * (2 * m + 1) = 2 ^ k * (2 * m + 1) + 0 := rfl
  rw [Nat.testBit_and, e1, Nat.testBit_two_pow_mul_add _ (by omega)]
  conv => lhs; lhs; rw [e2, Nat.testBit_two_pow_mul_add _ hp]
  conv => rhs; lhs; rw [e2, Nat.testBit_two_pow_mul_add _ hp]
  by_cases h : j < k
  · simp [h]
  · simp only [h, if_false]
    by_cases he : j = k
    · subst he; simp [Nat.testBit_zero]
    · obtain ⟨d, rfl⟩ : ∃ d, j = k + (d + 1) := ⟨j - k - 1, by omega⟩
      rw [show k + (d + 1) - k = d + 1 by omega, Nat.testBit_succ, Nat.testBit_succ, show (2 * m + 1) / 2 = m by omega, show 2 * m / 2 = m by omega]
      simp
theorem low_bits (k m : Nat) (hk : k < 64) : bitsOf (2 ^ k * (2 * m + 1)) = k :: bitsOf ((2 ^ k * (2 * m + 1)) &&& (2 ^ k * (2 * m + 1) - 1)) := by
  have hp : 0 < 2 ^ k := Nat.two_pow_pos k
  have e : List.range 64 = List.range k ++ (k :: List.range' (k + 1) (63 - k)) := by
    rw [List.range_eq_range', List.range_eq_range', show k :: List.range' (k + 1) (63 - k) = List.range' (0 + 1 * k) (63 - k + 1) by rw [List.range'_succ]; simp, List.range'_append]
    congr 1
    omega
  have t : ∀ j, (2 ^ k * (2 * m + 1)).testBit j = if j < k then false else (2 * m + 1).testBit (j - k) := fun j => by
    have := Nat.testBit_two_pow_mul_add (2 * m + 1) hp j
    simpa using this
  unfold bitsOf
  rw [e, List.filter_append, List.filter_append, List.filter_cons, List.filter_cons]
  have n1 : (List.range k).filter (fun j => (2 ^ k * (2 * m + 1)).testBit j) = [] := List.filter_eq_nil_iff.2 (fun j hj => by rw [t, if_pos (List.mem_range.1 hj)]; simp)
  have n2 : (List.range k).filter (fun j => ((2 ^ k * (2 * m + 1)) &&& (2 ^ k * (2 * m + 1) - 1)).testBit j) = [] := List.filter_eq_nil_iff.2 (fun j hj => by rw [clear_low, t, if_pos (List.mem_range.1 hj)]; simp)
  rw [n1, n2, if_pos (by rw [t, if_neg (Nat.lt_irrefl _)]; simp [Nat.testBit_zero]), if_neg (by rw [clear_low]; simp)]
  simp only [List.nil_append]
  congr 1
  refine List.filter_congr (fun j hj => ?_)
  have := (List.mem_range'_1.1 hj).1
  rw [clear_low]
  simp
  omega
theorem bits_next (x : Nat) (h0 : x ≠ 0) (hx : x < 18446744073709551616) : bitsOf x = Lib.ctz 64 x :: bitsOf (x &&& (x - 1)) ∧ Lib.ctz 64 x < 64 ∧ x &&& (x - 1) < x := by
  obtain ⟨m, hm, hk⟩ := Lib.ctzFrom_spec 64 x (by omega) hx
  have e : Lib.ctz 64 x = Lib.ctzFrom 64 x := by simp [Lib.ctz, h0]
  rw [e]
  refine ⟨?_, hk, ?_⟩
  · have h := low_bits _ m hk
    rw [← hm] at h
    exact h
  · have : x &&& (x - 1) ≤ x - 1 := Nat.and_le_right
    omega
theorem bits_nil : bitsOf 0 = [] := by unfold bitsOf; exact List.filter_eq_nil_iff.2 (fun j _ => by simp)
theorem bits_len (x : Nat) : (bitsOf x).length ≤ 64 := by unfold bitsOf; exact Nat.le_trans (List.length_filter_le _ _) (by simp)
theorem blN_len (g : Nat → Nat) (n : Nat) : (blN g n).length ≤ n := by unfold blN; exact Nat.le_trans (List.length_filter_le _ _) (by simp)
theorem blN_next (g : Nat → Nat) (i : Nat) : blN g (64 * (i + 1)) = blN g (64 * i) ++ (bitsOf (g i)).map (64 * i + ·) := by
  unfold blN bitsOf
  rw [show 64 * (i + 1) = 64 * i + 64 by omega, List.range_add, List.filter_append, List.filter_map]
  congr 2
  refine List.filter_congr (fun j hj => ?_)
  have := List.mem_range.1 hj
  simp only [Function.comp, Bt]
  rw [show (64 * i + j) / 64 = i by omega, show (64 * i + j) % 64 = j by omega]

/-- The library's table of de Bruijn. -/
def TZ (w : World) : Prop := TabAt (Tryd.laysTZ_ren.g 1) Lib.deBruijn64tab w
theorem tz_any (x : Nat) (h0 : x < 18446744073709551616) (w : World) (h : TZ w) : Calls Tryd.prog 46 #[.int .u64 (x : Nat)] w fun e w' => e = .returned (.int .i64 ((Lib.ctz 64 x : Nat) : Int)) ∧ w' = w :=
  Any7.bits_TrailingZeros64 Tryd.laysTZ x h0 w (fun _ => h)
theorem TZ.same {w w' : World} (h : TZ w) (e : w'.heap[Tryd.laysTZ_ren.g 1]? = w.heap[Tryd.laysTZ_ren.g 1]?) : TZ w' := fun j hj => by
  rw [World.cell?_of_block (w := w) (a := ⟨Tryd.laysTZ_ren.g 1, j, none⟩) e]
  exact h j hj
theorem TZ.below {w w' : World} {m : Nat} (h : TZ w) (hb : Below m w w') (hm : Tryd.laysTZ_ren.g 1 < m) : TZ w' := h.same (hb.block _ hm)

theorem idx8 (g : Nat → Nat) (i : Nat) (h : i < 8) (W : World) : (Instr.index 59 (.agg #[.int .u64 (g 0 : Nat), .int .u64 (g 1 : Nat), .int .u64 (g 2 : Nat), .int .u64 (g 3 : Nat), .int .u64 (g 4 : Nat), .int .u64 (g 5 : Nat), .int .u64 (g 6 : Nat), .int .u64 (g 7 : Nat)]) (.int .i64 (i : Int))).run Tryd.prog W = .ok (.int .u64 (g i : Nat)) W := by
  obtain rfl | rfl | rfl | rfl | rfl | rfl | rfl | rfl : i = 0 ∨ i = 1 ∨ i = 2 ∨ i = 3 ∨ i = 4 ∨ i = 5 ∨ i = 6 ∨ i = 7 := by omega
  all_goals kernel_rfl

set_option maxHeartbeats 4000000 in
set_option maxRecDepth 100000 in
theorem list_any (g : Nat → Nat) (hf : Fit g) (w : World) (htz : TZ w) (h0 : Tryd.laysTZ_ren.g 1 < w.heap.size) :
    Calls Tryd.prog 22 #[ps8 g] w fun e w' => ∃ v', e = .returned v' ∧ w'.ownsRow w.heap.size 3 1 v' (blN g 512).length (((blN g 512).map Int.ofNat).map mI) ∧ Below w.heap.size w w' := by
  unfold ps8
  have HTZ : Hid (∀ W, Below w.heap.size w W → TZ W) := fun W hW => htz.below hW h0
  have HF := hide hf
  have hB0 := below1 w (.cells #[.int .u64 (g 0 : Nat), .int .u64 (g 1 : Nat), .int .u64 (g 2 : Nat), .int .u64 (g 3 : Nat), .int .u64 (g 4 : Nat), .int .u64 (g 5 : Nat), .int .u64 (g 6 : Nat), .int .u64 (g 7 : Nat)] 59)
  clear htz hf
  go_enter Tryd.func22, Tryd.ntmps22
  go_wp2_with fail
  go_loopw [3, 7] (fun ov iv wr => ∃ i : Nat, i ≤ 8 ∧ iv = .int .i64 i ∧ wr.ownsRow w.heap.size 3 1 ov (blN g (64 * i)).length (((blN g (64 * i)).map Int.ofNat).map mI) ∧ Below w.heap.size w wr) (fun _ iv _ => 8 - (intOf iv).toNat)
  case atStart => exact ⟨0, by omega, rfl, World.ownsRow_nil _ _ _ _, hB0⟩
  case round =>
    clear hB0
    obtain ⟨i, hi, rfl, hown, hb⟩ := hrel
    obtain ⟨oa, oc, rfl⟩ := own_is hown
    have HO := hide hown
    clear hown
    by_cases hlt : i < 8
    · have hlt' : (i : Int) < 8 := by omega
      have hix := idx8 g i hlt
      have hgi := unhide HF i
      have HGI := hide (blN_next g i)
      have hbl := blN_len g (64 * i)
      clear HF
      go_wp2_with fail
      go_loopw [3, 5] (fun ov xv wr => ∃ (Y : List Nat) (x : Nat), xv = .int .u64 x ∧ x < 18446744073709551616 ∧ Y.length + (bitsOf x).length ≤ 1000 ∧ blN g (64 * (i + 1)) = Y ++ (bitsOf x).map (64 * i + ·) ∧ wr.ownsRow w.heap.size 3 1 ov Y.length ((Y.map Int.ofNat).map mI) ∧ Below w.heap.size w wr) (fun _ xv _ => (intOf xv).toNat)
      case atStart => exact ⟨blN g (64 * i), g i, rfl, hgi, by have := bits_len (g i); omega, unhide HGI, unhide HO, hb⟩
      case round =>
        clear HO hb HGI hgi
        obtain ⟨Y, x, rfl, hx, hDl, hE, hown, hb⟩ := hrel
        obtain ⟨oa, oc, rfl⟩ := own_is hown
        by_cases hx0 : x = 0
        · subst hx0
          rw [bits_nil, List.map_nil, List.append_nil] at hE
          subst hE
          have HO := hide hown
          clear hown
          go_wp2
          go_roundw
          case rel => exact ⟨i + 1, by omega, by go_num, unhide HO, hb⟩
          case measure => simp [intOf]; omega
        · obtain ⟨n1, n2, n3⟩ := bits_next x hx0 hx
          have hx1 : ((x : Int) != 0) = true := by simp; omega
          have hx2 : ((x : Int) == 0) = false := by simp; omega
          have a1 : IntKind.u64.wrap ((x : Int) - 1) = ((x - 1 : Nat) : Int) := by rw [IntKind.wrap_u64]; omega
          obtain ⟨x', hx'⟩ : ∃ x', x' = x &&& (x - 1) := ⟨_, rfl⟩
          have a2 := bits_and_u64_nat x (x - 1) hx (by omega)
          rw [← hx'] at a2 n3 n1
          have HO := hide hown
          obtain ⟨k, hk⟩ : ∃ k, k = Lib.ctz 64 x := ⟨_, rfl⟩
          have htz := tz_any x hx wr (unhide HTZ _ hb)
          rw [← hk] at htz n2 n1
          have HT := hide htz
          have a3 : IntKind.i64.wrap ((i : Int) * 64) = (i : Int) * 64 := k64i (by omega) (by omega)
          have a4 : IntKind.i64.wrap ((i : Int) * 64 + (k : Int)) = (i : Int) * 64 + (k : Int) := k64i (by omega) (by omega)
          have hl9 : Y.length ≤ 1000 := by omega
          have HL : Hid ((Y ++ [64 * i + k]).length + (bitsOf x').length ≤ 1000) := by show _ ≤ _; rw [n1] at hDl; simp only [List.length_cons, List.length_append, List.length_nil] at hDl ⊢; omega
          have HE : Hid (blN g (64 * (i + 1)) = (Y ++ [64 * i + k]) ++ (bitsOf x').map (64 * i + ·)) := by show _ = _; rw [hE, n1]; simp
          have HM : Hid (((Y ++ [64 * i + k]).map Int.ofNat).map mI = (Y.map Int.ofNat).map mI ++ [.int .i64 ((i : Int) * 64 + (k : Int))]) := by show _ = _; simp [mI]; omega
          have hsz1 := hb.size
          obtain ⟨i0, hi2, hz0, hz1, hz2⟩ := info_parts Tryd.zinInt
          clear hown hE n1 htz hk hx' hDl
          go_wp2_with fail
          refine (unhide HT).mono ?_
          rintro e w2 ⟨rfl, rfl⟩
          go_wp2_with (at_builtin; refine wpList_append_own _ rfl _ _ 27 rfl w.heap.size 3 i0 (.int .i64 0) 1 8 Tryd.underlying27 hi2 hz0 hz1 hz2 rfl (by decide) _ _ _ rfl (World.ownsRow.alloc (w := w2) (unhide HO) _) ⟨w2.heap.size, 0, none⟩ 1 1 [.int .i64 ((i : Int) * 64 + (k : Int))] rfl rfl (cell_1 (by simp)) (fun u' hu => by simp at hu; subst hu; rfl) (by unfold maxLen; omega) (by omega) (by rw [sz_alloc]; omega) ?_)
          intro v' w3 h5 hg5 _
          have h5' : w3.ownsRow w.heap.size 3 1 v' ((Y.map Int.ofNat).length + 1) ((Y.map Int.ofNat).map mI ++ [.int .i64 ((i : Int) * 64 + (k : Int))]) := by rw [List.length_map, List.map_map]; exact h5
          have hst := grow_int (os := Y.map Int.ofNat) (by rw [List.length_map]; exact unhide HO) hsz1 (pushd_alloc w2 _) h5' hg5
          have HR : Hid (w3.ownsRow w.heap.size 3 1 v' (Y ++ [64 * i + k]).length (((Y ++ [64 * i + k]).map Int.ofNat).map mI)) := by
            have h := h5'
            rw [← unhide HM, List.length_map] at h
            show World.ownsRow _ _ _ _ _ _ _
            rw [List.length_append]
            exact h
          have HB3 := hide (hb.trans hst.2)
          clear h5 hg5 h5' hst
          go_wp2
          go_roundw
          case rel => exact ⟨Y ++ [64 * i + k], x', by go_num, by omega, unhide HL, unhide HE, unhide HR, unhide HB3⟩
          case measure => simp [intOf]; omega
    · obtain rfl : i = 8 := by omega
      go_wp2
      go_ret
      exact ⟨_, rfl, unhide HO, hb⟩

end Go.Proofs.YtijejbdpagbmpaaDoor
