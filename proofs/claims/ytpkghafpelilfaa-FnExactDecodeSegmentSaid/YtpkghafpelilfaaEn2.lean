import Derived.Test.YtpkghafpelilfaaEn1
namespace Go.Proofs.Ytpkghafpelilfaa
open Go.RowKit

/-- Xor of numbers that are not negative. -/
def xr (h b : Int) : Int := ((h.toNat ^^^ b.toNat : Nat) : Int)
theorem xr_bounds {h b : Int} (h1 : h < 4294967296) (b1 : b ≤ 255) : 0 ≤ xr h b ∧ xr h b < 4294967296 := by
  unfold xr
  refine ⟨by omega, ?_⟩
  have : h.toNat ^^^ b.toNat < 2 ^ 32 := Nat.xor_lt_two_pow (by omega) (by omega)
  omega
/-- One byte more under the checksum. -/
def ckS (h b : Int) : Int := (xr h b * 16777619) % 4294967296
theorem ckS_bounds (h b : Int) : 0 ≤ ckS h b ∧ ckS h b < 4294967296 := by unfold ckS; omega
/-- The checksum. -/
def ck (xs : List Int) : Int := xs.foldl ckS 2166136261
theorem ck_bounds (xs : List Int) : 0 ≤ ck xs ∧ ck xs < 4294967296 := by
  unfold ck
  rcases List.eq_nil_or_concat xs with rfl | ⟨l, a, rfl⟩
  · simp
  · rw [List.concat_eq_append, List.foldl_append]
    exact ckS_bounds _ _
theorem ck_next {xs : List Int} {i : Nat} (h : i < xs.length) : ck (xs.take (i + 1)) = ckS (ck (xs.take i)) (xs[i]?.getD 0) := by
  unfold ck
  rw [List.take_add_one, List.foldl_append, List.getElem?_eq_getElem h]
  rfl
/-- Its four bytes. -/
def ckB (h : Int) : List Int := [h / 16777216, h / 65536 % 256, h / 256 % 256, h % 256]

theorem bits_xor64 {h b : Int} (h0 : 0 ≤ h) (h1 : h < 4294967296) (b0 : 0 ≤ b) (b1 : b ≤ 255) : bits .xor .i64 h b = xr h b := by
  have hb := xr_bounds h1 b1
  unfold xr at hb
  have e1 : (BitVec.ofInt 64 h).toNat = h.toNat := by rw [BitVec.toNat_ofInt]; omega
  have e2 : (BitVec.ofInt 64 b).toNat = b.toNat := by rw [BitVec.toNat_ofInt]; omega
  show IntKind.i64.wrap ((BitVec.ofInt 64 h ^^^ BitVec.ofInt 64 b).toNat : Int) = xr h b
  rw [BitVec.toNat_xor, e1, e2, k64i (by omega) (by omega)]
  rfl
theorem bits_xor32 {h b : Int} (h0 : 0 ≤ h) (h1 : h < 4294967296) (b0 : 0 ≤ b) (b1 : b ≤ 255) : bits .xor .u32 h b = xr h b := by
  have hb := xr_bounds h1 b1
  unfold xr at hb
  have e1 : (BitVec.ofInt 32 h).toNat = h.toNat := by rw [BitVec.toNat_ofInt]; omega
  have e2 : (BitVec.ofInt 32 b).toNat = b.toNat := by rw [BitVec.toNat_ofInt]; omega
  show IntKind.u32.wrap ((BitVec.ofInt 32 h ^^^ BitVec.ofInt 32 b).toNat : Int) = xr h b
  rw [BitVec.toNat_xor, e1, e2]
  show ((h.toNat ^^^ b.toNat : Nat) : Int) % 4294967296 = xr h b
  rw [Int.emod_eq_of_lt (by omega) (by omega)]
  rfl

set_option maxHeartbeats 2000000 in
set_option maxRecDepth 100000 in
theorem l4checksum_any (v : Value) (xs : List Int) (w : World) (hv : SlAt mB 0 0 w.heap.size w v xs) (hb : Bytes xs) :
    Calls Try.prog 47 #[v] w fun e w' => (∃ v', e = .returned v' ∧ w'.ownsRow w.heap.size 5 1 v' 4 ((ckB (ck xs)).map mB)) ∧ Below w.heap.size w w' := by
  have HB := hide hb
  obtain ⟨a, cap, rfl, hl, hc⟩ := hv
  unfold maxLen at hl
  clear hb
  go_enter Try.func47, Try.ntmps47
  go_wp2
  go_loop [3, 4] (fun hv iv => ∃ k : Nat, k ≤ xs.length ∧ iv = .int .i64 k ∧ hv = .int .i64 (ck (xs.take k))) (fun _ i => xs.length - (intOf i).toNat)
  case atStart => exact ⟨0, Nat.zero_le _, rfl, rfl⟩
  case round =>
    obtain ⟨k, hk, rfl, rfl⟩ := hrel
    by_cases hlt : k < xs.length
    · have hlt' : (k : Int) < (xs.length : Int) := by omega
      obtain ⟨b, off, rfl, -, -, hcell⟩ := hc (by omega)
      have hx := hcell k hlt
      unfold mB at hx
      have hN := hide (ck_next hlt)
      have hbk := unhide HB k
      have hck := ck_bounds (xs.take k)
      clear hcell hc
      generalize xs[k]?.getD 0 = x at *
      generalize ck (xs.take k) = h at *
      have e1 := bits_xor64 hck.1 hck.2 hbk.1 hbk.2
      have hxr := xr_bounds (h := h) hck.2 hbk.2
      go_wp2
      go_round
      case rel => exact ⟨k + 1, by omega, by go_num, by rw [unhide hN]; rfl⟩
      case measure => simp [intOf]; omega
    · obtain rfl : k = xs.length := by omega
      rw [List.take_length]
      have hck := ck_bounds xs
      obtain ⟨h, hh⟩ : ∃ h, h = ck xs := ⟨_, rfl⟩
      rw [← hh] at hck ⊢
      have HH := hide hh
      clear hh
      go_wp2
      go_ret
      refine ⟨⟨_, rfl, ?_⟩, below1 _ _⟩
      rw [← unhide HH]
      exact World.ownsRow_lit w #[.int .u8 (h / 16777216), .int .u8 (h / 65536 % 256), .int .u8 (h / 256 % 256), .int .u8 (h % 256)] 4 (Nat.le_refl _) (by unfold maxLen; omega) rfl

set_option maxHeartbeats 2000000 in
set_option maxRecDepth 100000 in
theorem checksum_any (v : Value) (xs : List Int) (N : Nat) (w : World) (hv : SlAt mB 0 0 N w v xs) (hb : Bytes xs) :
    Calls Try.prog 68 #[v] w fun e w' => e = .returned (.int .u32 (ck xs)) ∧ w' = w := by
  have HB := hide hb
  obtain ⟨a, cap, rfl, hl, hc⟩ := hv
  unfold maxLen at hl
  clear hb
  go_enter Try.func68, Try.ntmps68
  go_wp2
  go_loop [3, 8] (fun hv iv => ∃ k : Nat, k ≤ xs.length ∧ iv = .int .i64 k ∧ hv = .int .u32 (ck (xs.take k))) (fun _ i => xs.length - (intOf i).toNat)
  case atStart => exact ⟨0, Nat.zero_le _, rfl, rfl⟩
  case round =>
    obtain ⟨k, hk, rfl, rfl⟩ := hrel
    by_cases hlt : k < xs.length
    · have hlt' : (k : Int) < (xs.length : Int) := by omega
      obtain ⟨b, off, rfl, -, -, hcell⟩ := hc (by omega)
      have hx := hcell k hlt
      unfold mB at hx
      have hN := hide (ck_next hlt)
      have hbk := unhide HB k
      have hck := ck_bounds (xs.take k)
      clear hcell hc
      generalize xs[k]?.getD 0 = x at *
      generalize ck (xs.take k) = h at *
      have e1 := bits_xor32 hck.1 hck.2 hbk.1 hbk.2
      have hxr := xr_bounds (h := h) hck.2 hbk.2
      go_wp2
      go_round
      case rel => exact ⟨k + 1, by omega, by go_num, by rw [unhide hN]; rfl⟩
      case measure => simp [intOf]; omega
    · obtain rfl : k = xs.length := by omega
      rw [List.take_length]
      go_wp2
      go_ret
      exact ⟨rfl, rfl⟩

end Go.Proofs.Ytpkghafpelilfaa
