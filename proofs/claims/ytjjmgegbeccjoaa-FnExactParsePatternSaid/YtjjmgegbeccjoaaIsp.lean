import Derived.Test.YtjjmgegbeccjoaaPk13
import Derived.Lib.Bytealg
namespace Go.Proofs.Ytjjmgegbeccjoaa
open Go.RowKit


theorem spc_ix : ∀ n : Nat, n < 256 → ((0 ≤ Lib.indexByte ([92, 46, 91, 93, 40, 41, 123, 125, 124, 42, 43, 63, 94, 36] : List UInt8) n.toUInt8) ↔ ((n : Int) ∈ spcL)) := by decide +kernel

set_option maxHeartbeats 1000000 in
set_option maxRecDepth 100000 in
theorem slIx (s : ByteArray) (c R : Int) (w : World) (hr : (Extern.BytealgIndexByte.indexByte #[.string s, .int .u8 c]).run Try.prog w = .ok (.int .i64 R) w) :
    Calls Try.prog 74 #[.string s, .int .u8 c] w fun e w' => e = .returned (.int .i64 R) ∧ w' = w := by
  have HR := hide hr
  clear hr
  go_enter Try.func74, Try.ntmps74
  go_wp2
  rw [run_callFunc_extern Try.func75 (by kernel_rfl) (by kernel_rfl) (by kernel_rfl) (e := Extern.BytealgIndexByte.indexByte) (by kernel_rfl), unhide HR]
  simp only [Result.andThen]
  rw [Oper.upon_value]
  go_wp2
  go_ret
  exact ⟨rfl, rfl⟩
set_option maxHeartbeats 1000000 in
set_option maxRecDepth 100000 in
theorem strIx (s : ByteArray) (c R : Int) (w : World) (hr : (Extern.BytealgIndexByte.indexByte #[.string s, .int .u8 c]).run Try.prog w = .ok (.int .i64 R) w) :
    Calls Try.prog 70 #[.string s, .int .u8 c] w fun e w' => e = .returned (.int .i64 R) ∧ w' = w := by
  have HR := hide hr
  clear hr
  go_enter Try.func70, Try.ntmps70
  go_wp2_with fail
  refine (slIx s c R _ (unhide HR)).mono ?_
  rintro e w1 ⟨rfl, rfl⟩
  go_wp2
  go_ret
  exact ⟨rfl, rfl⟩

set_option maxHeartbeats 1000000 in
set_option maxRecDepth 100000 in
theorem isSpecial_any (b : Int) (w : World) (h0 : 0 ≤ b) (h1 : b ≤ 255) :
    Calls Try.prog 61 #[.int .i64 b] w fun e w' => RetB e (b ∈ spcL) ∧ w' = w := by
  obtain ⟨n, rfl⟩ := Int.eq_ofNat_of_zero_le h0
  have hn := spc_ix n (by omega)
  rw [← hn]
  have hw8 : IntKind.u8.wrap (n : Int) = (n : Int) := by simp [IntKind.wrap, IntKind.bits, IntKind.signed]; omega
  have hr : (Extern.BytealgIndexByte.indexByte #[.string { data := #[92, 46, 91, 93, 40, 41, 123, 125, 124, 42, 43, 63, 94, 36] }, .int .u8 (n : Int)]).run Try.prog w = .ok (.int .i64 (Lib.indexByte ([92, 46, 91, 93, 40, 41, 123, 125, 124, 42, 43, 63, 94, 36] : List UInt8) n.toUInt8)) w := Lib.run_indexByteString _ _ w
  generalize Lib.indexByte ([92, 46, 91, 93, 40, 41, 123, 125, 124, 42, 43, 63, 94, 36] : List UInt8) n.toUInt8 = R at *
  have HR := hide hr
  clear hr hn
  go_enter Try.func61, Try.ntmps61
  go_wp2_with fail
  refine (strIx _ _ R _ (unhide HR)).mono ?_
  rintro e w1 ⟨rfl, rfl⟩
  go_wp2
  go_ret
  exact ⟨RetB.of (by simp), rfl⟩

end Go.Proofs.Ytjjmgegbeccjoaa
