import Derived.Test.YtkajdhliejjohaaP9
import Derived.Lib.AppendStr
namespace Go.Proofs.Ytkajdhliejjohaa
open Go.RowKit

/-- Bytes that are still to be read. -/
def Cod (xs : List Int) : Prop := ∀ x ∈ xs, 0 ≤ x ∧ x ≤ 255
theorem Cod.tail {xs : List Int} (h : Cod xs) : Cod xs.tail := fun x hx => h x (List.mem_of_mem_tail hx)
theorem Cod.head {xs : List Int} (h : Cod xs) : 0 ≤ xs.headD 0 ∧ xs.headD 0 ≤ 255 := by
  cases xs with
  | nil => simp
  | cons x r => exact h x (List.mem_cons_self ..)

/-- The odd bytes. -/
def oddB : List Int := [92, 46, 91, 93, 40, 41, 124, 42, 43, 63, 123, 125, 94, 36, 45, 10, 9, 13, 32, 126, 0, 127, 128, 255, 33]
theorem oddB_byte : ∀ k, k < 25 → 0 ≤ oddB.getD k 0 ∧ oddB.getD k 0 ≤ 255 := by decide
theorem oddB_eq (k : Nat) (h : k < 25) : wrap64 (((ByteArray.mk #[92, 46, 91, 93, 40, 41, 124, 42, 43, 63, 123, 125, 94, 36, 45, 10, 9, 13, 32, 126, 0, 127, 128, 255, 33])[k]'h).toNat : Int) = oddB.getD k 0 := by
  have e : (((ByteArray.mk #[92, 46, 91, 93, 40, 41, 124, 42, 43, 63, 123, 125, 94, 36, 45, 10, 9, 13, 32, 126, 0, 127, 128, 255, 33])[k]'h).toNat : Int) = oddB.getD k 0 := by
    have H : ∀ k : Fin 25, (((#[92, 46, 91, 93, 40, 41, 124, 42, 43, 63, 123, 125, 94, 36, 45, 10, 9, 13, 32, 126, 0, 127, 128, 255, 33] : Array UInt8)[k.1]'k.2).toNat : Int) = oddB.getD k.1 0 := by decide
    exact H ⟨k, h⟩
  have hb := oddB_byte k h
  rw [e]
  unfold wrap64; omega

/-- The byte that is drawn from a byte of the code. -/
def dB (y : Int) : Int := if y < 200 then 97 + y % 3 else if y < 215 then 48 + y % 3 else oddB.getD (y % 25).toNat 0
theorem dB_byte {y : Int} : 0 ≤ dB y ∧ dB y ≤ 255 := by
  unfold dB
  split
  · omega
  · split
    · omega
    · exact oddB_byte _ (by omega)

theorem l1drawByte_any (N D : Nat) (xs : List Int) (w : World) (h : CdAt N D w xs) (hx : Cod xs) :
    Calls Try.prog 60 #[.pointer (some ⟨D, 0, none⟩)] w fun e w' => e = .returned (.int .i64 (dB (xs.headD 0))) ∧ CdAt N D w' xs.tail ∧ Only D w w' := by
  have H := hide h
  have HX := hide hx
  have hh := hx.head
  obtain ⟨y, hy⟩ : ∃ y, xs.headD 0 = y := ⟨_, rfl⟩
  rw [hy] at hh ⊢
  have HY := hide hy
  clear hy hx h
  by_cases h1 : y < 200
  · rw [show dB y = 97 + y % 3 from if_pos h1]
    go_enter Try.func60, Try.ntmps60
    go_wp2_with fail
    refine (next_any N D xs w (unhide H) (unhide HX)).mono ?_
    rintro e w1 ⟨he, hc, ho⟩
    rw [unhide HY] at he
    subst he
    go_wp2
    go_ret
    exact ⟨rfl, hc, ho⟩
  · by_cases h2 : y < 215
    · rw [show dB y = 48 + y % 3 from (if_neg h1).trans (if_pos h2)]
      go_enter Try.func60, Try.ntmps60
      go_wp2_with fail
      refine (next_any N D xs w (unhide H) (unhide HX)).mono ?_
      rintro e w1 ⟨he, hc, ho⟩
      rw [unhide HY] at he
      subst he
      go_wp2
      go_ret
      exact ⟨rfl, hc, ho⟩
    · have hk : (y % 25).toNat < 25 := by omega
      rw [show dB y = oddB.getD (y % 25).toNat 0 from (if_neg h1).trans (if_neg h2)]
      go_enter Try.func60, Try.ntmps60
      go_wp2_with fail
      refine (next_any N D xs w (unhide H) (unhide HX)).mono ?_
      rintro e w1 ⟨he, hc, ho⟩
      rw [unhide HY] at he
      subst he
      go_wp2
      rw [oddB_eq _ hk]
      go_ret
      exact ⟨rfl, hc, ho⟩

/-- The word of a number. -/
def wdL (c : Int) : List Int :=
  if c % 10 = 0 then [101, 114, 114, 111, 114] else if c % 10 = 1 then [119, 97, 114, 110] else if c % 10 = 2 then [100, 105, 115, 107, 32, 102, 117, 108, 108]
  else if c % 10 = 3 then [97, 98, 99] else if c % 10 = 4 then [99, 97, 98, 97, 98] else if c % 10 = 5 then [114, 101, 97, 100, 32, 49, 55] else if c % 10 = 6 then [105, 111]
  else if c % 10 = 7 then [114, 101, 114, 114, 111, 114] else if c % 10 = 8 then [98, 99, 97, 98, 99] else [97, 46, 99]
theorem wdL_len (c : Int) : (wdL c).length ≤ 9 := by
  unfold wdL
  repeat' split
  all_goals decide
theorem wdL_byte (c : Int) : Cod (wdL c) := by
  unfold wdL Cod
  repeat' split
  all_goals decide
/-- A string of these bytes. -/
def StrOf (s : ByteArray) (xs : List Int) : Prop := Go.Lib.strCells s = xs.map mB

set_option maxHeartbeats 4000000 in
theorem l4word_any (c : Int) (w : World) (h0 : 0 ≤ c) (h1 : c ≤ 255) :
    Calls Try.prog 61 #[.int .i64 c] w fun e w' => (∃ s, e = .returned (.string s) ∧ StrOf s (wdL c)) ∧ w' = w := by
  obtain ⟨k, hk, k0, k1⟩ : ∃ k, c % 10 = k ∧ 0 ≤ k ∧ k ≤ 9 := ⟨_, rfl, by omega, by omega⟩
  have e : k = 0 ∨ k = 1 ∨ k = 2 ∨ k = 3 ∨ k = 4 ∨ k = 5 ∨ k = 6 ∨ k = 7 ∨ k = 8 ∨ k = 9 := by omega
  clear k0 k1
  rcases e with rfl | rfl | rfl | rfl | rfl | rfl | rfl | rfl | rfl | rfl
  all_goals
    have hw : Hid (wdL c = wdL c) := rfl
    unfold wdL
    simp only [hk]
    go_enter Try.func61, Try.ntmps61
    go_wp2
    go_ret
    exact ⟨⟨_, rfl, rfl⟩, rfl⟩

end Go.Proofs.Ytkajdhliejjohaa
