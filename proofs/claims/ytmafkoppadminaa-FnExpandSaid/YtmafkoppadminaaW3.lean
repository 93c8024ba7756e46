import Derived.Test.YtmafkoppadminaaW2
import Derived.Test.YtmafkoppadminaaPk1
import Derived.Test.YtmafkoppadminaaPk3
namespace Go.Proofs.Ytmafkoppadminaa
open Go.RowKit
theorem inP_iff (xs : List Int) (k b : Nat) : InP xs k b = true ↔ ∃ j : Nat, j < k ∧ xs[2 * j]?.getD 0 ≤ (b : Int) ∧ (b : Int) ≤ xs[2 * j + 1]?.getD 0 := by
  induction k with
  | zero => simp [InP]
  | succ k ih =>
    simp only [InP, Bool.or_eq_true, decide_eq_true_eq, ih]
    constructor
    · rintro (⟨j, h1, h2⟩ | h)
      · exact ⟨j, by omega, h2⟩
      · exact ⟨k, by omega, h⟩
    · rintro ⟨j, h1, h2⟩
      by_cases e : j = k
      · subst e; exact Or.inr h2
      · exact Or.inl ⟨j, by omega, h2⟩
theorem canon_mono {xs : List Int} (h : Canon xs) (j : Nat) : ∀ d : Nat, 2 * (j + d + 1) < xs.length → xs[2 * j + 1]?.getD 0 + 2 ≤ xs[2 * (j + d + 1)]?.getD 0 := by
  intro d
  induction d with
  | zero =>
    intro hlt
    have h1 := (h.2.2 (j + 1) (by omega)).2 (by omega)
    rw [show 2 * (j + 1) - 1 = 2 * j + 1 by omega] at h1
    rw [show j + 0 + 1 = j + 1 by omega]
    omega
  | succ d ih =>
    intro hlt
    have h0 := ih (by omega)
    have h1 := (h.2.2 (j + d + 1 + 1) (by omega)).2 (by omega)
    have h2 := (h.2.2 (j + d + 1) (by omega)).1
    rw [show 2 * (j + d + 1 + 1) - 1 = 2 * (j + d + 1) + 1 by omega] at h1
    rw [show j + (d + 1) + 1 = j + d + 1 + 1 by omega]
    omega
def cut (xs : List Int) (m b : Nat) : List Int := (xs.take (2 * m)).set (2 * m - 1) (min (xs[2 * m - 1]?.getD 0) ((b : Int) - 1))
structure Cut (xs : List Int) (m b : Nat) : Prop where
  le : 2 * m ≤ xs.length
  lo : 0 < m → xs[2 * (m - 1)]?.getD 0 < (b : Int)
  nx : 2 * m < xs.length → (b : Int) ≤ xs[2 * m]?.getD 0
theorem cut_len (xs : List Int) (m b : Nat) (h : 2 * m ≤ xs.length) : (cut xs m b).length = 2 * m := by simp [cut]; omega
theorem cut_last {xs : List Int} {m b : Nat} (h : 2 * m ≤ xs.length) (hm : 0 < m) : (cut xs m b)[2 * m - 1]?.getD 0 = min (xs[2 * m - 1]?.getD 0) ((b : Int) - 1) := by
  unfold cut
  rw [List.getElem?_set_self (by simp; omega)]
  rfl
theorem cut_same {xs : List Int} {m b : Nat} (h : 2 * m ≤ xs.length) (hl : 0 < m → xs[2 * m - 1]?.getD 0 < (b : Int)) : cut xs m b = xs.take (2 * m) := by
  unfold cut
  by_cases hm : 0 < m
  · have h1 := hl hm
    rw [show min (xs[2 * m - 1]?.getD 0) ((b : Int) - 1) = xs[2 * m - 1]?.getD 0 by omega]
    apply List.ext_getElem?
    intro i
    by_cases e : 2 * m - 1 = i
    · subst e
      rw [List.getElem?_set_self (by simp; omega), List.getElem?_take_of_lt (by omega), ← getD_of_lt (by omega)]
    · rw [List.getElem?_set_ne e]
  · obtain rfl : m = 0 := by omega
    simp
theorem cut_step {xs : List Int} (hcn : Canon xs) {m b : Nat} (h : Cut xs m b) :
    (InP xs (xs.length / 2) b = false ∧ Cut xs m (b + 1) ∧ cut xs m (b + 1) = cut xs m b) ∨
    (InP xs (xs.length / 2) b = true ∧ 0 < m ∧ (cut xs m b)[2 * m - 1]?.getD 0 = (b : Int) - 1 ∧ Cut xs m (b + 1) ∧ cut xs m (b + 1) = (cut xs m b).set (2 * m - 1) b) ∨
    (InP xs (xs.length / 2) b = true ∧ (0 < m → (cut xs m b)[2 * m - 1]?.getD 0 ≠ (b : Int) - 1) ∧ Cut xs (m + 1) (b + 1) ∧ cut xs (m + 1) (b + 1) = cut xs m b ++ [(b : Int), b]) := by
  have hev := hcn.1
  have hle := h.le
  by_cases c1 : 0 < m ∧ (b : Int) ≤ xs[2 * m - 1]?.getD 0
  · obtain ⟨hm, hb⟩ := c1
    have hlo := h.lo hm
    refine Or.inr (Or.inl ⟨(inP_iff _ _ _).2 ⟨m - 1, by omega, by omega, by rw [show 2 * (m - 1) + 1 = 2 * m - 1 by omega]; exact hb⟩, hm, ?_, ⟨hle, fun _ => by have := h.lo hm; omega, fun hlt => ?_⟩, ?_⟩)
    · rw [cut_last hle hm]; omega
    · have := canon_mono hcn (m - 1) 0 (by omega)
      rw [show 2 * (m - 1) + 1 = 2 * m - 1 by omega, show m - 1 + 0 + 1 = m by omega] at this
      omega
    · unfold cut
      rw [List.set_set]
      congr 1
      omega
  · have hl : 0 < m → xs[2 * m - 1]?.getD 0 < (b : Int) := fun hm => by
      by_cases q : (b : Int) ≤ xs[2 * m - 1]?.getD 0
      · exact absurd ⟨hm, q⟩ c1
      · omega
    by_cases c2 : 2 * m < xs.length ∧ xs[2 * m]?.getD 0 = (b : Int)
    · obtain ⟨hlt, hb⟩ := c2
      have hp := (hcn.2.2 m hlt).1
      refine Or.inr (Or.inr ⟨(inP_iff _ _ _).2 ⟨m, by omega, by omega, by omega⟩, fun hm => ?_, ⟨by omega, fun _ => by rw [show m + 1 - 1 = m by omega]; omega, fun hlt2 => ?_⟩, ?_⟩)
      · rw [cut_last hle hm]
        have := canon_mono hcn (m - 1) 0 (by omega)
        rw [show 2 * (m - 1) + 1 = 2 * m - 1 by omega, show m - 1 + 0 + 1 = m by omega] at this
        omega
      · have := canon_mono hcn m 0 (by omega)
        rw [show m + 0 + 1 = m + 1 by omega] at this
        omega
      · rw [cut_same hle hl]
        unfold cut
        apply List.ext_getElem?
        intro i
        rw [show 2 * (m + 1) - 1 = 2 * m + 1 by omega, show 2 * (m + 1) = 2 * m + 2 by omega]
        by_cases e1 : i < 2 * m
        · rw [List.getElem?_set_ne (by omega), List.getElem?_take_of_lt (by omega), List.getElem?_append_left (by simp; omega), List.getElem?_take_of_lt e1]
        · rw [List.getElem?_append_right (by simp; omega), List.length_take, Nat.min_eq_left hle]
          by_cases e2 : i = 2 * m
          · subst e2
            rw [List.getElem?_set_ne (by omega), List.getElem?_take_of_lt (by omega), getD_of_lt (by omega), hb]
            simp
          · by_cases e3 : i = 2 * m + 1
            · subst e3
              rw [List.getElem?_set_self (by simp; omega), show 2 * m + 1 - 2 * m = 1 by omega, show min (xs[2 * m + 1]?.getD 0) (((b + 1 : Nat) : Int) - 1) = (b : Int) by omega]
              rfl
            · rw [List.getElem?_eq_none (by simp; omega), List.getElem?_eq_none (by simp; omega)]
    · refine Or.inl ⟨?_, ⟨hle, fun hm => by have := h.lo hm; omega, fun hlt => ?_⟩, ?_⟩
      · rw [Bool.eq_false_iff]
        intro hin
        obtain ⟨j, h1, h2, h3⟩ := (inP_iff _ _ _).1 hin
        by_cases e1 : j < m
        · by_cases e2 : j = m - 1
          · subst e2
            have := hl (by omega)
            rw [show 2 * (m - 1) + 1 = 2 * m - 1 by omega] at h3
            omega
          · have := canon_mono hcn j (m - 1 - j - 1) (by omega)
            rw [show j + (m - 1 - j - 1) + 1 = m - 1 by omega] at this
            have := h.lo (by omega)
            omega
        · by_cases e2 : j = m
          · subst e2
            have := h.nx (by omega)
            exact c2 ⟨by omega, by omega⟩
          · have h4 := canon_mono hcn m (j - m - 1) (by omega)
            rw [show m + (j - m - 1) + 1 = j by omega] at h4
            have h5 := h.nx (by omega)
            have h6 := (hcn.2.2 m (by omega)).1
            omega
      · have := h.nx hlt
        by_cases q : xs[2 * m]?.getD 0 = (b : Int)
        · exact absurd ⟨hlt, q⟩ c2
        · omega
      · rw [cut_same hle hl, cut_same hle (fun hm => by have := hl hm; omega)]
theorem cut_all {xs : List Int} (hcn : Canon xs) {m : Nat} (h : Cut xs m 256) : cut xs m 256 = xs := by
  have hev := hcn.1
  have hle := h.le
  have e : 2 * m = xs.length := by
    by_cases q : 2 * m < xs.length
    · have h1 := h.nx q
      have h2 := (hcn.2.1 (2 * m) q).2
      omega
    · omega
  rw [cut_same hle (fun hm => by have := (hcn.2.1 (2 * m - 1) (by omega)).2; omega), e, List.take_length]
theorem shr_bit (a i : Nat) (ha : a < 18446744073709551616) : (bits .and .u64 ((a : Int) / 2 ^ i) 1 == 1) = a.testBit i := by
  have h1 : (a : Int) / 2 ^ i = ((a / 2 ^ i : Nat) : Int) := by rw [Int.natCast_ediv, Int.natCast_pow]; rfl
  have h2 : a / 2 ^ i < 18446744073709551616 := Nat.lt_of_le_of_lt (Nat.div_le_self _ _) ha
  rw [h1, show (1 : Int) = ((1 : Nat) : Int) from rfl, bits_and_u64_nat _ _ h2 (by omega), Nat.and_one_is_mod, Nat.testBit_eq_decide_div_mod_eq]
  by_cases e : a / 2 ^ i % 2 = 1
  · simp [e]
  · have e0 : a / 2 ^ i % 2 = 0 := by omega
    simp [e0]
end Go.Proofs.Ytmafkoppadminaa
