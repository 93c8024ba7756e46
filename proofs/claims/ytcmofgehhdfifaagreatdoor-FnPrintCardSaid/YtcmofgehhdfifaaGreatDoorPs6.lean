import Derived.Test.YtcmofgehhdfifaaGreatDoorPs4
import Derived.Test.YtcmofgehhdfifaaGreatDoorPk10
namespace Go.Proofs.YtcmofgehhdfifaaGreatDoor
open Go.RowKit
theorem SlAt.low {α : Type} {mk : α → Value} {d : α} {lo n : Nat} {w : World} {v : Value} {xs : List α} (h : SlAt mk d lo n w v xs) : SlAt mk d 0 n w v xs := by
  obtain ⟨a, c, e, hl, hc⟩ := h
  exact ⟨a, c, e, hl, fun h0 => by obtain ⟨b, off, h1, -, h3⟩ := hc h0; exact ⟨b, off, h1, Nat.zero_le _, h3⟩⟩
theorem SlAt.obk {α : Type} {mk : α → Value} {d : α} {lo n M : Nat} {w w' : World} {v : Value} {xs : List α} (h : SlAt mk d lo n w v xs) (hO : Obk M w w') (hM : M < lo) : SlAt mk d lo n w' v xs := by
  obtain ⟨a, c, e, hl, hc⟩ := h
  refine ⟨a, c, e, hl, fun h0 => ?_⟩
  obtain ⟨b, off, h1, h2, h3, h4⟩ := hc h0
  refine ⟨b, off, h1, h2, h3, fun i hi => ?_⟩
  rw [← h4 i hi]
  simp [World.cell?, hO.block b (by omega)]
theorem SlAt.up {α : Type} {mk : α → Value} {d : α} {lo n m : Nat} {w : World} {v : Value} {xs : List α} (h : SlAt mk d lo n w v xs) (hm : n ≤ m) : SlAt mk d lo m w v xs := by
  obtain ⟨a, c, e, hl, hc⟩ := h
  exact ⟨a, c, e, hl, fun h0 => by obtain ⟨b, off, h1, h2, h3, h4⟩ := hc h0; exact ⟨b, off, h1, h2, by omega, h4⟩⟩
theorem inR_has {cs : List Int} (hev : cs.length % 2 = 0) (b : Nat) : inPs cs (b : Int) ↔ inR cs b = true := by
  rw [inR_inP (cs.length / 2) cs b (by omega), inP_iff]
  unfold inPs
  constructor
  · rintro ⟨i, h1, h2⟩; exact ⟨i, by omega, h2⟩
  · rintro ⟨i, h1, h2⟩; exact ⟨i, by omega, h2⟩
theorem sesB_ev {s r cs : List Int} (h : sesB s = some (cs, r)) : cs.length % 2 = 0 := by
  match s, h with
  | c :: t, h =>
    rw [sesB] at h
    split at h
    · exact (canon_sesc h).1
    · cases h
theorem mem1_no {xs : List Int} {j : Nat} {p : Nat → Bool} (h1 : sesB (xs.drop j) = none) (h2 : chr1 (xs.drop j) = none) : mem1 p (xs.drop j) = none := by unfold mem1; rw [h1]; simp only; rw [h2]; rfl
theorem mem1_es {xs : List Int} {j : Nat} {p : Nat → Bool} {cs : List Int} {r : List Int} (h1 : sesB (xs.drop j) = some (cs, r)) : mem1 p (xs.drop j) = some (fun b => p b || inR cs b, r) := by unfold mem1; rw [h1]
theorem mem1_a {s r : List Int} {lo : Int} {p : Nat → Bool} (h : sesB s = none) (hc : chr1 s = some (lo, r)) (hr : ∀ t, r ≠ 45 :: t) : mem1 p s = some (rngB p lo lo, r) := by
  unfold mem1
  rw [h]
  simp only
  rw [hc, Option.bind_some]
  cases r with
  | nil => rfl
  | cons c t => rw [mem2, if_neg (fun e => hr t (by rw [e]))]
def ClM (e : Ending) (w w' : World) (xs : List Int) (i : Nat) : Prop := Below w.heap.size w w' ∧ ((cls (xs.drop (i + 1)) = none ∧ e = .returned (.tuple #[.slice none 0 0, .int .i64 0])) ∨ ∃ (cs : List Int) (v : Value) (m : Int) (n : Nat), cls (xs.drop (i + 1)) = some (cs, xs.drop (i + n)) ∧ 1 ≤ n ∧ i + n ≤ xs.length ∧ e = .returned (.tuple #[v, .int .i64 m]) ∧ m = (n : Int) ∧ SlAt mI 0 w.heap.size w'.heap.size w' v cs ∧ cs.length ≤ 600)
theorem cnn_len (p : Nat → Bool) : (cnn p).length ≤ 600 := by have := cnP_len p 256; unfold cnP at this; unfold cnn; omega
theorem SlAt.lo {α : Type} {mk : α → Value} {d : α} {lo lo' n : Nat} {w : World} {v : Value} {xs : List α} (h : SlAt mk d lo n w v xs) (hl : lo' ≤ lo) : SlAt mk d lo' n w v xs := by
  obtain ⟨a, c, e, hm, hc⟩ := h
  exact ⟨a, c, e, hm, fun h0 => by obtain ⟨b, off, h1, h2, h3⟩ := hc h0; exact ⟨b, off, h1, by omega, h3⟩⟩
end Go.Proofs.YtcmofgehhdfifaaGreatDoor
