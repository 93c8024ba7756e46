import Derived.Test.YtbgjgaejfkdceaaGreatEn6
import Derived.Test.YtbgjgaejfkdceaaGreatL5
import Derived.Test.YtbgjgaejfkdceaaGreatL8
import Derived.Deep.RegionHeld3
namespace Go.Proofs.YtbgjgaejfkdceaaGreat
open Go.RowKit

set_option maxHeartbeats 400000 in
theorem markByteS_big (v : Value) (xs : List Int) (k : Int) (lo n : Nat) (w : World) (hv : SlW mB 0 lo n w v xs) (k0 : 0 ≤ k) (k1 : k ≤ 4611686018427387904) (hlen : xs.length ≤ 1073741824) :
    Calls Tryz.prog 13 #[v, .int .i64 k] w fun e w' => e = .returned (.int .i64 (k + xs.length)) ∧ SlW mB 0 lo n w' v (cntB k xs.length) ∧ Chg lo n w w' := by
  obtain ⟨a, cap, rfl, hl, hc⟩ := hv
  go_enter Tryz.func13, Tryz.ntmps13
  go_wp2
  go_loopw [1, 5] (fun q i wr => ∃ m : Nat, m ≤ xs.length ∧ i = .int .i64 m ∧ q = .int .i64 (k + m) ∧ (0 < xs.length → ∃ b off, a = some ⟨b, off, none⟩ ∧ lo ≤ b ∧ b < n ∧ (∃ c t, wr.heap[b]? = some (.cells c t (0, 0))) ∧
    (∀ j : Nat, j < m → wr.cell? ⟨b, off + j, none⟩ = some (.int .u8 ((k + j) % 256))) ∧ ∀ j : Nat, m ≤ j → j < xs.length → ∃ u, wr.cell? ⟨b, off + j, none⟩ = some u) ∧ Chg lo n w wr) (fun _ i _ => xs.length - (intOf i).toNat)
  case atStart =>
    refine ⟨0, Nat.zero_le _, rfl, by simp, fun hp => ?_, Chg.refl _ _ _⟩
    obtain ⟨b, off, e, h1, h2, h3, hcell⟩ := hc hp
    exact ⟨b, off, e, h1, h2, h3, fun j hj => absurd hj (Nat.not_lt_zero _), fun j _ hj => ⟨_, hcell j hj⟩⟩
  case round =>
    obtain ⟨m, hm, rfl, rfl, hrow, hch⟩ := hrel
    by_cases hlt : m < xs.length
    · obtain ⟨b, off, rfl, h1, h2, h3, hold, hnew⟩ := hrow (by omega)
      obtain ⟨u, hu⟩ := hnew m (Nat.le_refl _) hlt
      have hf := frz (j := off + m) h3
      have hlt' : (m : Int) < (xs.length : Int) := by omega
      have H3 := hide h3
      have Hold := hide hold
      have Hnew := hide hnew
      clear h3 hold hnew hc
      go_wp2
      refine ⟨⟨m + 1, by omega, by go_num, by congr 1; omega, fun _ => ⟨b, off, rfl, h1, h2, own_put (unhide H3), fun j hj => ?_, fun j hj1 hj2 => ?_⟩, hch.put h1 h2 _⟩, by simp [intOf]; omega⟩
      · by_cases e : j = m
        · subst e
          exact put_same hu
        · rw [put_other (Or.inr (by omega))]
          exact unhide Hold j (by omega)
      · rw [put_other (Or.inr (by omega))]
        exact unhide Hnew j (by omega) hj2
    · obtain rfl : m = xs.length := by omega
      have Hrow := hide hrow
      clear hrow hc
      go_wp2
      go_ret
      refine ⟨rfl, ⟨a, cap, by rw [cntB_len], by rw [cntB_len]; exact hl, fun hp => ?_⟩, hch⟩
      rw [cntB_len] at hp
      obtain ⟨b, off, e, h1, h2, h3, hold, -⟩ := unhide Hrow hp
      refine ⟨b, off, e, h1, h2, h3, fun i hi => ?_⟩
      rw [cntB_len] at hi
      rw [hold i hi, cntB_get k _ i hi]
      rfl

set_option maxHeartbeats 400000 in
theorem heldByteS_big (v : Value) (n : Nat) (k : Int) (lo hi : Nat) (w : World) (hv : SlAt mB 0 lo hi w v (cntB k n)) (k0 : 0 ≤ k) (k1 : k ≤ 4611686018427387904) (hlen : n ≤ 1073741824) :
    Calls Tryz.prog 42 #[v, .int .i64 k] w fun e w' => e = .returned (.int .i64 (k + n)) ∧ w' = w := by
  obtain ⟨a, cap, rfl, hl, hc⟩ := hv
  rw [cntB_len] at hl hc ⊢
  go_enter Tryz.func42, Tryz.ntmps42
  go_wp2
  go_loop [1, 5] (fun q i => ∃ m : Nat, m ≤ n ∧ i = .int .i64 m ∧ q = .int .i64 (k + m)) (fun _ i => n - (intOf i).toNat)
  case atStart => exact ⟨0, Nat.zero_le _, rfl, by simp⟩
  case round =>
    obtain ⟨m, hm, rfl, rfl⟩ := hrel
    by_cases hlt : m < n
    · obtain ⟨b, off, rfl, -, -, hcell⟩ := hc (by omega)
      have hx := hcell m hlt
      rw [cntB_get k n m hlt] at hx
      unfold mB at hx
      have hlt' : (m : Int) < (n : Int) := by omega
      clear hcell hc
      go_wp2
      go_round
      case rel => exact ⟨m + 1, by omega, by go_num, by congr 1; omega⟩
      case measure => simp [intOf]; omega
    · obtain rfl : m = n := by omega
      clear hc
      go_wp2
      go_ret
      exact ⟨rfl, rfl⟩

theorem valid_enc {base : Int} {xss pss : List (List Int)} {ks : List Int} (hv : Valid base xss ks pss) (hi : SegIn base xss ks pss) : EncIn base xss ks pss := by
  obtain ⟨⟨a0, a1, a2, a3, a4⟩, hs⟩ := hv
  refine ⟨⟨a0, by omega⟩, hi.bytes, fun k hk => ?_, fun p hp x hx => ?_, hi.t1, hi.l1, hi.l2, hi.t3, by rw [hs.len]; exact Nat.le_refl _⟩
  · have h1 := (hs.keys.mem k).1 hk
    obtain ⟨i, hi1, hi2⟩ := (allT_mem xss k).1 h1
    have := tr_nonneg (hi.bytes _ (by rw [List.getElem?_eq_getElem hi1]; exact List.getElem_mem hi1)) hi2
    exact ⟨this.1, by omega⟩
  · obtain ⟨j, hj, rfl⟩ := List.getElem_of_mem hp
    have h1 := hs.post j (by rw [← hs.len]; exact hj)
    rw [List.getElem?_eq_getElem hj] at h1
    obtain ⟨i, hi1, rfl, -⟩ := (h1.2 x).1 hx
    exact ⟨by omega, by omega⟩

/-- What both sides answer. -/
def EncIs (J : Prop) (base : Int) (xss : List (List Int)) (ks : List Int) (pss : List (List Int)) (bs : List Int) : Prop := (J ∧ bs = encL base xss ks pss) ∨ (¬ J ∧ bs = [])
theorem EncIs.uniq {J : Prop} {base : Int} {xss pss : List (List Int)} {ks bs bs' : List Int} (h : EncIs J base xss ks pss bs) (h' : EncIs J base xss ks pss bs') : bs = bs' := by
  rcases h with ⟨hj, rfl⟩ | ⟨hj, rfl⟩ <;> rcases h' with ⟨hj', rfl⟩ | ⟨hj', rfl⟩
  · rfl
  · exact absurd hj hj'
  · exact absurd hj' hj
  · rfl
theorem encL_len {base : Int} {xss pss : List (List Int)} {ks : List Int} (h : EncIn base xss ks pss) : (encL base xss ks pss).length ≤ 134217732 := by
  have := bodL_len h
  unfold encL
  rw [List.length_append]
  show _ + 4 ≤ _
  omega
def EncRet (e : Ending) (lo : Nat) (w' : World) (J : Prop) (base : Int) (xss : List (List Int)) (ks : List Int) (pss : List (List Int)) : Prop := ∃ v' bs, e = .returned v' ∧ EncIs J base xss ks pss bs ∧ Out lo w' v' bs ∧ bs.length ≤ 134217732
theorem EncRet.no {lo : Nat} {w' : World} {J : Prop} {base : Int} {xss pss : List (List Int)} {ks : List Int} (h : ¬ J) : EncRet (.returned (.slice none 0 0)) lo w' J base xss ks pss := ⟨_, [], rfl, Or.inr ⟨h, rfl⟩, World.ownsRow_nil _ _ _ _, by simp⟩

end Go.Proofs.YtbgjgaejfkdceaaGreat
