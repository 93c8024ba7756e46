import Derived.Test.YtmhafibngbojcaaDoorP8
import Derived.Test.YtmhafibngbojcaaDoorP6
import Derived.Deep.RegionWith
import Derived.Test.YtmhafibngbojcaaDoorP5
namespace Go.Proofs.YtmhafibngbojcaaDoor
open Go.RowKit

set_option maxHeartbeats 4000000 in
set_option maxRecDepth 100000 in
theorem appendBounds_any (lo hi : Int) (h0 : 0 ≤ lo) (h1 : lo ≤ 250) (h2 : hi = -1 ∨ (lo ≤ hi ∧ hi ≤ 250)) : AppK 33 (fun v => #[v, .int .i64 lo, .int .i64 hi]) (repT lo hi) := by
  intro base ov os w hown hbase htb hlen
  have Hown := hide hown
  have Htb := hide htb
  obtain ⟨oa, oc, rfl⟩ := own_is hown
  have hrl := repT_len lo hi
  have hl : os.length ≤ 100000000 := by omega
  have hl1 := decT_len lo
  have hl2 := decT_len hi
  have HLen := hide hlen
  clear hown htb hlen hrl
  by_cases a1 : lo = 0 ∧ hi = -1
  · obtain ⟨rfl, rfl⟩ := a1
    go_enter Tryd.func33, Tryd.ntmps33
    go_wp2_with (at_builtin; refine app_litB (w := w) _ rfl _ _ rfl base _ rfl os (unhide Hown) hbase [42] rfl rfl (by simp) (by simp; omega) ?_; intro v1 w1 hb1 ho1 hv1)
    go_ret
    exact ⟨_, rfl, by rw [List.length_append, List.map_append] at ho1; exact ho1, hb1⟩
  by_cases a2 : lo = 1 ∧ hi = -1
  · obtain ⟨rfl, rfl⟩ := a2
    go_enter Tryd.func33, Tryd.ntmps33
    go_wp2_with (at_builtin; refine app_litB (w := w) _ rfl _ _ rfl base _ rfl os (unhide Hown) hbase [43] rfl rfl (by simp) (by simp; omega) ?_; intro v1 w1 hb1 ho1 hv1)
    go_ret
    exact ⟨_, rfl, by rw [List.length_append, List.map_append] at ho1; exact ho1, hb1⟩
  by_cases a3 : lo = 0 ∧ hi = 1
  · obtain ⟨rfl, rfl⟩ := a3
    go_enter Tryd.func33, Tryd.ntmps33
    go_wp2_with (at_builtin; refine app_litB (w := w) _ rfl _ _ rfl base _ rfl os (unhide Hown) hbase [63] rfl rfl (by simp) (by simp; omega) ?_; intro v1 w1 hb1 ho1 hv1)
    go_ret
    exact ⟨_, rfl, by rw [List.length_append, List.map_append] at ho1; exact ho1, hb1⟩
  have hE : Hid (repT lo hi = if hi = -1 then 123 :: decT lo ++ [44, 125] else if lo = hi then 123 :: decT lo ++ [125] else 123 :: decT lo ++ 44 :: decT hi ++ [125]) := by
    show repT lo hi = _
    unfold repT
    rw [if_neg a1, if_neg a2, if_neg a3]
  have d : (lo = 0 ∧ ¬ hi = 1 ∧ ¬ hi = -1) ∨ (lo = 1 ∧ ¬ hi = -1) ∨ (¬ lo = 0 ∧ ¬ lo = 1) := by omega
  by_cases a4 : hi = -1
  · have HE := hide ((unhide hE).trans (if_pos a4))
    have c1 : ¬ lo = 0 := by omega
    have c2 : ¬ lo = 1 := by omega
    have c3 : ((-1 : Int) != lo) = true := by simp; omega
    subst a4
    clear hE a1 a2 a3 d h2
    obtain ⟨Z, hZ⟩ : ∃ Z, Z = os ++ repT lo (-1) := ⟨_, rfl⟩
    rw [← hZ]
    have HZ : Hid (Z = os ++ [123] ++ decT lo ++ [44] ++ [125]) := by show Z = _; rw [hZ, unhide HE]; simp
    clear hZ HE
    have Ho0 := hide (unhide Hown)
    go_enter Tryd.func33, Tryd.ntmps33
    go_wp2_with (at_builtin; refine app_litB (w := w) _ rfl _ _ rfl base _ rfl os (unhide Ho0) (by omega) [123] rfl rfl (by simp) (by rw [List.length_singleton]; omega) ?_; intro v1 w1 hb1 ho1 hv1; obtain ⟨Y1, hY1⟩ : ∃ Y, Y = os ++ [123] := ⟨_, rfl⟩; rw [← hY1] at ho1; have hyl1 : Y1.length ≤ 100000100 + 10 * 1 := (by rw [hY1, List.length_append, List.length_singleton]; omega); have HY1 := hide hY1; have Ho1 := hide ho1; obtain ⟨a1, c1, rfl⟩ := own_is ho1; have hz1 := hb1.size; clear ho1 hY1 Ho0 hv1)
    refine (appendInt_any lo (by omega) (by omega) base _ Y1 _ (unhide Ho1) (by omega) (Lib.TabBelow.on (unhide Htb) (BK.b (hb1))) (by omega)).mono ?_
    rintro e w2 ⟨v2, rfl, ho2, hb2⟩
    obtain ⟨Y2, hY2⟩ : ∃ Y, Y = Y1 ++ decT lo := ⟨_, rfl⟩
    rw [← hY2] at ho2
    have hyl2 : Y2.length ≤ 100000100 + 10 * 2 := by rw [hY2, List.length_append]; omega
    have HY2 := hide hY2
    have Ho2 := hide ho2
    obtain ⟨a2, c2, rfl⟩ := own_is ho2
    have hz2 := hb2.size
    clear ho2 hY2 Ho1
    go_wp2_with (first | (at_builtin; refine app_litB (w := w2) _ rfl _ _ rfl base _ rfl Y2 (unhide Ho2) (by omega) [44] rfl rfl (by simp) (by rw [List.length_singleton]; omega) ?_; intro v3 w3 hb3 ho3 hv3; obtain ⟨Y3, hY3⟩ : ∃ Y, Y = Y2 ++ [44] := ⟨_, rfl⟩; rw [← hY3] at ho3; have hyl3 : Y3.length ≤ 100000100 + 10 * 3 := (by rw [hY3, List.length_append, List.length_singleton]; omega); have HY3 := hide hY3; have Ho3 := hide ho3; obtain ⟨a3, c3, rfl⟩ := own_is ho3; have hz3 := hb3.size; clear ho3 hY3 Ho2 hv3) | (at_builtin; refine app_litB (w := w3) _ rfl _ _ rfl base _ rfl Y3 (unhide Ho3) (by omega) [125] rfl rfl (by simp) (by rw [List.length_singleton]; omega) ?_; intro v4 w4 hb4 ho4 hv4; obtain ⟨Y4, hY4⟩ : ∃ Y, Y = Y3 ++ [125] := ⟨_, rfl⟩; rw [← hY4] at ho4; have hyl4 : Y4.length ≤ 100000100 + 10 * 4 := (by rw [hY4, List.length_append, List.length_singleton]; omega); have HY4 := hide hY4; have Ho4 := hide ho4; obtain ⟨a4, c4, rfl⟩ := own_is ho4; have hz4 := hb4.size; clear ho4 hY4 Ho3 hv4))
    go_ret
    refine ⟨_, rfl, ?_, hb1.trans (hb2.trans (hb3.trans hb4))⟩
    rw [unhide HZ, ← unhide HY1, ← unhide HY2, ← unhide HY3, ← unhide HY4]
    exact unhide Ho4
  by_cases a5 : lo = hi
  · have HE := hide (((unhide hE).trans (if_neg a4)).trans (if_pos a5))
    subst a5
    have c3 : (lo != lo) = false := by simp
    clear hE a1 a2 a3 h2
    obtain ⟨Z, hZ⟩ : ∃ Z, Z = os ++ repT lo lo := ⟨_, rfl⟩
    rw [← hZ]
    have HZ : Hid (Z = os ++ [123] ++ decT lo ++ [125]) := by show Z = _; rw [hZ, unhide HE]; simp
    clear hZ HE
    have Ho0 := hide (unhide Hown)
    have dd : ((lo == 0) = true ∧ (lo == 1) = false ∧ (lo == -1) = false ∧ (lo == 1) = false) ∨ ((lo == 0) = false ∧ (lo == 1) = true ∧ (lo == -1) = false) ∨ ((lo == 0) = false ∧ (lo == 1) = false) := by
      rcases d with ⟨d0, d1, d2⟩ | ⟨d0, d1⟩ | ⟨d0, d1⟩
      · exact Or.inl (by simp; omega)
      · exact Or.inr (Or.inl (by simp; omega))
      · exact Or.inr (Or.inr (by simp; omega))
    clear d
    rcases dd with ⟨d0, d1, d2, d3⟩ | ⟨d0, d1, d2⟩ | ⟨d0, d1⟩
    all_goals
      go_enter Tryd.func33, Tryd.ntmps33
      go_wp2_with (at_builtin; refine app_litB (w := w) _ rfl _ _ rfl base _ rfl os (unhide Ho0) (by omega) [123] rfl rfl (by simp) (by rw [List.length_singleton]; omega) ?_; intro v1 w1 hb1 ho1 hv1; obtain ⟨Y1, hY1⟩ : ∃ Y, Y = os ++ [123] := ⟨_, rfl⟩; rw [← hY1] at ho1; have hyl1 : Y1.length ≤ 100000100 + 10 * 1 := (by rw [hY1, List.length_append, List.length_singleton]; omega); have HY1 := hide hY1; have Ho1 := hide ho1; obtain ⟨a1, c1, rfl⟩ := own_is ho1; have hz1 := hb1.size; clear ho1 hY1 Ho0 hv1)
      refine (appendInt_any lo (by omega) (by omega) base _ Y1 _ (unhide Ho1) (by omega) (Lib.TabBelow.on (unhide Htb) (BK.b (hb1))) (by omega)).mono ?_
      rintro e w2 ⟨v2, rfl, ho2, hb2⟩
      obtain ⟨Y2, hY2⟩ : ∃ Y, Y = Y1 ++ decT lo := ⟨_, rfl⟩
      rw [← hY2] at ho2
      have hyl2 : Y2.length ≤ 100000100 + 10 * 2 := by rw [hY2, List.length_append]; omega
      have HY2 := hide hY2
      have Ho2 := hide ho2
      obtain ⟨a2, c2, rfl⟩ := own_is ho2
      have hz2 := hb2.size
      clear ho2 hY2 Ho1
      go_wp2_with (at_builtin; refine app_litB (w := w2) _ rfl _ _ rfl base _ rfl Y2 (unhide Ho2) (by omega) [125] rfl rfl (by simp) (by rw [List.length_singleton]; omega) ?_; intro v3 w3 hb3 ho3 hv3; obtain ⟨Y3, hY3⟩ : ∃ Y, Y = Y2 ++ [125] := ⟨_, rfl⟩; rw [← hY3] at ho3; have hyl3 : Y3.length ≤ 100000100 + 10 * 3 := (by rw [hY3, List.length_append, List.length_singleton]; omega); have HY3 := hide hY3; have Ho3 := hide ho3; obtain ⟨a3, c3, rfl⟩ := own_is ho3; have hz3 := hb3.size; clear ho3 hY3 Ho2 hv3)
      go_ret
      refine ⟨_, rfl, ?_, hb1.trans (hb2.trans hb3)⟩
      rw [unhide HZ, ← unhide HY1, ← unhide HY2, ← unhide HY3]
      exact unhide Ho3
  · have HE := hide (((unhide hE).trans (if_neg a4)).trans (if_neg a5))
    have c3 : (hi != lo) = true := by simp; omega
    have c4 : (hi != -1) = true := by simp; omega
    have h3 : 0 ≤ hi ∧ hi ≤ 250 := by omega
    clear hE a1 a2 a3 h2
    obtain ⟨Z, hZ⟩ : ∃ Z, Z = os ++ repT lo hi := ⟨_, rfl⟩
    rw [← hZ]
    have HZ : Hid (Z = os ++ [123] ++ decT lo ++ [44] ++ decT hi ++ [125]) := by show Z = _; rw [hZ, unhide HE]; simp
    clear hZ HE
    have Ho0 := hide (unhide Hown)
    have dd : ((lo == 0) = true ∧ (lo == 1) = false ∧ (hi == -1) = false ∧ (hi == 1) = false) ∨ ((lo == 0) = false ∧ (lo == 1) = true ∧ (hi == -1) = false) ∨ ((lo == 0) = false ∧ (lo == 1) = false) := by
      rcases d with ⟨d0, d1, d2⟩ | ⟨d0, d1⟩ | ⟨d0, d1⟩
      · exact Or.inl (by simp; omega)
      · exact Or.inr (Or.inl (by simp; omega))
      · exact Or.inr (Or.inr (by simp; omega))
    clear d
    rcases dd with ⟨d0, d1, d2, d3⟩ | ⟨d0, d1, d2⟩ | ⟨d0, d1⟩
    all_goals
      go_enter Tryd.func33, Tryd.ntmps33
      go_wp2_with (at_builtin; refine app_litB (w := w) _ rfl _ _ rfl base _ rfl os (unhide Ho0) (by omega) [123] rfl rfl (by simp) (by rw [List.length_singleton]; omega) ?_; intro v1 w1 hb1 ho1 hv1; obtain ⟨Y1, hY1⟩ : ∃ Y, Y = os ++ [123] := ⟨_, rfl⟩; rw [← hY1] at ho1; have hyl1 : Y1.length ≤ 100000100 + 10 * 1 := (by rw [hY1, List.length_append, List.length_singleton]; omega); have HY1 := hide hY1; have Ho1 := hide ho1; obtain ⟨a1, c1, rfl⟩ := own_is ho1; have hz1 := hb1.size; clear ho1 hY1 Ho0 hv1)
      refine (appendInt_any lo (by omega) (by omega) base _ Y1 _ (unhide Ho1) (by omega) (Lib.TabBelow.on (unhide Htb) (BK.b (hb1))) (by omega)).mono ?_
      rintro e w2 ⟨v2, rfl, ho2, hb2⟩
      obtain ⟨Y2, hY2⟩ : ∃ Y, Y = Y1 ++ decT lo := ⟨_, rfl⟩
      rw [← hY2] at ho2
      have hyl2 : Y2.length ≤ 100000100 + 10 * 2 := by rw [hY2, List.length_append]; omega
      have HY2 := hide hY2
      have Ho2 := hide ho2
      obtain ⟨a2, c2, rfl⟩ := own_is ho2
      have hz2 := hb2.size
      clear ho2 hY2 Ho1
      go_wp2_with (at_builtin; refine app_litB (w := w2) _ rfl _ _ rfl base _ rfl Y2 (unhide Ho2) (by omega) [44] rfl rfl (by simp) (by rw [List.length_singleton]; omega) ?_; intro v3 w3 hb3 ho3 hv3; obtain ⟨Y3, hY3⟩ : ∃ Y, Y = Y2 ++ [44] := ⟨_, rfl⟩; rw [← hY3] at ho3; have hyl3 : Y3.length ≤ 100000100 + 10 * 3 := (by rw [hY3, List.length_append, List.length_singleton]; omega); have HY3 := hide hY3; have Ho3 := hide ho3; obtain ⟨a3, c3, rfl⟩ := own_is ho3; have hz3 := hb3.size; clear ho3 hY3 Ho2 hv3)
      refine (appendInt_any hi (by omega) (by omega) base _ Y3 _ (unhide Ho3) (by omega) (Lib.TabBelow.on (unhide Htb) (BK.b (BK.trans (BK.trans (hb1) hb2) hb3))) (by omega)).mono ?_
      rintro e w4 ⟨v4, rfl, ho4, hb4⟩
      obtain ⟨Y4, hY4⟩ : ∃ Y, Y = Y3 ++ decT hi := ⟨_, rfl⟩
      rw [← hY4] at ho4
      have hyl4 : Y4.length ≤ 100000100 + 10 * 4 := by rw [hY4, List.length_append]; omega
      have HY4 := hide hY4
      have Ho4 := hide ho4
      obtain ⟨a4, c4, rfl⟩ := own_is ho4
      have hz4 := hb4.size
      clear ho4 hY4 Ho3
      go_wp2_with (at_builtin; refine app_litB (w := w4) _ rfl _ _ rfl base _ rfl Y4 (unhide Ho4) (by omega) [125] rfl rfl (by simp) (by rw [List.length_singleton]; omega) ?_; intro v5 w5 hb5 ho5 hv5; obtain ⟨Y5, hY5⟩ : ∃ Y, Y = Y4 ++ [125] := ⟨_, rfl⟩; rw [← hY5] at ho5; have hyl5 : Y5.length ≤ 100000100 + 10 * 5 := (by rw [hY5, List.length_append, List.length_singleton]; omega); have HY5 := hide hY5; have Ho5 := hide ho5; obtain ⟨a5, c5, rfl⟩ := own_is ho5; have hz5 := hb5.size; clear ho5 hY5 Ho4 hv5)
      go_ret
      refine ⟨_, rfl, ?_, hb1.trans (hb2.trans (hb3.trans (hb4.trans hb5)))⟩
      rw [unhide HZ, ← unhide HY1, ← unhide HY2, ← unhide HY3, ← unhide HY4, ← unhide HY5]
      exact unhide Ho5

end Go.Proofs.YtmhafibngbojcaaDoor

namespace Go.Proofs.YtmhafibngbojcaaDoor
open Go.RowKit

theorem canon_uniq {xs ys : List Int} (hx : Canon xs) (hy : Canon ys) (h : ∀ b : Nat, InP xs (xs.length / 2) b = InP ys (ys.length / 2) b) : xs = ys := by
  have key : ∀ b : Nat, b ≤ 256 → ∃ m, Cut xs m b ∧ Cut ys m b ∧ cut xs m b = cut ys m b := by
    intro b
    induction b with
    | zero =>
      intro _
      refine ⟨0, ⟨Nat.zero_le _, fun h => absurd h (by omega), fun h => (hx.2.1 0 (by omega)).1⟩, ⟨Nat.zero_le _, fun h => absurd h (by omega), fun h => (hy.2.1 0 (by omega)).1⟩, by simp [cut]⟩
    | succ b ih =>
      intro hb
      obtain ⟨m, h1, h2, h3⟩ := ih (by omega)
      have hh := h b
      rcases cut_step hx h1 with ⟨q1, q2, q3⟩ | ⟨q1, q2, q3, q4, q5⟩ | ⟨q1, q2, q3, q4⟩ <;> rcases cut_step hy h2 with ⟨r1, r2, r3⟩ | ⟨r1, r2, r3, r4, r5⟩ | ⟨r1, r2, r3, r4⟩ <;> rw [q1, r1] at hh
      · exact ⟨m, q2, r2, by rw [q3, r3, h3]⟩
      · cases hh
      · cases hh
      · cases hh
      · exact ⟨m, q4, r4, by rw [q5, r5, h3]⟩
      · exact absurd (by rw [← h3]; exact q3) (r2 q2)
      · cases hh
      · exact absurd (by rw [h3]; exact r3) (q2 r2)
      · exact ⟨m + 1, q3, r3, by rw [q4, r4, h3]⟩
  obtain ⟨m, h1, h2, h3⟩ := key 256 (Nat.le_refl _)
  rw [← cut_all hx h1, ← cut_all hy h2, h3]
theorem words_same {g g' : Nat → Nat} (hg : Fit g) (hg' : Fit g') (h : ∀ b : Nat, Bt g b = Bt g' b) (j : Nat) : g j = g' j := by
  apply Nat.eq_of_testBit_eq
  intro i
  by_cases hi : i < 64
  · have := h (64 * j + i)
    unfold Bt at this
    rwa [show (64 * j + i) / 64 = j by omega, show (64 * j + i) % 64 = i by omega] at this
  · have hp : ∀ {x : Nat}, x < 18446744073709551616 → x.testBit i = false := fun {x} hx => Nat.testBit_lt_two_pow (Nat.lt_of_lt_of_le hx (by
      have : (2 : Nat) ^ 64 ≤ 2 ^ i := Nat.pow_le_pow_right (by decide) (by omega)
      exact this))
    rw [hp (hg j), hp (hg' j)]
/-- The words of all that are not in the set. -/
def cmp4 (g : Nat → Nat) (j : Nat) : Nat := if j < 4 then 18446744073709551615 - g j else 0
theorem cmp4_fit (g : Nat → Nat) : Fit (cmp4 g) := fun j => by unfold cmp4; split <;> omega
theorem cmp4_bt {g : Nat → Nat} (hg : Fit g) (b : Nat) : Bt (cmp4 g) b = (decide (b < 256) && !Bt g b) := by
  unfold Bt cmp4
  by_cases hb : b < 256
  · rw [if_pos (by omega)]
    have := Nat.testBit_two_pow_sub_succ (show g (b / 64) < 2 ^ 64 from hg (b / 64)) (b % 64)
    rw [show (2 : Nat) ^ 64 - (g (b / 64) + 1) = 18446744073709551615 - g (b / 64) by omega] at this
    rw [this]
    simp [hb, show b % 64 < 64 by omega]
  · rw [if_neg (by omega)]
    simp [hb]

theorem xor_all {a : Nat} (h : a < 18446744073709551616) : 18446744073709551615 ^^^ a = 18446744073709551615 - a := by
  apply Nat.eq_of_testBit_eq
  intro i
  have h1 := Nat.testBit_two_pow_sub_one 64 i
  have h2 := Nat.testBit_two_pow_sub_succ (show a < 2 ^ 64 from h) i
  rw [show (2 : Nat) ^ 64 - 1 = 18446744073709551615 by decide] at h1
  rw [show (2 : Nat) ^ 64 - (a + 1) = 18446744073709551615 - a by omega] at h2
  rw [Nat.testBit_xor, h1, h2]
  by_cases hi : i < 64
  · simp [hi]
  · have : a.testBit i = false := Nat.testBit_lt_two_pow (Nat.lt_of_lt_of_le h (by
      have : (2 : Nat) ^ 64 ≤ 2 ^ i := Nat.pow_le_pow_right (by decide) (by omega)
      exact this))
    simp [hi, this]
theorem xor_u64 {a : Nat} (h : a < 18446744073709551616) : bits BinOp.xor IntKind.u64 (if IntKind.u64.signed = true then -1 else IntKind.u64.max) (a : Int) = ((18446744073709551615 - a : Nat) : Int) := by
  rw [← xor_all h]
  exact bits_xor_u64_nat 18446744073709551615 a (by decide) h

set_option maxHeartbeats 2000000 in
set_option maxRecDepth 100000 in
theorem complement_w (g : Nat → Nat) (w : World) (hg : Fit g) : Calls Tryd.prog 61 #[ws4 g] w fun e w' => e = .returned (ws4 (cmp4 g)) ∧ Below w.heap.size w w' := by
  unfold ws4
  have Hg := hide hg
  clear hg
  go_enter Tryd.func61, Tryd.ntmps61
  go_wp2
  go_loopw [4] (fun iv wr => ∃ i : Nat, i ≤ 4 ∧ iv = .int .i64 i ∧ wr.rowIs w.heap.size 67 4 (fun j => .int .u64 ((if j < i then cmp4 g j else g j : Nat) : Int)) ∧ (∃ g : Nat → Value, wr.rowIs (w.heap.size + 1) 67 4 g) ∧ Below w.heap.size w wr) (fun iv _ => 4 - (intOf iv).toNat)
  case atStart =>
    refine ⟨0, by omega, rfl, ((four_row w _ g).alloc _).congr (fun j hj => by simp), ⟨fun j => .int .u64 ((fun _ => 0 : Nat → Nat) j : Nat), ?_⟩, below2 w _ _⟩
    have h := zero_row (w.alloc (.cells #[.int .u64 (g 0 : Nat), .int .u64 (g 1 : Nat), .int .u64 (g 2 : Nat), .int .u64 (g 3 : Nat)] 67)) 67
    rw [sz_alloc] at h; exact h
  case round =>
    obtain ⟨i, hi, rfl, hrow, ⟨g2, hrow2⟩, hb⟩ := hrel
    by_cases hlt : i < 4
    · have hlt' : (i : Int) < 4 := by omega
      have c0 := hrow.cell hlt
      rw [if_neg (Nat.lt_irrefl _)] at c0
      have f0 := hrow.frozen i
      have hgi := unhide Hg i
      have Hrow := hide hrow
      have Hrow2 := hide hrow2
      clear hrow hrow2
      have hx := xor_u64 hgi
      have HX := hide hx
      clear hx
      go_wp2
      rw [unhide HX]
      refine ⟨⟨i + 1, by omega, by go_num, ?_, ⟨g2, ?_⟩, ?_⟩, by simp [intOf]; omega⟩
      · refine ((unhide Hrow).set i _).congr (fun j hj => ?_)
        by_cases e : j = i
        · subst e; simp [cmp4, hlt]
        · have e2 : (j < i + 1) ↔ j < i := by omega
          simp [e, e2]
      · exact (unhide Hrow2).setOther (by show w.heap.size + 1 ≠ w.heap.size; omega) _
      · exact bput hb (Nat.le_refl _) _
    · obtain rfl : i = 4 := by omega
      have c0 := hrow.cell (i := 0) (by omega)
      have c1 := hrow.cell (i := 1) (by omega)
      have c2 := hrow.cell (i := 2) (by omega)
      have c3 := hrow.cell (i := 3) (by omega)
      rw [if_pos (by omega)] at c0 c1 c2 c3
      have d0 := hrow2.cell (i := 0) (by omega)
      have d1 := hrow2.cell (i := 1) (by omega)
      have d2 := hrow2.cell (i := 2) (by omega)
      have d3 := hrow2.cell (i := 3) (by omega)
      have f0 := hrow2.frozen 0
      have f1 := hrow2.frozen 1
      have f2 := hrow2.frozen 2
      have f3 := hrow2.frozen 3
      clear hrow hrow2
      go_wp2
      refine bodyPost_ret (v := .agg #[.int .u64 (cmp4 g 0 : Nat), .int .u64 (cmp4 g 1 : Nat), .int .u64 (cmp4 g 2 : Nat), .int .u64 (cmp4 g 3 : Nat)]) (by simp [results, Tryd.results61, go_sem, d0, d1, d2, d3]) rfl ⟨rfl, ?_⟩
      exact bput (bput (bput (bput hb (by omega) _) (by omega) _) (by omega) _) (by omega) _

theorem zero_fit : Fit (fun _ => 0) := fun _ => by show 0 < 18446744073709551616; omega
theorem zero_bt (b : Nat) : Bt (fun _ => 0) b = false := by simp [Bt]
theorem canon_all : Canon [0, 255] := ⟨rfl, fun i hi => by
    match i, hi with
    | 0, _ => simp
    | 1, _ => simp, fun m hm => by
    obtain rfl : m = 0 := by simp at hm; omega
    simp [PairOk]⟩
theorem canon_dot : Canon [0, 9, 11, 255] := ⟨rfl, fun i hi => by
    match i, hi with
    | 0, _ => simp
    | 1, _ => simp
    | 2, _ => simp
    | 3, _ => simp, fun m hm => by
    have : m = 0 ∨ m = 1 := by simp at hm; omega
    rcases this with rfl | rfl <;> simp [PairOk]⟩

theorem words_all : WordsOf [0, 255] (cmp4 (fun _ => 0)) := ⟨cmp4_fit _, fun b => by
  rw [cmp4_bt zero_fit, zero_bt]
  show (decide (b < 256) && !false) = (false || decide ((0 : Int) ≤ (b : Int) ∧ (b : Int) ≤ 255))
  simp
  omega⟩
theorem words_dot {g : Nat → Nat} (hf : Fit g) (h : ∀ b : Nat, Bt g b = (false || decide ((10 : Int) ≤ (b : Int) ∧ (b : Int) ≤ 10))) : WordsOf [0, 9, 11, 255] (cmp4 g) := ⟨cmp4_fit _, fun b => by
  rw [cmp4_bt hf, h]
  show (decide (b < 256) && !(false || decide ((10 : Int) ≤ (b : Int) ∧ (b : Int) ≤ 10))) = ((false || decide ((0 : Int) ≤ (b : Int) ∧ (b : Int) ≤ 9)) || decide ((11 : Int) ≤ (b : Int) ∧ (b : Int) ≤ 255))
  rw [Bool.eq_iff_iff]
  simp
  omega⟩

theorem box4 {w w1 : World} {t : TypeId} (hb : Below (w.heap.size + 1) (w.alloc (.cells #[.int .u64 0, .int .u64 0, .int .u64 0, .int .u64 0] t)) w1) : w1.rowIs w.heap.size t 4 (fun j => .int .u64 ((fun _ => 0 : Nat → Nat) j : Nat)) :=
  World.rowIs.of_block (zero_row w t) (hb.block _ (Nat.lt_succ_self _))

set_option maxHeartbeats 2000000 in
set_option maxRecDepth 100000 in
theorem allBytes_w (w : World) : Calls Tryd.prog 49 #[] w fun e w' => (∃ g, e = .returned (ws4 g) ∧ WordsOf [0, 255] g) ∧ Below w.heap.size w w' := by
  have hB0 := below1 w (.cells #[.int .u64 0, .int .u64 0, .int .u64 0, .int .u64 0] 67)
  go_enter Tryd.func49, Tryd.ntmps49
  go_wp2_with fail
  refine (complement_w (fun _ => 0) _ zero_fit).mono ?_
  rintro e w1 ⟨rfl, hb1⟩
  have hrow := box4 (hb1.mono (by rw [sz_alloc]; omega))
  have hB1 : Below w.heap.size w w1 := hB0.trans (hb1.mono (by rw [sz_alloc]; omega))
  have d0 := hrow.cell (i := 0) (by omega)
  have d1 := hrow.cell (i := 1) (by omega)
  have d2 := hrow.cell (i := 2) (by omega)
  have d3 := hrow.cell (i := 3) (by omega)
  have f0 := hrow.frozen 0
  have f1 := hrow.frozen 1
  have f2 := hrow.frozen 2
  have f3 := hrow.frozen 3
  have HW := hide words_all
  clear hrow hb1
  generalize cmp4 (fun _ => 0) = q at *
  unfold ws4
  go_wp2
  refine bodyPost_ret (v := .agg #[.int .u64 (q 0 : Nat), .int .u64 (q 1 : Nat), .int .u64 (q 2 : Nat), .int .u64 (q 3 : Nat)]) (by simp [results, Tryd.results49, go_sem, d0, d1, d2, d3]) rfl ⟨⟨q, rfl, unhide HW⟩, ?_⟩
  exact bput (bput (bput (bput hB1 (by omega) _) (by omega) _) (by omega) _) (by omega) _

set_option maxHeartbeats 2000000 in
set_option maxRecDepth 100000 in
theorem singleByte_w (w : World) : Calls Tryd.prog 62 #[.int .i64 10] w fun e w' => (∃ g, e = .returned (ws4 g) ∧ Fit g ∧ ∀ b : Nat, Bt g b = (false || decide ((10 : Int) ≤ (b : Int) ∧ (b : Int) ≤ 10))) ∧ Below w.heap.size w w' := by
  have hB0 := below1 w (.cells #[.int .u64 0, .int .u64 0, .int .u64 0, .int .u64 0] 67)
  go_enter Tryd.func62, Tryd.ntmps62
  go_wp2_with fail
  refine (with_w (fun _ => 0) 10 10 _ zero_fit (by omega) (by omega) (by omega)).mono ?_
  rintro e w1 ⟨q, rfl, hq, hbt, hb1⟩
  have hrow := box4 (hb1.mono (by rw [sz_alloc]; omega))
  have hB1 : Below w.heap.size w w1 := hB0.trans (hb1.mono (by rw [sz_alloc]; omega))
  have d0 := hrow.cell (i := 0) (by omega)
  have d1 := hrow.cell (i := 1) (by omega)
  have d2 := hrow.cell (i := 2) (by omega)
  have d3 := hrow.cell (i := 3) (by omega)
  have f0 := hrow.frozen 0
  have f1 := hrow.frozen 1
  have f2 := hrow.frozen 2
  have f3 := hrow.frozen 3
  have HQ := hide hq
  have HB : Hid (∀ b : Nat, Bt q b = (false || decide ((10 : Int) ≤ (b : Int) ∧ (b : Int) ≤ 10))) := fun b => by rw [hbt b, zero_bt]
  clear hrow hb1 hq hbt
  unfold ws4
  go_wp2
  refine bodyPost_ret (v := .agg #[.int .u64 (q 0 : Nat), .int .u64 (q 1 : Nat), .int .u64 (q 2 : Nat), .int .u64 (q 3 : Nat)]) (by simp [results, Tryd.results62, go_sem, d0, d1, d2, d3]) rfl ⟨⟨q, rfl, unhide HQ, unhide HB⟩, ?_⟩
  exact bput (bput (bput (bput hB1 (by omega) _) (by omega) _) (by omega) _) (by omega) _
set_option maxHeartbeats 2000000 in
set_option maxRecDepth 100000 in
theorem allBut_w (w : World) : Calls Tryd.prog 50 #[] w fun e w' => (∃ g, e = .returned (ws4 g) ∧ WordsOf [0, 9, 11, 255] g) ∧ Below w.heap.size w w' := by
  have hB0 := below1 w (.cells #[.int .u64 0, .int .u64 0, .int .u64 0, .int .u64 0] 67)
  go_enter Tryd.func50, Tryd.ntmps50
  go_wp2_with fail
  refine (singleByte_w _).mono ?_
  rintro e w0 ⟨⟨g0, rfl, hf0, hbt0⟩, hb0⟩
  have HF := hide hf0
  have HW := hide (words_dot hf0 hbt0)
  have hz0 := hb0.size
  rw [sz_alloc] at hz0
  have Hb0 := hide hb0
  clear hf0 hbt0 hb0
  unfold ws4
  go_wp2_with fail
  refine (complement_w g0 _ (unhide HF)).mono ?_
  rintro e w1 ⟨rfl, hb1⟩
  have hrow := box4 (Below.trans ((unhide Hb0).mono (by rw [sz_alloc]; omega)) (hb1.mono (by omega)))
  have hB1 : Below w.heap.size w w1 := hB0.trans ((Below.trans ((unhide Hb0).mono (by rw [sz_alloc]; omega)) (hb1.mono (by omega))))
  have d0 := hrow.cell (i := 0) (by omega)
  have d1 := hrow.cell (i := 1) (by omega)
  have d2 := hrow.cell (i := 2) (by omega)
  have d3 := hrow.cell (i := 3) (by omega)
  have f0 := hrow.frozen 0
  have f1 := hrow.frozen 1
  have f2 := hrow.frozen 2
  have f3 := hrow.frozen 3
  clear hrow hb1 Hb0
  generalize cmp4 g0 = q at *
  unfold ws4
  go_wp2
  refine bodyPost_ret (v := .agg #[.int .u64 (q 0 : Nat), .int .u64 (q 1 : Nat), .int .u64 (q 2 : Nat), .int .u64 (q 3 : Nat)]) (by simp [results, Tryd.results50, go_sem, d0, d1, d2, d3]) rfl ⟨⟨q, rfl, unhide HW⟩, ?_⟩
  exact bput (bput (bput (bput hB1 (by omega) _) (by omega) _) (by omega) _) (by omega) _
theorem words_ne {xs ys : List Int} {g q : Nat → Nat} (hx : WordsOf xs g) (hy : WordsOf ys q) (cx : Canon xs) (cy : Canon ys) : xs = ys ↔ ∀ j, g j = q j := by
  constructor
  · rintro rfl j
    exact words_same hx.1 hy.1 (fun b => by rw [hx.2, hy.2]) j
  · intro h
    exact canon_uniq cx cy (fun b => by rw [← hx.2, ← hy.2]; unfold Bt; rw [h])
/-- Beyond the fourth word there is nothing. -/
theorem words_top {xs : List Int} {g : Nat → Nat} (hx : WordsOf xs g) (cx : Canon xs) (j : Nat) (hj : 4 ≤ j) : g j = 0 := by
  apply Nat.eq_of_testBit_eq
  intro i
  rw [Nat.zero_testBit]
  by_cases hi : i < 64
  · have h1 := hx.2 (64 * j + i)
    unfold Bt at h1
    rw [show (64 * j + i) / 64 = j by omega, show (64 * j + i) % 64 = i by omega] at h1
    rw [h1]
    cases hq : InP xs (xs.length / 2) (64 * j + i) with
    | false => rfl
    | true =>
      obtain ⟨k, hk, h2, h3⟩ := (inP_iff _ _ _).1 hq
      have := (cx.2.1 (2 * k + 1) (by omega)).2
      omega
  · exact Nat.testBit_lt_two_pow (Nat.lt_of_lt_of_le (hx.1 j) (by
      have : (2 : Nat) ^ 64 ≤ 2 ^ i := Nat.pow_le_pow_right (by decide) (by omega)
      exact this))
theorem words_four {xs ys : List Int} {g q : Nat → Nat} (hx : WordsOf xs g) (hy : WordsOf ys q) (cx : Canon xs) (cy : Canon ys) : xs = ys ↔ (g 0 = q 0 ∧ g 1 = q 1 ∧ g 2 = q 2 ∧ g 3 = q 3) := by
  rw [words_ne hx hy cx cy]
  refine ⟨fun h => ⟨h 0, h 1, h 2, h 3⟩, fun ⟨h0, h1, h2, h3⟩ j => ?_⟩
  by_cases hj : 4 ≤ j
  · rw [words_top hx cx j hj, words_top hy cy j hj]
  · have : j = 0 ∨ j = 1 ∨ j = 2 ∨ j = 3 := by omega
    rcases this with rfl | rfl | rfl | rfl
    · exact h0
    · exact h1
    · exact h2
    · exact h3

end Go.Proofs.YtmhafibngbojcaaDoor

namespace Go.Proofs.YtmhafibngbojcaaDoor
open Go.RowKit

set_option maxHeartbeats 2000000 in
set_option maxRecDepth 100000 in
theorem pairs_own (g : Nat → Nat) (xs : List Int) (w : World) (hg : WordsOf xs g) (hcn : Canon xs) :
    Calls Tryd.prog 51 #[ws4 g] w fun e w' => ∃ v, e = .returned v ∧ w'.ownsRow w.heap.size 3 1 v xs.length (xs.map mI) ∧ Below w.heap.size w w' := by
  unfold ws4
  obtain ⟨hfit, hbt⟩ := hg
  obtain ⟨i0, hi, hz0, hz1, hz2⟩ := info_parts Tryd.zinInt
  have Hrow := hide (four_row w 67 g)
  have Hfit := hide hfit
  have Hbt := hide hbt
  have Hcn := hide hcn
  clear hfit hbt hcn
  go_enter Tryd.func51, Tryd.ntmps51
  go_wp2
  obtain ⟨W0, hW⟩ : ∃ W0, W0 = w.alloc (.cells #[.int .u64 (g 0 : Nat), .int .u64 (g 1 : Nat), .int .u64 (g 2 : Nat), .int .u64 (g 3 : Nat)] 67) := ⟨_, rfl⟩
  have hB0 : Below w.heap.size w W0 := by rw [hW]; exact below1 w _
  have hS0 : W0.heap.size = w.heap.size + 1 := by rw [hW, sz_alloc]
  rw [← hW] at Hrow ⊢
  clear hW
  go_loopw [3, 6] (fun ov i wr => ∃ b m : Nat, b ≤ 256 ∧ i = .int .i64 b ∧ Cut xs m b ∧ wr.ownsRow W0.heap.size 3 1 ov (2 * m) ((cut xs m b).map mI) ∧ Below W0.heap.size W0 wr) (fun _ i _ => 256 - (intOf i).toNat)
  case atStart => exact ⟨0, 0, Nat.zero_le _, rfl, ⟨Nat.zero_le _, fun h => absurd h (by omega), fun h => ((unhide Hcn).2.1 0 (by omega)).1⟩, World.ownsRow_nil _ _ _ _, Below.refl _ _⟩
  case round =>
    obtain ⟨b, m, hb256, rfl, hcut, hown, hbel⟩ := hrel
    have hszr := hbel.size
    have hle := hcut.le
    have hm129 := Cut.bd (unhide Hcn) hcut hb256
    have Hcut := hide hcut
    have Hown := hide hown
    by_cases hlt : b < 256
    · have hlt' : (b : Int) < 256 := by omega
      have hrw := (unhide Hrow).of_block (hbel.block _ (by omega))
      have c0 := hrw.cell (i := 0) (by omega)
      have c1 := hrw.cell (i := 1) (by omega)
      have c2 := hrw.cell (i := 2) (by omega)
      have c3 := hrw.cell (i := 3) (by omega)
      clear hrw hown hcut
      obtain ⟨oa, oc, rfl⟩ := own_is (unhide Hown)
      go_wp2_with fail
      refine (has_w g b _ (unhide Hfit) hlt).mono ?_
      rintro e w1 ⟨rfl, hb1⟩
      have Hown1 := hide (own_keep (unhide Hown) hb1 (Nat.le_refl _))
      have hB1 : Below W0.heap.size W0 w1 := hbel.trans (hb1.mono hbel.size)
      have hsz1 := hB1.size
      clear hb1 c0 c1 c2 c3
      have hbv := unhide Hbt b
      rcases cut_step (unhide Hcn) (unhide Hcut) with ⟨q1, q2, q3⟩ | ⟨q1, q2, q3, q4, q5⟩ | ⟨q1, q2, q3, q4⟩
      · rw [q1] at hbv
        rw [hbv]
        clear hbv
        go_wp2
        go_roundw
        case rel => exact ⟨b + 1, m, by omega, by go_num, q2, by rw [q3]; exact unhide Hown1, hB1⟩
        case measure => simp [intOf]; omega
      · rw [q1] at hbv
        rw [hbv]
        clear hbv
        obtain ⟨K, hK⟩ : ∃ K, 2 * m = K + 1 := ⟨2 * m - 1, by omega⟩
        have Q4 := hide q4
        have Q5 := hide q5
        have hlen := hide (cut_len xs m b hle)
        rw [hK] at Hown1 q3 Q5 ⊢
        rw [show K + 1 - 1 = K by omega] at q3 Q5
        obtain ⟨gb, cap, ev, hcell⟩ := own_at (unhide Hown1) (by omega)
        simp only [Value.slice.injEq, true_and] at ev
        obtain ⟨rfl, rfl⟩ := ev
        have hx : w1.cell? ⟨gb, K, none⟩ = some (.int .i64 ((b : Int) - 1)) := by
          rw [hcell K (by omega), List.getElem?_map, getD_of_lt (by rw [unhide hlen]; omega), q3]; rfl
        have hf := (unhide Hown1).frozenAt K
        have hst := (unhide Hown1).stored K (.int .i64 b)
        have Hst := hide hst
        have hgb := ((unhide Hown1).lt gb rfl).1
        have hK0 : (0 : Int) < (K : Int) := by omega
        have hKc : (K : Int) < ((K + 1 : Nat) : Int) := by omega
        have y1 : (((K + 1 : Nat) : Int) - 1) = (K : Int) := by omega
        clear hcell q4 q5 hst
        go_wp2
        exact ⟨⟨b + 1, m, by omega, by go_num, unhide Q4, by rw [hK, unhide Q5, List.map_set]; exact (unhide Hst).1, bput hB1 hgb _⟩, by simp [intOf]; omega⟩
      · rw [q1] at hbv
        rw [hbv]
        clear hbv
        have Q3 := hide q3
        have Q4 := hide q4
        have hlen := hide (cut_len xs m b hle)
        clear q3 q4
        by_cases hm0 : m = 0
        · subst hm0
          go_wp2_with (at_builtin; refine wpList_append_own _ rfl _ _ 49 rfl W0.heap.size 3 i0 (.int .i64 0) 1 8 Tryd.underlying49 hi hz0 hz1 hz2 rfl (by decide) _ _ _ rfl ((unhide Hown1).alloc _) ⟨w1.heap.size, 0, none⟩ 2 2 [.int .i64 b, .int .i64 b] rfl rfl ?_ ?_ ?_ ?_ ?_ ?_)
          · exact cell_2 (by simp) (by simp)
          · intro u hu; simp at hu; subst hu; rfl
          · unfold maxLen; omega
          · omega
          · rw [sz_alloc]; omega
          intro v' w2 h5 hg5 _
          have hst := hide (show w2.ownsRow W0.heap.size 3 1 v' 2 ((cut xs 1 (b + 1)).map mI) from by rw [unhide Q4, List.map_append, hS0]; exact h5)
          have hB2 := (hB1.alloc hsz1 (.cells #[.int .i64 b, .int .i64 b] 3)).grown hg5 (by rw [sz_alloc]; omega) (fun k hk => ((unhide Hown1).lt k hk).1)
          clear h5 hg5
          go_wp2
          go_roundw
          case rel => exact ⟨b + 1, 1, by omega, by go_num, unhide Q3, unhide hst, hB2⟩
          case measure => simp [intOf]; omega
        · obtain ⟨K, hK⟩ : ∃ K, 2 * m = K + 1 := ⟨2 * m - 1, by omega⟩
          have q5 := q2 (by omega)
          clear q2
          rw [hK] at Hown1 q5 ⊢
          rw [show K + 1 - 1 = K by omega] at q5
          obtain ⟨gb, cap, ev, hcell⟩ := own_at (unhide Hown1) (by omega)
          simp only [Value.slice.injEq, true_and] at ev
          obtain ⟨rfl, rfl⟩ := ev
          have hx : w1.cell? ⟨gb, K, none⟩ = some (.int .i64 ((cut xs m b)[K]?.getD 0)) := by
            rw [hcell K (by omega), List.getElem?_map, getD_of_lt (by rw [unhide hlen]; omega)]; rfl
          have hne : ((cut xs m b)[K]?.getD 0 == (b : Int) - 1) = false := by simp [q5]
          generalize (cut xs m b)[K]?.getD 0 = z at *
          have hK0 : (0 : Int) < (K : Int) := by omega
          have y1 : (((K + 1 : Nat) : Int) - 1) = (K : Int) := by omega
          clear hcell q5
          go_wp2_with (at_builtin; refine wpList_append_own _ rfl _ _ 49 rfl W0.heap.size 3 i0 (.int .i64 0) 1 8 Tryd.underlying49 hi hz0 hz1 hz2 rfl (by decide) _ _ _ rfl ((unhide Hown1).alloc _) ⟨w1.heap.size, 0, none⟩ 2 2 [.int .i64 b, .int .i64 b] rfl rfl ?_ ?_ ?_ ?_ ?_ ?_)
          · exact cell_2 (by simp) (by simp)
          · intro u hu; simp at hu; subst hu; rfl
          · unfold maxLen; omega
          · omega
          · rw [sz_alloc]; omega
          intro v' w2 h5 hg5 _
          have hst := hide (show w2.ownsRow W0.heap.size 3 1 v' (2 * (m + 1)) ((cut xs (m + 1) (b + 1)).map mI) from by rw [unhide Q4, List.map_append, show 2 * (m + 1) = K + 1 + 2 by omega, hS0]; exact h5)
          have hB2 := (hB1.alloc hsz1 (.cells #[.int .i64 b, .int .i64 b] 3)).grown hg5 (by rw [sz_alloc]; omega) (fun k hk => ((unhide Hown1).lt k hk).1)
          clear h5 hg5
          go_wp2
          go_roundw
          case rel => exact ⟨b + 1, m + 1, by omega, by go_num, unhide Q3, unhide hst, hB2⟩
          case measure => simp [intOf]; omega
    · obtain rfl : b = 256 := by omega
      have hfin := cut_all (unhide Hcn) hcut
      rw [hfin] at Hown
      have hlen : xs.length = 2 * m := by rw [← cut_len xs m 256 hle, hfin]
      have hslw := hide (own_low (b' := w.heap.size) (unhide Hown) (by omega))
      have Hlen := hide hlen
      obtain ⟨oa, oc, rfl⟩ := own_is (unhide Hown)
      clear hown hcut hlen hfin
      go_wp2
      go_ret
      exact ⟨_, rfl, by rw [unhide Hlen]; exact unhide hslw, hB0.trans (hbel.mono (by omega))⟩

end Go.Proofs.YtmhafibngbojcaaDoor

namespace Go.Proofs.YtmhafibngbojcaaDoor
open Go.RowKit

set_option maxRecDepth 100000 in
set_option maxHeartbeats 2000000 in
theorem eqSet (a0 a1 a2 a3 c0 c1 c2 c3 : Int) (w : World) : (Op.equalIn 10000 67 (.agg #[.int .u64 a0, .int .u64 a1, .int .u64 a2, .int .u64 a3]) (.agg #[.int .u64 c0, .int .u64 c1, .int .u64 c2, .int .u64 c3])).run Tryd.prog w = .ok (a0 == c0 && a1 == c1 && a2 == c2 && a3 == c3) w := by
  have u3 := Tryd.underlying65
  have a3' := Tryd.isAgg65
  have z3 := Tryd.sizeOf65
  rw [show (10000 : Nat) = 9999 + 1 from rfl, Op.equalIn]
  simp only [Sem.run_bind, run_underlying Tryd.underlying67, Result.andThen_ok]
  simp only [Std.Legacy.Range.forIn_eq_forIn_range', Std.Legacy.Range.size, Nat.sub_zero, Nat.add_sub_cancel, Nat.div_one, List.range'_succ, List.range'_zero, List.forIn_cons, List.forIn_nil]
  go_simp
  by_cases h0 : a0 = c0 <;> by_cases h1 : a1 = c1 <;> by_cases h2 : a2 = c2 <;> by_cases h3 : a3 = c3 <;> simp [h0, h1, h2, h3]

theorem BK.below {base : Nat} {w w' : World} (h : Below w.heap.size w w') (hb : base ≤ w.heap.size) : BK base w w' := ⟨h.mono hb, fun k o hk _ _ => by rw [h.block k (Array.getElem?_eq_some_iff.1 hk).1]; exact hk⟩
/-- A row of numbers lies on. -/
theorem own_bk {base b n : Nat} {w w' : World} {v : Value} {xs : List Value} (h : w.ownsRow b 3 1 v n xs) (hb : BK base w w') : w'.ownsRow b 3 1 v n xs := by
  refine ⟨h.1, ?_⟩
  rcases h.2 with h2 | ⟨g, cap, cur, h1, h2, h3, h4⟩
  · exact Or.inl h2
  · exact Or.inr ⟨g, cap, cur, h1, h2, hb.o g _ h3 (by simp) (fun c fz e => by simp at e), h4⟩
theorem rngsT_mono (xs : List Int) {n m : Nat} (h : n ≤ m) : (rngsT xs n).length ≤ (rngsT xs m).length := by
  induction h with
  | refl => exact Nat.le_refl _
  | step _ ih => simp only [rngsT, List.length_append]; omega
theorem bool4 {g q : Nat → Nat} (p : Prop) (h : p ↔ (g 0 = q 0 ∧ g 1 = q 1 ∧ g 2 = q 2 ∧ g 3 = q 3)) : ((((g 0 : Int) == (q 0 : Int)) && ((g 1 : Int) == (q 1 : Int)) && ((g 2 : Int) == (q 2 : Int)) && ((g 3 : Int) == (q 3 : Int))) = true) ↔ p := by
  rw [h]
  simp only [Bool.and_eq_true, beq_iff_eq]
  omega
set_option maxHeartbeats 4000000 in
set_option maxRecDepth 100000 in
theorem appendSet_any (xs : List Int) (g : Nat → Nat) (hw : WordsOf xs g) (hc : Canon xs) (hx : xs.length ≤ 300) : AppT 31 (fun v => #[v, ws4 g]) (setT xs) := by
  intro base ov os w hown hbase hlen
  have Hown := hide hown
  obtain ⟨oa, oc, rfl⟩ := own_is hown
  have hl : os.length ≤ 100000000 := by omega
  have HLen := hide hlen
  obtain ⟨Z, hZ⟩ : ∃ Z, Z = os ++ setT xs := ⟨_, rfl⟩
  rw [← hZ]
  have HZ := hide hZ
  have HW := hide hw
  have HC := hide hc
  have hrow := hide (four_row w 67 g)
  have hB0 := below1 w (.cells #[.int .u64 (g 0 : Nat), .int .u64 (g 1 : Nat), .int .u64 (g 2 : Nat), .int .u64 (g 3 : Nat)] 67)
  clear hown hlen hZ hw hc
  unfold ws4
  go_enter Tryd.func31, Tryd.ntmps31
  go_wp2_with fail
  have hz0 : (w.alloc (.cells #[.int .u64 (g 0 : Nat), .int .u64 (g 1 : Nat), .int .u64 (g 2 : Nat), .int .u64 (g 3 : Nat)] 67)).heap.size = w.heap.size + 1 := sz_alloc _ _
  generalize w.alloc (.cells #[.int .u64 (g 0 : Nat), .int .u64 (g 1 : Nat), .int .u64 (g 2 : Nat), .int .u64 (g 3 : Nat)] 67) = W0 at *
  have hz0' : w.heap.size + 1 ≤ W0.heap.size := by omega
  clear hz0
  have Hcell : Hid (∀ W, Below W0.heap.size W0 W → W.cell? ⟨w.heap.size, 0, none⟩ = some (.int .u64 (g 0 : Nat)) ∧ W.cell? ⟨w.heap.size, 1, none⟩ = some (.int .u64 (g 1 : Nat)) ∧ W.cell? ⟨w.heap.size, 2, none⟩ = some (.int .u64 (g 2 : Nat)) ∧ W.cell? ⟨w.heap.size, 3, none⟩ = some (.int .u64 (g 3 : Nat))) := fun W hW => by
    have h := World.rowIs.of_block (unhide hrow) (hW.block w.heap.size (by omega))
    exact ⟨h.cell (i := 0) (by omega), h.cell (i := 1) (by omega), h.cell (i := 2) (by omega), h.cell (i := 3) (by omega)⟩
  obtain ⟨c0, c1, c2, c3⟩ := unhide Hcell W0 (Below.refl _ _)
  have es := eqSet
  go_region_with (
    (go_at_call 49; refine (allBytes_w _).mono ?_; rintro e w1 ⟨⟨q, rfl, hq⟩, hb1⟩; have hB1 : Below W0.heap.size W0 w1 := ⟨hb1.os, hb1.tape, hb1.output, hb1.size, hb1.block⟩; have hq4 := hide (bool4 _ (words_four (unhide HW) hq (unhide HC) canon_all)); obtain ⟨d0, d1, d2, d3⟩ := unhide Hcell w1 hB1; clear hq hb1; unfold ws4))
  all_goals
    clear c0 c1 c2 c3 d0 d1 d2 d3
    obtain ⟨B, hB⟩ : ∃ B, B = (((g 0 : Int) == (q 0 : Int)) && ((g 1 : Int) == (q 1 : Int)) && ((g 2 : Int) == (q 2 : Int)) && ((g 3 : Int) == (q 3 : Int))) := ⟨_, rfl⟩
    rw [← hB] at hq4 ⊢
    clear hB
    have hBw : Below w.heap.size w w1 := hB0.trans (hB1.mono (by omega))
    have Ho1 := hide (own_keep (unhide Hown) hBw (Nat.le_refl _))
    have hz1 := hB1.size
    cases B with
    | true =>
      have HE : Hid (Z = os ++ [91, 94, 93]) := by show Z = _; rw [unhide HZ]; unfold setT; rw [if_pos ((unhide hq4).1 rfl)]
      clear hq4
      go_wp2_with (at_builtin; refine app_strP rfl _ _ rfl base _ rfl os (unhide Ho1) (by omega) _ rfl [91, 94, 93] rfl (by simp; omega) ?_; intro v2 w2 hb2 ho2 hv2)
      go_ret
      exact ⟨_, rfl, by rw [unhide HE]; exact ho2, (BK.below hBw hbase).trans hb2⟩
    | false =>
      have HN1 : Hid (¬ xs = [0, 255]) := fun h => by have := (unhide hq4).2 h; cases this
      clear hq4
      obtain ⟨c0, c1, c2, c3⟩ := unhide Hcell w1 hB1
      go_wp2_with fail
      go_region_with (
        (go_at_call 50; refine (allBut_w _).mono ?_; rintro e w2 ⟨⟨q2, rfl, hq2⟩, hb2⟩; have hB2 : Below W0.heap.size W0 w2 := hB1.trans (Below.mono ⟨hb2.os, hb2.tape, hb2.output, hb2.size, hb2.block⟩ hz1); have hp4 := hide (bool4 _ (words_four (unhide HW) hq2 (unhide HC) canon_dot)); obtain ⟨d0, d1, d2, d3⟩ := unhide Hcell w2 hB2; clear hq2 hb2; unfold ws4))
      all_goals
        clear c0 c1 c2 c3
        obtain ⟨B2, hB2e⟩ : ∃ B, B = (((g 0 : Int) == (q2 0 : Int)) && ((g 1 : Int) == (q2 1 : Int)) && ((g 2 : Int) == (q2 2 : Int)) && ((g 3 : Int) == (q2 3 : Int))) := ⟨_, rfl⟩
        rw [← hB2e] at hp4 ⊢
        clear hB2e
        have hBw2 : Below w.heap.size w w2 := hB0.trans (hB2.mono (by omega))
        have Ho2 := hide (own_keep (unhide Hown) hBw2 (Nat.le_refl _))
        have hz2 := hB2.size
        cases B2 with
        | true =>
          have HE : Hid (Z = os ++ [46]) := by show Z = _; rw [unhide HZ]; unfold setT; rw [if_neg (unhide HN1), if_pos ((unhide hp4).1 rfl)]
          clear hp4
          go_wp2_with (at_builtin; refine app_litB (w := w2) _ rfl _ _ rfl base _ rfl os (unhide Ho2) (by omega) [46] rfl rfl (by simp) (by simp; omega) ?_; intro v3 w3 hb3 ho3 hv3)
          go_ret
          exact ⟨_, rfl, by rw [unhide HE]; exact ho3, (BK.below hBw2 hbase).trans hb3⟩
        | false =>
          have HT : Hid (Z = os ++ if xs.length = 2 ∧ xs[0]?.getD 0 = xs[1]?.getD 0 then byT (xs[0]?.getD 0) else 91 :: rngsT xs (xs.length / 2) ++ [93]) := by show Z = _; rw [unhide HZ]; unfold setT; rw [if_neg (unhide HN1), if_neg (fun h => by have := (unhide hp4).2 h; cases this)]
          clear hp4
          go_wp2_with fail
          refine (pairs_own g xs _ (unhide HW) (unhide HC)).mono ?_
          rintro e w3 ⟨v3, rfl, ho3, hb3⟩
          have hBw3 : Below w.heap.size w w3 := hBw2.trans (hb3.mono hBw2.size)
          have Hp3 := hide ho3
          obtain ⟨pa, pc, rfl⟩ := own_is ho3
          have Ho3 := hide (own_keep (unhide Hown) hBw3 (Nat.le_refl _))
          have hz3 := hBw3.size
          have HPC : Hid (∀ W : World, BK base w3 W → ∀ i : Nat, i < xs.length → ∃ b, pa = some ⟨b, 0, none⟩ ∧ W.cell? ⟨b, i, none⟩ = some (.int .i64 (xs[i]?.getD 0))) := fun W hW i hi => by
            obtain ⟨b, cap, ev, hcell⟩ := own_at (own_bk (unhide Hp3) hW) (by omega)
            simp only [Value.slice.injEq, true_and] at ev
            obtain ⟨rfl, rfl⟩ := ev
            refine ⟨b, rfl, ?_⟩
            rw [hcell i hi, List.getElem?_map, getD_of_lt hi]
            rfl
          have Hby := hide (unhide HC).2.1
          have hev := (unhide HC).1
          have Hpo : Hid (∀ m : Nat, 2 * m < xs.length → xs[2 * m]?.getD 0 ≤ xs[2 * m + 1]?.getD 0) := fun m hm => ((unhide HC).2.2 m hm).1
          clear ho3 hb3 d0 d1 d2 d3
          by_cases g9 : xs.length = 2 ∧ xs[0]?.getD 0 = xs[1]?.getD 0
          · have HE := hide ((unhide HT).trans (congrArg (os ++ ·) (if_pos g9)))
            obtain ⟨g1, g2⟩ := g9
            obtain ⟨b, rfl, k0⟩ := unhide HPC w3 (BK.refl _ _) 0 (by omega)
            obtain ⟨b', e', k1⟩ := unhide HPC w3 (BK.refl _ _) 1 (by omega)
            cases e'
            have q0 := unhide Hby 0 (by omega)
            rw [← g2] at k1
            have hbl := byT_len (xs[0]?.getD 0)
            generalize xs[0]?.getD 0 = x0 at *
            have e2 : ((xs.length : Int) == 2) = true := by simp; omega
            have l0 : (0 : Int) < (xs.length : Int) := by omega
            have l1 : (1 : Int) < (xs.length : Int) := by omega
            clear HT g2 g1 hx
            go_wp2_with fail
            go_quiet (fail)
            go_wp2_with fail
            refine (appendByte_any x0 (by omega) (by omega) base _ os _ (by exact own_keep (unhide Ho3) (below_drewN (Below.refl _ _) nq) (Nat.le_refl _)) (by show base ≤ w3.heap.size; omega) (by have h1 := unhide HLen; rw [show (setT xs).length = (byT x0).length by have := congrArg List.length ((unhide HZ).symm.trans (unhide HE)); rw [List.length_append, List.length_append] at this; omega] at h1; exact h1)).mono ?_
            rintro e w4 ⟨v4, rfl, ho4, hb4⟩
            rw [← unhide HE] at ho4
            have Ho4 := hide ho4
            obtain ⟨a4, c4, rfl⟩ := own_is ho4
            clear ho4
            have hBK4 : BK base w w4 := ((BK.below hBw3 hbase).trans (BK.below (below_drewN (Below.refl _ _) nq) (by omega))).trans hb4
            go_wp2
            go_ret
            exact ⟨_, rfl, unhide Ho4, hBK4⟩
          · have HE := hide ((unhide HT).trans (congrArg (os ++ ·) (if_neg g9)))
            have dd : (((xs.length : Int) == 2) = false) ∨ (xs.length = 2 ∧ (xs[0]?.getD 0 == xs[1]?.getD 0) = false) := by
              by_cases q : xs.length = 2
              · exact Or.inr ⟨q, by simp only [beq_eq_false_iff_ne]; exact fun h => g9 ⟨q, h⟩⟩
              · exact Or.inl (by simp; omega)
            clear HT g9
            rcases dd with d | ⟨d1, d2⟩
            · go_wp2_with fail
              go_quiet (fail)
              have hBd : BK base w3 (w3.drewN nq) := BK.below (below_drewN (Below.refl _ _) nq) (by omega)
              have Hod := hide (own_keep (unhide Ho3) (below_drewN (Below.refl _ _) nq) (Nat.le_refl _))
              have hzd := hBd.size
              generalize w3.drewN nq = wd at *
              go_wp2_with (at_builtin; refine app_litB (w := wd) _ rfl _ _ rfl base _ rfl os (unhide Hod) (by omega) [91] rfl rfl (by simp) (by simp; omega) ?_; intro v4 w4 hb4 ho4 hv4; obtain ⟨Y0, hY0⟩ : ∃ Y, Y = os ++ [91] := ⟨_, rfl⟩; rw [← hY0] at ho4; have HY0 := hide hY0; have Ho4 := hide ho4; obtain ⟨a4, c4, rfl⟩ := own_is ho4; have hz4 := hb4.size; clear ho4 hY0 hv4)
              go_loopw [0, 6] (fun ov iv wr => ∃ (n : Nat) (Y : List Int), 2 * n ≤ xs.length ∧ iv = .int .i64 ((2 * n : Nat) : Int) ∧ Y = os ++ [91] ++ rngsT xs n ∧ wr.ownsRow base 5 1 ov Y.length (Y.map mB) ∧ BK base w3 wr) (fun _ iv _ => xs.length - (intOf iv).toNat)
              case atStart => exact ⟨0, Y0, Nat.zero_le _, rfl, by rw [unhide HY0]; simp [rngsT], unhide Ho4, hBd.trans hb4⟩
              case round =>
                obtain ⟨n, Y, hn, rfl, hY, hoY, hbk⟩ := hrel
                have hYl : Y.length ≤ 100003000 := by have := rngsT_len xs n; rw [hY, List.length_append, List.length_append, List.length_singleton]; omega
                have HoY := hide hoY
                obtain ⟨ya, yc, rfl⟩ := own_is hoY
                have hzr := hbk.size
                have HYe := hide hY
                clear hoY hY
                by_cases hlt : 2 * n < xs.length
                · obtain ⟨m, hm⟩ : ∃ m, m = 2 * n := ⟨_, rfl⟩
                  obtain ⟨b, rfl, k0⟩ := unhide HPC wr hbk m (by omega)
                  obtain ⟨b', e', k1⟩ := unhide HPC wr hbk (m + 1) (by omega)
                  cases e'
                  have q0 := unhide Hby m (by omega)
                  have q1 := unhide Hby (m + 1) (by omega)
                  have q2 : xs[m]?.getD 0 ≤ xs[m + 1]?.getD 0 := by rw [hm]; exact unhide Hpo n hlt
                  have HR : Hid (rngsT xs (n + 1) = rngsT xs n ++ rngT (xs[m]?.getD 0) (xs[m + 1]?.getD 0)) := by show rngsT xs (n + 1) = _; rw [hm]; rfl
                  have hmi : ((2 * n : Nat) : Int) = (m : Int) := by omega
                  have f0 : (m : Int) < (xs.length : Int) := by omega
                  have f1 : (m : Int) + 1 < (xs.length : Int) := by omega
                  have f3 : IntKind.i64.wrap ((m : Int) + 1) = (m : Int) + 1 := k64i (by omega) (by omega)
                  have f4 : IntKind.i64.wrap ((m : Int) + 2) = (m : Int) + 2 := k64i (by omega) (by omega)
                  have f5 : (0 : Int) ≤ (m : Int) + 1 := by omega
                  rw [hmi]
                  generalize xs[m]?.getD 0 = lo at *
                  generalize xs[m + 1]?.getD 0 = hi at *
                  have hm1 : m ≤ 2 * n := by omega
                  have hm2 : 2 * n ≤ m := by omega
                  have hrg := rngT_len lo hi
                  have hAL : Y.length + (rngT lo hi).length ≤ 100000000 := by
                    have e1 := congrArg List.length (unhide HR)
                    have e2 := congrArg List.length (unhide HYe)
                    have e3 := congrArg List.length ((unhide HZ).symm.trans (unhide HE))
                    have e4 := rngsT_mono xs (show n + 1 ≤ xs.length / 2 by omega)
                    have e5 := unhide HLen
                    simp only [List.length_append, List.length_cons, List.length_nil] at e1 e2 e3
                    omega
                  clear hm hmi
                  have HA := hide (appendRange_any lo hi (by omega) q2 (by omega) base (.slice ya Y.length yc) Y)
                  go_wp2_with fail
                  go_region_with (
                    (go_at_call 53; refine (unhide HA _ (by exact own_keep (unhide HoY) (below_drewN (Below.refl _ _) 1) (Nat.le_refl _)) (by show base ≤ wr.heap.size; omega) hAL).mono ?_; rintro e w5 ⟨v5, rfl, ho5, hb5⟩; have hb5' : BK base wr w5 := ⟨⟨hb5.b.os, hb5.b.tape, hb5.b.output, hb5.b.size, hb5.b.block⟩, hb5.o⟩; obtain ⟨Y5, hY5⟩ : ∃ Y5, Y5 = Y ++ rngT lo hi := ⟨_, rfl⟩; rw [← hY5] at ho5; have HY5 := hide hY5; have Ho5 := hide ho5; obtain ⟨a5, c5, rfl⟩ := own_is ho5; clear ho5 hY5 hb5))
                  all_goals go_wp2
                  all_goals exact ⟨⟨n + 1, Y5, by omega, by rw [show ((2 * (n + 1) : Nat) : Int) = (m : Int) + 2 by omega], by rw [unhide HY5, unhide HYe, unhide HR]; simp, unhide Ho5, hbk.trans hb5'⟩, by simp [intOf]; omega⟩
                · obtain ⟨m, hm⟩ : ∃ m, m = 2 * n := ⟨_, rfl⟩
                  have hmi : ((2 * n : Nat) : Int) = (m : Int) := by omega
                  have hlt' : ¬ (m : Int) < (xs.length : Int) := by omega
                  rw [hmi]
                  have hnn : Hid (n = xs.length / 2) := by show n = xs.length / 2; omega
                  have HF : Hid (Z = Y ++ [93]) := by show Z = _; rw [unhide HE, unhide HYe, unhide hnn]; simp
                  have hBr : BK base w wr := (BK.below hBw3 hbase).trans hbk
                  clear hm hmi
                  go_wp2_with (at_builtin; refine app_litB (w := wr) _ rfl _ _ rfl base _ rfl Y (unhide HoY) (by omega) [93] rfl rfl (by simp) (by rw [List.length_singleton]; omega) ?_; intro v6 w6 hb6 ho6 hv6)
                  go_ret
                  exact ⟨_, rfl, by rw [unhide HF]; exact ho6, hBr.trans hb6⟩
            · have e2 : ((xs.length : Int) == 2) = true := by simp; omega
              have l0 : (0 : Int) < (xs.length : Int) := by omega
              have l1 : (1 : Int) < (xs.length : Int) := by omega
              obtain ⟨b0, rfl, k0⟩ := unhide HPC w3 (BK.refl _ _) 0 (by omega)
              obtain ⟨b', e', k1⟩ := unhide HPC w3 (BK.refl _ _) 1 (by omega)
              cases e'
              clear d1
              generalize xs[0]?.getD 0 = x0 at k0 d2
              generalize xs[1]?.getD 0 = x1 at k1 d2
              go_wp2_with fail
              go_quiet (fail)
              clear k0 k1 e2 l0 l1 d2
              have hBd : BK base w3 (w3.drewN nq) := BK.below (below_drewN (Below.refl _ _) nq) (by omega)
              have Hod := hide (own_keep (unhide Ho3) (below_drewN (Below.refl _ _) nq) (Nat.le_refl _))
              have hzd := hBd.size
              generalize w3.drewN nq = wd at *
              go_wp2_with (at_builtin; refine app_litB (w := wd) _ rfl _ _ rfl base _ rfl os (unhide Hod) (by omega) [91] rfl rfl (by simp) (by simp; omega) ?_; intro v4 w4 hb4 ho4 hv4; obtain ⟨Y0, hY0⟩ : ∃ Y, Y = os ++ [91] := ⟨_, rfl⟩; rw [← hY0] at ho4; have HY0 := hide hY0; have Ho4 := hide ho4; obtain ⟨a4, c4, rfl⟩ := own_is ho4; have hz4 := hb4.size; clear ho4 hY0 hv4)
              go_loopw [0, 6] (fun ov iv wr => ∃ (n : Nat) (Y : List Int), 2 * n ≤ xs.length ∧ iv = .int .i64 ((2 * n : Nat) : Int) ∧ Y = os ++ [91] ++ rngsT xs n ∧ wr.ownsRow base 5 1 ov Y.length (Y.map mB) ∧ BK base w3 wr) (fun _ iv _ => xs.length - (intOf iv).toNat)
              case atStart => exact ⟨0, Y0, Nat.zero_le _, rfl, by rw [unhide HY0]; simp [rngsT], unhide Ho4, hBd.trans hb4⟩
              case round =>
                obtain ⟨n, Y, hn, rfl, hY, hoY, hbk⟩ := hrel
                have hYl : Y.length ≤ 100003000 := by have := rngsT_len xs n; rw [hY, List.length_append, List.length_append, List.length_singleton]; omega
                have HoY := hide hoY
                obtain ⟨ya, yc, rfl⟩ := own_is hoY
                have hzr := hbk.size
                have HYe := hide hY
                clear hoY hY
                by_cases hlt : 2 * n < xs.length
                · obtain ⟨m, hm⟩ : ∃ m, m = 2 * n := ⟨_, rfl⟩
                  obtain ⟨b9, e9, k0⟩ := unhide HPC wr hbk m (by omega)
                  cases e9
                  obtain ⟨b', e', k1⟩ := unhide HPC wr hbk (m + 1) (by omega)
                  cases e'
                  have q0 := unhide Hby m (by omega)
                  have q1 := unhide Hby (m + 1) (by omega)
                  have q2 : xs[m]?.getD 0 ≤ xs[m + 1]?.getD 0 := by rw [hm]; exact unhide Hpo n hlt
                  have HR : Hid (rngsT xs (n + 1) = rngsT xs n ++ rngT (xs[m]?.getD 0) (xs[m + 1]?.getD 0)) := by show rngsT xs (n + 1) = _; rw [hm]; rfl
                  have hmi : ((2 * n : Nat) : Int) = (m : Int) := by omega
                  have f0 : (m : Int) < (xs.length : Int) := by omega
                  have f1 : (m : Int) + 1 < (xs.length : Int) := by omega
                  have f3 : IntKind.i64.wrap ((m : Int) + 1) = (m : Int) + 1 := k64i (by omega) (by omega)
                  have f4 : IntKind.i64.wrap ((m : Int) + 2) = (m : Int) + 2 := k64i (by omega) (by omega)
                  have f5 : (0 : Int) ≤ (m : Int) + 1 := by omega
                  rw [hmi]
                  generalize xs[m]?.getD 0 = lo at *
                  generalize xs[m + 1]?.getD 0 = hi at *
                  have hm1 : m ≤ 2 * n := by omega
                  have hm2 : 2 * n ≤ m := by omega
                  have hrg := rngT_len lo hi
                  have hAL : Y.length + (rngT lo hi).length ≤ 100000000 := by
                    have e1 := congrArg List.length (unhide HR)
                    have e2 := congrArg List.length (unhide HYe)
                    have e3 := congrArg List.length ((unhide HZ).symm.trans (unhide HE))
                    have e4 := rngsT_mono xs (show n + 1 ≤ xs.length / 2 by omega)
                    have e5 := unhide HLen
                    simp only [List.length_append, List.length_cons, List.length_nil] at e1 e2 e3
                    omega
                  clear hm hmi
                  have HA := hide (appendRange_any lo hi (by omega) q2 (by omega) base (.slice ya Y.length yc) Y)
                  go_wp2_with fail
                  go_region_with (
                    (go_at_call 53; refine (unhide HA _ (by exact own_keep (unhide HoY) (below_drewN (Below.refl _ _) 1) (Nat.le_refl _)) (by show base ≤ wr.heap.size; omega) hAL).mono ?_; rintro e w5 ⟨v5, rfl, ho5, hb5⟩; have hb5' : BK base wr w5 := ⟨⟨hb5.b.os, hb5.b.tape, hb5.b.output, hb5.b.size, hb5.b.block⟩, hb5.o⟩; obtain ⟨Y5, hY5⟩ : ∃ Y5, Y5 = Y ++ rngT lo hi := ⟨_, rfl⟩; rw [← hY5] at ho5; have HY5 := hide hY5; have Ho5 := hide ho5; obtain ⟨a5, c5, rfl⟩ := own_is ho5; clear ho5 hY5 hb5))
                  all_goals go_wp2
                  all_goals exact ⟨⟨n + 1, Y5, by omega, by rw [show ((2 * (n + 1) : Nat) : Int) = (m : Int) + 2 by omega], by rw [unhide HY5, unhide HYe, unhide HR]; simp, unhide Ho5, hbk.trans hb5'⟩, by simp [intOf]; omega⟩
                · obtain ⟨m, hm⟩ : ∃ m, m = 2 * n := ⟨_, rfl⟩
                  have hmi : ((2 * n : Nat) : Int) = (m : Int) := by omega
                  have hlt' : ¬ (m : Int) < (xs.length : Int) := by omega
                  rw [hmi]
                  have hnn : Hid (n = xs.length / 2) := by show n = xs.length / 2; omega
                  have HF : Hid (Z = Y ++ [93]) := by show Z = _; rw [unhide HE, unhide HYe, unhide hnn]; simp
                  have hBr : BK base w wr := (BK.below hBw3 hbase).trans hbk
                  clear hm hmi
                  go_wp2_with (at_builtin; refine app_litB (w := wr) _ rfl _ _ rfl base _ rfl Y (unhide HoY) (by omega) [93] rfl rfl (by simp) (by rw [List.length_singleton]; omega) ?_; intro v6 w6 hb6 ho6 hv6)
                  go_ret
                  exact ⟨_, rfl, by rw [unhide HF]; exact ho6, hBr.trans hb6⟩

end Go.Proofs.YtmhafibngbojcaaDoor

namespace Go.Proofs.YtmhafibngbojcaaDoor
open Go.RowKit

/-! The values of the nodes. -/
def eV : Value := .iface 64 (.agg #[])
def sV (g : Nat → Nat) : Value := .iface 69 (ws4 g)
def cV (u v : Value) : Value := .iface 72 (.agg #[u, v])
def aV (u v : Value) : Value := .iface 74 (.agg #[u, v])
def rV (u : Value) (mn mx : Int) : Value := .iface 76 (.agg #[u, .int .i64 mn, .int .i64 mx])

end Go.Proofs.YtmhafibngbojcaaDoor
