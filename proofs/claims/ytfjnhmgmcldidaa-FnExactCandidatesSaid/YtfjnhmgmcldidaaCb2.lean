import Derived.Test.YtfjnhmgmcldidaaCb1
import Derived.Laws.Bits64b
import Derived.BigRegion
namespace Go.Proofs.Ytfjnhmgmcldidaa
open Go.RowKit

set_option maxHeartbeats 4000000 in
set_option maxRecDepth 100000 in
theorem within_any (v u : Value) (base : Int) (xss pss qss : List (List Int)) (ks : List Int) (w : World) (hv : SegRd w v base xss ks pss) (hu : SsAt mI 0 w.heap.size w u qss) :
    Calls Try.prog 25 #[v, .agg #[u]] w fun e w' => RetB e (Rch xss ks pss qss) ∧ Below w.heap.size w w' := by
  obtain ⟨lv, kv, pv, rfl, h1, h2, h3⟩ := hv
  obtain ⟨la, lc, rfl, -, -⟩ := id h1
  obtain ⟨ka, kc, rfl, -, -⟩ := id h2
  obtain ⟨pa, pc, rfl, -, -⟩ := id h3
  obtain ⟨ua, uc, rfl, -, -⟩ := id hu
  obtain ⟨W2, hW2⟩ : ∃ W2, W2 = (w.alloc (.cells #[.int .i64 base, .slice la xss.length lc, .slice ka ks.length kc, .slice pa pss.length pc] 32)).alloc (.cells #[.slice ua qss.length uc] 34) := ⟨_, rfl⟩
  have hB2 : Below w.heap.size w W2 := by rw [hW2]; exact below2 w _ _
  have hz2 : W2.heap.size = w.heap.size + 2 := by rw [hW2, sz_alloc, sz_alloc]
  have hR2 : Row4 W2 w.heap.size 32 (.int .i64 base) (.slice la xss.length lc) (.slice ka ks.length kc) (.slice pa pss.length pc) := by rw [hW2]; exact (Row4.new w _ _ _ _ _).alloc _
  have hq : W2.cell? ⟨w.heap.size + 1, 0, none⟩ = some (.slice ua qss.length uc) := by
    have := (pushd_al (w.alloc (.cells #[.int .i64 base, .slice la xss.length lc, .slice ka ks.length kc, .slice pa pss.length pc] 32)) (.cells #[.slice ua qss.length uc] 34)).news 0 _ rfl
    rw [sz_alloc] at this
    rw [hW2]
    exact this
  have HNP := hide (noneLonger_any _ pss 1000 W2 (h3.below hB2 (Nat.le_refl _)))
  have HNQ : Hid (∀ V, Below W2.heap.size W2 V → Calls Try.prog 39 #[.slice ua qss.length uc, .int .i64 ((1000 : Nat) : Int)] V fun e w' => RetB e (ShrtS qss 1000) ∧ Below V.heap.size V w') := fun V hV => noneLonger_any _ qss 1000 V ((hu.below hB2 (Nat.le_refl _)).below hV (Nat.le_refl _))
  obtain ⟨k0, k1, k2, k3, -⟩ := hR2.facts
  have HW2 := hide hW2
  have HB2 := hide hB2
  have HQ := hide hq
  have hz2' : w.heap.size + 2 ≤ W2.heap.size := by omega
  clear h1 h2 h3 hu hW2 hB2 hR2 hz2
  go_enter Try.func25, Try.ntmps25
  by_cases e1 : xss.length ≤ 1000
  · by_cases e2 : ks.length ≤ 20000
    · have f1 : (xss.length : Int) ≤ 1000 := by omega
      have f2 : (ks.length : Int) ≤ 20000 := by omega
      go_wp2_with fail
      rw [← unhide HW2]
      refine (unhide HNP).mono ?_
      rintro e w3 ⟨hret, hb3⟩
      have hB3 : Below w.heap.size w w3 := (unhide HB2).trans (hb3.mono (unhide HB2).size)
      have hq3 : w3.cell? ⟨w.heap.size + 1, 0, none⟩ = some (.slice ua qss.length uc) := by rw [hb3.cell (p := ⟨w.heap.size + 1, 0, none⟩) (by show w.heap.size + 1 < _; omega)]; exact unhide HQ
      rcases hret.cases with ⟨rfl, hp⟩ | ⟨rfl, hp⟩
      · by_cases e3 : qss.length ≤ 1000
        · have f3 : (qss.length : Int) ≤ 1000 := by omega
          have HN2 := hide (unhide HNQ w3 hb3)
          have HP := hide hp
          clear hp hret hb3 HNP HNQ
          go_wp2_with fail
          refine (unhide HN2).mono ?_
          rintro e w4 ⟨hret, hb4⟩
          have hB4 : Below w.heap.size w w4 := hB3.trans (hb4.mono hB3.size)
          rcases hret.cases with ⟨rfl, hs⟩ | ⟨rfl, hs⟩
          · have HX : Hid (RetB (.returned (.bool true)) (Rch xss ks pss qss)) := RetB.yes ⟨e1, e2, unhide HP, e3, hs⟩
            clear hs hret hb4 HN2
            go_wp2
            go_ret
            exact ⟨unhide HX, hB4⟩
          · have HX : Hid (RetB (.returned (.bool false)) (Rch xss ks pss qss)) := RetB.no (fun h => hs h.2.2.2.2)
            clear hs hret hb4 HN2
            go_wp2
            go_ret
            exact ⟨unhide HX, hB4⟩
        · have f3 : ¬ (qss.length : Int) ≤ 1000 := by omega
          have HX : Hid (RetB (.returned (.bool false)) (Rch xss ks pss qss)) := RetB.no (fun h => e3 h.2.2.2.1)
          clear hp hret hb3 HNP HNQ
          go_wp2
          go_ret
          exact ⟨unhide HX, hB3⟩
      · have HX : Hid (RetB (.returned (.bool false)) (Rch xss ks pss qss)) := RetB.no (fun h => hp h.2.2.1)
        clear hp hret hb3 HNP HNQ
        go_wp2
        go_ret
        exact ⟨unhide HX, hB3⟩
    · have f1 : (xss.length : Int) ≤ 1000 := by omega
      have f2 : ¬ (ks.length : Int) ≤ 20000 := by omega
      have HX : Hid (RetB (.returned (.bool false)) (Rch xss ks pss qss)) := RetB.no (fun h => e2 h.2.1)
      go_wp2
      rw [← unhide HW2]
      go_ret
      exact ⟨unhide HX, unhide HB2⟩
  · have f1 : ¬ (xss.length : Int) ≤ 1000 := by omega
    have HX : Hid (RetB (.returned (.bool false)) (Rch xss ks pss qss)) := RetB.no (fun h => e1 h.1)
    go_wp2
    rw [← unhide HW2]
    go_ret
    exact ⟨unhide HX, unhide HB2⟩

/-- A set of lines as words. -/
def LnF (g : Nat → Nat) : Prop := ∀ j : Nat, g j < 18446744073709551616
def LnB (g : Nat → Nat) (b : Nat) : Bool := (g (b / 64)).testBit (b % 64)
def lnW (g : Nat → Nat) (j : Nat) : Value := .int .u64 (g j : Nat)
def lnP (g : Nat → Nat) (k : Nat) : Nat → Nat := fun j => if j = k / 64 then g (k / 64) ||| 2 ^ (k % 64) else g j
theorem ln_or (a i : Nat) (ha : a < 18446744073709551616) (hi : i < 64) : bits .or .u64 (a : Int) (IntKind.u64.wrap (2 ^ i)) = ((a ||| 2 ^ i : Nat) : Int) := by
  have h1 : (2 : Nat) ^ i < 2 ^ 64 := Nat.pow_lt_pow_right (by omega) hi
  have h2 : IntKind.u64.wrap ((2 : Int) ^ i) = ((2 ^ i : Nat) : Int) := by
    rw [IntKind.wrap_u64, Int.natCast_pow]
    have : ((2 ^ i : Nat) : Int) < 18446744073709551616 := by omega
    rw [Int.natCast_pow] at this
    have h0 : (0 : Int) ≤ (2 : Int) ^ i := Int.pow_nonneg (by omega)
    exact Int.emod_eq_of_lt h0 this
  rw [h2]
  exact bits_or_u64_nat a (2 ^ i) ha (by omega)
theorem lnF_put {g : Nat → Nat} (h : LnF g) (k : Nat) : LnF (lnP g k) := fun j => by
  unfold lnP
  split
  · have h1 : (2 : Nat) ^ (k % 64) < 2 ^ 64 := Nat.pow_lt_pow_right (by omega) (by omega)
    have h2 := h (k / 64)
    have : g (k / 64) ||| 2 ^ (k % 64) < 2 ^ 64 := Nat.or_lt_two_pow (by omega) h1
    omega
  · exact h j
theorem lnB_put (g : Nat → Nat) (k b : Nat) : LnB (lnP g k) b = (LnB g b || decide (b = k)) := by
  unfold LnB lnP
  by_cases e : b / 64 = k / 64
  · simp only [e, if_true, Nat.testBit_or, Nat.testBit_two_pow]
    congr 1
    by_cases e2 : k % 64 = b % 64
    · have : b = k := by omega
      simp [e2, this]
    · have : b ≠ k := fun h => e2 (by rw [h])
      simp [e2, this]
  · have : b ≠ k := fun h => e (by rw [h])
    simp [e, this]
theorem ln_shr (a i : Nat) (ha : a < 18446744073709551616) : (bits .and .u64 ((a : Int) / 2 ^ i) 1 == 1) = a.testBit i := by
  have h1 : (a : Int) / 2 ^ i = ((a / 2 ^ i : Nat) : Int) := by rw [Int.natCast_ediv, Int.natCast_pow]; rfl
  have h2 : a / 2 ^ i < 18446744073709551616 := Nat.lt_of_le_of_lt (Nat.div_le_self _ _) ha
  rw [h1, show (1 : Int) = ((1 : Nat) : Int) from rfl, bits_and_u64_nat _ _ h2 (by omega), Nat.and_one_is_mod, Nat.testBit_eq_decide_div_mod_eq]
  by_cases e : a / 2 ^ i % 2 = 1
  · simp [e]
  · have e0 : a / 2 ^ i % 2 = 0 := by omega
    simp [e0]
theorem ret_bl {a b : Bool} (h : a = b) : (Ending.returned (.bool a)) = .returned (.bool b) := by rw [h]

set_option maxHeartbeats 1000000 in
theorem lnPut_any (b i : Nat) (g : Nat → Nat) (w : World) (hg : LnF g) (hi : i < 1024) (hrow : w.rowIs b 55 16 (lnW g)) :
    Calls Try.prog 27 #[.pointer (some ⟨b, 0, none⟩), .int .i64 (i : Nat)] w fun e w' => e = .returned (.tuple #[]) ∧ w'.rowIs b 55 16 (lnW (lnP g i)) ∧ Obk b w w' := by
  have hq : i / 64 < 16 := by omega
  have c0 := hrow.cell hq
  have f0 := hrow.frozen (i / 64)
  unfold lnW at c0
  have hq' : ((i / 64 : Nat) : Int) < 16 := by omega
  have hq2 : (i : Int) / 64 < 16 := by omega
  have hq3 : 0 ≤ (i : Int) / 64 := by omega
  have hor := ln_or (g (i / 64)) (i % 64) (hg _) (by omega)
  have Hor := hide hor
  have HR := hide hrow
  clear hrow hor hg
  go_enter Try.func27, Try.ntmps27
  go_region
  go_wp2
  rw [unhide Hor]
  first | (refine bodyPost_ret (results_none rfl _ _ _) rfl ?_) | (refine bodyPost_end (results_none rfl _ _ _) rfl ?_)
  exact ⟨rfl, (((unhide HR).set (i / 64) _).congr (fun j _ => by unfold lnW lnP; by_cases e : j = i / 64 <;> simp [e])).drew, (obk_put _ _).drew⟩

set_option maxHeartbeats 1000000 in
theorem lnHas_any (b i : Nat) (g : Nat → Nat) (w : World) (hg : LnF g) (hi : i < 1024) (hrow : w.rowIs b 55 16 (lnW g)) :
    Calls Try.prog 30 #[.pointer (some ⟨b, 0, none⟩), .int .i64 (i : Nat)] w fun e w' => e = .returned (.bool (LnB g i)) ∧ w' = w := by
  have hbt : Hid ((bits .and .u64 ((g (i / 64) : Int) / 2 ^ (i % 64)) 1 == 1) = LnB g i) := ln_shr _ _ (hg _)
  have hq : i / 64 < 16 := by omega
  have c0 := hrow.cell hq
  unfold lnW at c0
  have hq2 : (i : Int) / 64 < 16 := by omega
  have hq3 : 0 ≤ (i : Int) / 64 := by omega
  clear hrow hg
  go_enter Try.func30, Try.ntmps30
  go_wp2
  go_ret
  exact ⟨ret_bl (unhide hbt), rfl⟩

end Go.Proofs.Ytfjnhmgmcldidaa
