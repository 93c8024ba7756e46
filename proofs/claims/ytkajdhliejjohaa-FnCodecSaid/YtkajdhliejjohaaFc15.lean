import Derived.Test.YtkajdhliejjohaaFc10
namespace Go.Proofs.Ytkajdhliejjohaa
open Go.RowKit

/-- The code's own bytes. -/
def raw : Nat → List Int → List Int
  | 0, _ => []
  | m + 1, xs => xs.headD 0 :: raw m xs.tail
theorem raw_ok : ∀ (m : Nat) (xs : List Int), Cod xs → (raw m xs).length = m ∧ Cod (raw m xs)
  | 0, xs, h => ⟨rfl, (fun x hx => absurd hx (List.not_mem_nil))⟩
  | m + 1, xs, h => by
    have h1 := raw_ok m xs.tail h.tail
    unfold raw
    refine ⟨by simp only [List.length_cons]; omega, fun x hx => ?_⟩
    rcases List.mem_cons.1 hx with rfl | hx
    · exact h.head
    · exact h1.2 x hx

set_option maxHeartbeats 8000000 in
set_option maxRecDepth 100000 in
theorem drawDec_0 (code : List Int) (hc : Cod code) (hk : (code.take 600).headD 0 % 16 = 0) : ∃ bs, Bytes bs ∧ bs.length ≤ 1048576 ∧ ∀ (v : Value) (w : World), SlAt mB 0 0 w.heap.size w v code → CapOk v →
    Calls Try.prog 4 #[v] w (DrawnB w bs) := by
  obtain ⟨xs, hxs⟩ : ∃ xs, code.take 600 = xs := ⟨_, rfl⟩
  have hx : Cod xs := by rw [← hxs]; exact fun x h => hc x (List.mem_of_mem_take h)
  rw [hxs] at hk
  have hh := hx.head
  have hh2 := hx.tail.head
  have HX := hide hx
  have HXS := hide hxs
  obtain ⟨k, hy⟩ : ∃ y, xs.headD 0 = y := ⟨_, rfl⟩
  obtain ⟨y2, hy2⟩ : ∃ y, xs.tail.headD 0 = y := ⟨_, rfl⟩
  rw [hy] at hk hh
  rw [hy2] at hh2
  have HY := hide hy
  have HY2 := hide hy2
  obtain ⟨n, hn⟩ : ∃ n : Nat, y2 % 30 = (n : Int) := ⟨(y2 % 30).toNat, by omega⟩
  have hn8 : n ≤ 29 := by omega
  have HN := hide hn
  have hro := raw_ok n xs.tail.tail hx.tail.tail
  clear hx hxs hy hy2 hc hn
  obtain ⟨R, hR⟩ : ∃ R, raw n xs.tail.tail = R := ⟨_, rfl⟩
  rw [hR] at hro
  have HR := hide hR
  have HRB := hide (bytes_of_mem hro.2)
  have HRL := hide hro.1
  clear hR
  obtain ⟨X, hX⟩ : ∃ X, R ++ ckB (ck R) = X := ⟨_, rfl⟩
  have hXb : Bytes X := by rw [← hX]; exact cod_ck (unhide HRB)
  have hXl : X.length ≤ 20000 := by rw [← hX, List.length_append, ckB_len, unhide HRL]; omega
  refine ⟨X, hXb, by omega, fun v w hv hcap => ?_⟩
  have HXe := hide hX
  clear hXb hX hro
  have HV := hide hv
  have HCAP := hide hcap
  obtain ⟨a, cap, rfl, -, -⟩ := hv
  clear hcap
  go_enter Try.func4, Try.ntmps4
  go_wp2_with fail
  refine (l1open_any _ code w (unhide HV) (unhide HCAP)).mono ?_
  rintro e w1 ⟨rfl, hc1, hz1, hb1⟩
  rw [unhide HXS] at hc1
  have HC1 := hide hc1
  have hz1' : w.heap.size < w1.heap.size := by omega
  clear hc1 hz1
  go_wp2_with fail
  refine (next_any w.heap.size w.heap.size xs w1 (unhide HC1) (unhide HX)).mono ?_
  rintro e w2 ⟨he, hc2, ho2⟩
  rw [unhide HY] at he
  subst he
  have hz2 : w.heap.size < w2.heap.size := Nat.lt_of_lt_of_le hz1' (Nat.le_of_eq ho2.size.symm)
  have hB2 : Below w.heap.size w w2 := hb1.trans (ho2.below (Nat.le_refl _))
  have HC2 := hide hc2
  clear hc2 ho2 HC1 hb1
  go_wp2_with fail
  refine (next_any w.heap.size w.heap.size xs.tail w2 (unhide HC2) (unhide HX).tail).mono ?_
  rintro e w3 ⟨he, hc3, ho3⟩
  rw [unhide HY2] at he
  subst he
  have hz3 : w.heap.size < w3.heap.size := Nat.lt_of_lt_of_le hz2 (Nat.le_of_eq ho3.size.symm)
  have HB3 := hide (hB2.trans (ho3.below (Nat.le_refl _)))
  have HC3 := hide hc3
  clear hc3 ho3 HC2 hB2
  go_wp2
  go_loopw [5, 7, 8] (fun ov i cv wr => ∃ (m : Nat) (zs os : List Int), m ≤ n ∧ i = .int .i64 (m : Nat) ∧ Cod zs ∧ os.length = m ∧ os ++ raw (n - m) zs = R ∧ wr.ownsRow w3.heap.size 5 1 ov m (os.map mB) ∧ CdAt w.heap.size w.heap.size wr zs ∧ Mv w3.heap.size w.heap.size w3 wr) (fun _ i _ _ => n - (intOf i).toNat)
  case atStart =>
    exact ⟨0, xs.tail.tail, [], Nat.zero_le _, rfl, (unhide HX).tail.tail, rfl, by rw [← unhide HR]; rfl, World.ownsRow_nil _ _ _ _, unhide HC3, Mv.refl _ _ _⟩
  case round =>
    obtain ⟨m, zs, os, hm, rfl, hzs, hos, heq, hown, hcd, hmv⟩ := hrel
    have HO := hide hown
    have HCD := hide hcd
    have HMV := hide hmv
    have HZ := hide hzs
    have HOS := hide hos
    have hszr := hmv.size
    obtain ⟨oa, oc, rfl⟩ := own_is hown
    by_cases hlt : m < n
    · have hlt' : (m : Int) < y2 % 30 := by have := unhide HN; omega
      obtain ⟨q, hq⟩ : ∃ q, n - m = q + 1 := ⟨n - m - 1, by omega⟩
      have hq' : n - (m + 1) = q := by omega
      rw [hq, raw] at heq
      have HQ := hide hq'
      have HE2 := hide heq
      have hdb := hzs.head
      obtain ⟨b, hb⟩ : ∃ y, zs.headD 0 = y := ⟨_, rfl⟩
      rw [hb] at HE2 hdb
      have HY3 := hide hb
      clear hown hcd hmv hq hq' heq hzs hos hb
      go_wp2_with fail
      refine (next_any w.heap.size w.heap.size zs wr (unhide HCD) (unhide HZ)).mono ?_
      rintro e w4 ⟨he, hc4, ho4⟩
      rw [unhide HY3] at he
      subst he
      have hz4 : wr.heap.size ≤ w4.heap.size := Nat.le_of_eq ho4.size.symm
      have HC4 := hide hc4
      have HM4 := hide ((unhide HMV).trans (ho4.mv w3.heap.size))
      have HO4 := hide (own_mv (unhide HO) (ho4.mv wr.heap.size) (Nat.le_refl _) hz3)
      clear hc4 ho4
      go_wp2_with (at_builtin; refine app_moreB rfl _ _ rfl w3.heap.size _ rfl os (by rw [unhide HOS]; exact (unhide HO4).alloc _) (by rw [sz_alloc]; omega) _ rfl [b] (by exact lit_one) (by rw [unhide HOS]; simp; omega) ?_; intro v5 w5 hb5 ho5 hoc5)
      have hB5 : Below w3.heap.size w4 w5 := (below1 w4 _).mono (by omega) |>.trans hb5
      have HC5 := hide ((unhide HC4).keep hB5 hz3)
      have HM5 := hide ((unhide HM4).trans (Below.mv hB5 w.heap.size))
      have HO5 := hide ho5
      have hl5 : (os ++ [b]).length = m + 1 := by simp [unhide HOS]
      rw [hl5] at HO5
      have HL5 := hide hl5
      clear ho5 hl5 hb5 hB5
      go_wp2
      refine ⟨⟨m + 1, zs.tail, os ++ [b], by omega, by go_num, (unhide HZ).tail, unhide HL5, ?_, unhide HO5, unhide HC5, unhide HM5⟩, by simp [intOf]; omega⟩
      rw [unhide HQ, List.append_assoc, List.singleton_append]
      exact unhide HE2
    · obtain rfl : m = n := by omega
      have hlt' : ¬ (m : Int) < y2 % 30 := by have := unhide HN; omega
      rw [Nat.sub_self, raw, List.append_nil] at heq
      have HE2 := hide heq
      clear heq hown hcd hmv hzs hos
      go_wp2_with fail
      refine (l4reseal_any w3.heap.size _ R wr (by rw [unhide HRL, ← unhide HE2]; exact unhide HO) hszr (unhide HRB) (by rw [unhide HRL]; omega)).mono ?_
      rintro e w9 ⟨⟨v9, rfl, ho9⟩, hb9⟩
      rw [unhide HXe] at ho9
      have hB9 : Below w.heap.size w w9 := (unhide HB3).trans (((unhide HMV).below (Nat.le_of_lt hz3)).trans (hb9.mono (by omega)))
      have HO9 := hide ho9
      obtain ⟨oa9, oc9, rfl⟩ := own_is ho9
      clear ho9
      go_wp2_with fail
      go_ret
      exact ⟨⟨_, rfl, own_rdB (unhide HO9) (by unfold maxLen; omega), own_cap (unhide HO9)⟩, hB9⟩

end Go.Proofs.Ytkajdhliejjohaa
