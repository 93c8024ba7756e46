import Derived.Test.YtkajdhliejjohaaFc3
namespace Go.Proofs.Ytkajdhliejjohaa
open Go.RowKit

set_option maxHeartbeats 4000000 in
set_option maxRecDepth 100000 in
theorem l4drawLine_A (N D : Nat) (xs : List Int) (w : World) (h : CdAt N D w xs) (hx : Cod xs) (hD : D < w.heap.size) (hk : xs.headD 0 % 8 < 3) :
    Calls Try.prog 51 #[.pointer (some ⟨D, 0, none⟩)] w (Drawn N D w.heap.size w (lnA (xs.tail.headD 0 % 9).toNat 0 0 xs.tail.tail)) := by
  have H := hide h
  have HX := hide hx
  have hh := hx.head
  have hh2 := hx.tail.head
  obtain ⟨y, hy⟩ : ∃ y, xs.headD 0 = y := ⟨_, rfl⟩
  obtain ⟨y2, hy2⟩ : ∃ y, xs.tail.headD 0 = y := ⟨_, rfl⟩
  rw [hy] at hh hk
  rw [hy2] at hh2 ⊢
  have HY := hide hy
  have HY2 := hide hy2
  clear hy hx h hy2
  obtain ⟨n, hn⟩ : ∃ n : Nat, (y2 % 9).toNat = n := ⟨_, rfl⟩
  rw [hn]
  have hn9 : y2 % 9 = (n : Int) := by omega
  have hn8 : n ≤ 8 := by omega
  have HN := hide hn9
  clear hn hn9
  obtain ⟨R, hR⟩ : ∃ R, lnA n 0 0 xs.tail.tail = R := ⟨_, rfl⟩
  rw [hR]
  have HR := hide hR
  clear hR
  go_enter Try.func51, Try.ntmps51
  go_wp2_with fail
  refine (next_any N D xs w (unhide H) (unhide HX)).mono ?_
  rintro e w1 ⟨he, hc1, ho1⟩
  rw [unhide HY] at he
  subst he
  go_wp2_with fail
  refine (next_any N D xs.tail w1 hc1 (unhide HX).tail).mono ?_
  rintro e w2 ⟨he, hc2, ho2⟩
  rw [unhide HY2] at he
  subst he
  have HC2 := hide hc2
  have HM2 := hide ((ho1.mv w.heap.size).trans (ho2.mv w.heap.size))
  clear hc1 hc2 ho1 ho2
  go_wp2
  go_loopw [4, 6, 7] (fun ov cv i wr => ∃ (m : Nat) (c : Int) (zs os : List Int), m ≤ n ∧ i = .int .i64 (m : Nat) ∧ cv = .int .i64 c ∧ (0 ≤ c ∧ c ≤ 255) ∧ Cod zs ∧ os.length = m ∧ (os ++ (lnA (n - m) m c zs).1 = R.1 ∧ (lnA (n - m) m c zs).2 = R.2) ∧ wr.ownsRow w.heap.size 5 1 ov m (os.map mB) ∧ CdAt N D wr zs ∧ Mv w.heap.size D w wr) (fun _ _ i _ => n - (intOf i).toNat)
  case atStart =>
    refine ⟨0, 0, xs.tail.tail, [], Nat.zero_le _, rfl, rfl, by omega, (unhide HX).tail.tail, rfl, ⟨by rw [← unhide HR]; rfl, by rw [← unhide HR]; rfl⟩, World.ownsRow_nil _ _ _ _, unhide HC2, unhide HM2⟩
  case round =>
    obtain ⟨m, c, zs, os, hm, rfl, rfl, hcb, hzs, hos, heq, hown, hcd, hmv⟩ := hrel
    have HO := hide hown
    have HCD := hide hcd
    have HMV := hide hmv
    have HE := hide heq
    have HZ := hide hzs
    have HOS := hide hos
    have hszr := hmv.size
    obtain ⟨oa, oc, rfl⟩ := own_is hown
    by_cases hlt : m < n
    · have hlt' : (m : Int) < y2 % 9 := by have := unhide HN; omega
      obtain ⟨q, hq⟩ : ∃ q, n - m = q + 1 := ⟨n - m - 1, by omega⟩
      have hq' : n - (m + 1) = q := by omega
      rw [hq] at heq
      have HQ := hide hq'
      clear hown hcd hmv hq hq'
      by_cases h3 : m % 3 = 0
      · have h3' : (m : Int) % 3 = 0 := by omega
        rw [lnA, if_pos h3] at heq
        have HE2 := hide heq
        have hzh := hzs.head
        obtain ⟨y3, hy3⟩ : ∃ y, zs.headD 0 = y := ⟨_, rfl⟩
        rw [hy3] at hzh HE2
        have HY3 := hide hy3
        clear heq hzs hos hy3
        go_wp2_with fail
        refine (next_any N D zs wr (unhide HCD) (unhide HZ)).mono ?_
        rintro e w4 ⟨he, hc4, ho4⟩
        rw [unhide HY3] at he
        subst he
        have hz4 : wr.heap.size ≤ w4.heap.size := Nat.le_of_eq ho4.size.symm
        have HC4 := hide hc4
        have HM4 := hide ((unhide HMV).trans (ho4.mv w.heap.size))
        have HO4 := hide (own_mv (unhide HO) (ho4.mv wr.heap.size) (Nat.le_refl _) hD)
        clear hc4 ho4
        go_wp2_with (at_builtin; refine app_moreB rfl _ _ rfl w.heap.size _ rfl os (by rw [unhide HOS]; exact (unhide HO4).alloc _) (by rw [sz_alloc]; omega) _ rfl [97 + y3 % 3] (by exact lit_one) (by rw [unhide HOS]; simp; omega) ?_; intro v5 w5 hb5 ho5 hoc5)
        have hB5 : Below w.heap.size w4 w5 := (below1 w4 _).mono (by omega) |>.trans hb5
        have HC5 := hide ((unhide HC4).keep hB5 hD)
        have HM5 := hide ((unhide HM4).trans (Below.mv hB5 D))
        have HO5 := hide ho5
        have hl5 : (os ++ [97 + y3 % 3]).length = m + 1 := by simp [unhide HOS]
        rw [hl5] at HO5
        have HL5 := hide hl5
        clear ho5 hl5 hb5 hB5
        go_wp2
        refine ⟨⟨m + 1, y3 / 3, zs.tail, os ++ [97 + y3 % 3], by omega, by go_num, rfl, by omega, (unhide HZ).tail, unhide HL5, ?_, unhide HO5, unhide HC5, unhide HM5⟩, by simp [intOf]; omega⟩
        rw [unhide HQ, List.append_assoc, List.singleton_append]
        exact unhide HE2
      · have h3' : ¬ (m : Int) % 3 = 0 := by omega
        rw [lnA, if_neg h3] at heq
        have HE2 := hide heq
        clear heq hzs hos
        go_wp2_with (at_builtin; refine app_moreB rfl _ _ rfl w.heap.size _ rfl os (by rw [unhide HOS]; exact (unhide HO).alloc _) (by rw [sz_alloc]; omega) _ rfl [97 + c % 3] (by exact lit_one) (by rw [unhide HOS]; simp; omega) ?_; intro v5 w5 hb5 ho5 hoc5)
        have hB5 : Below w.heap.size wr w5 := (below1 wr _).mono (by omega) |>.trans hb5
        have HC5 := hide ((unhide HCD).keep hB5 hD)
        have HM5 := hide ((unhide HMV).trans (Below.mv hB5 D))
        have HO5 := hide ho5
        have hl5 : (os ++ [97 + c % 3]).length = m + 1 := by simp [unhide HOS]
        rw [hl5] at HO5
        have HL5 := hide hl5
        clear ho5 hl5 hb5 hB5
        go_wp2
        refine ⟨⟨m + 1, c / 3, zs, os ++ [97 + c % 3], by omega, by go_num, rfl, by omega, unhide HZ, unhide HL5, ?_, unhide HO5, unhide HC5, unhide HM5⟩, by simp [intOf]; omega⟩
        rw [unhide HQ, List.append_assoc, List.singleton_append]
        exact unhide HE2
    · obtain rfl : m = n := by omega
      have hlt' : ¬ (m : Int) < y2 % 9 := by have := unhide HN; omega
      rw [Nat.sub_self, lnA, List.append_nil] at heq
      have HE2 := hide heq
      clear heq hown hcd hmv hzs hos
      go_wp2
      go_ret
      refine ⟨⟨_, rfl, ?_⟩, ?_, unhide HMV⟩
      · rw [← (unhide HE2).1, unhide HOS]; exact unhide HO
      · rw [← (unhide HE2).2]; exact unhide HCD

set_option maxHeartbeats 4000000 in
set_option maxRecDepth 100000 in
theorem l4drawLine_B (N D : Nat) (xs : List Int) (w : World) (h : CdAt N D w xs) (hx : Cod xs) (hD : D < w.heap.size) (hk : xs.headD 0 % 8 = 3) :
    Calls Try.prog 51 #[.pointer (some ⟨D, 0, none⟩)] w (Drawn N D w.heap.size w (lnB (xs.tail.headD 0 % 5).toNat xs.tail.tail)) := by
  have H := hide h
  have HX := hide hx
  have hh := hx.head
  have hh2 := hx.tail.head
  obtain ⟨y, hy⟩ : ∃ y, xs.headD 0 = y := ⟨_, rfl⟩
  obtain ⟨y2, hy2⟩ : ∃ y, xs.tail.headD 0 = y := ⟨_, rfl⟩
  rw [hy] at hh hk
  rw [hy2] at hh2 ⊢
  have HY := hide hy
  have HY2 := hide hy2
  clear hy hx h hy2
  obtain ⟨n, hn⟩ : ∃ n : Nat, (y2 % 5).toNat = n := ⟨_, rfl⟩
  rw [hn]
  have hn9 : y2 % 5 = (n : Int) := by omega
  have hn8 : n ≤ 4 := by omega
  have HN := hide hn9
  clear hn hn9
  obtain ⟨R, hR⟩ : ∃ R, lnB n xs.tail.tail = R := ⟨_, rfl⟩
  rw [hR]
  have HR := hide hR
  clear hR
  go_enter Try.func51, Try.ntmps51
  go_wp2_with fail
  refine (next_any N D xs w (unhide H) (unhide HX)).mono ?_
  rintro e w1 ⟨he, hc1, ho1⟩
  rw [unhide HY] at he
  subst he
  go_wp2_with fail
  refine (next_any N D xs.tail w1 hc1 (unhide HX).tail).mono ?_
  rintro e w2 ⟨he, hc2, ho2⟩
  rw [unhide HY2] at he
  subst he
  have HC2 := hide hc2
  have HM2 := hide ((ho1.mv w.heap.size).trans (ho2.mv w.heap.size))
  clear hc1 hc2 ho1 ho2
  go_wp2
  go_loopw [4, 9] (fun ov i wr => ∃ (m : Nat) (zs os : List Int), m ≤ n ∧ i = .int .i64 (m : Nat) ∧ Cod zs ∧ os.length = m ∧ (os ++ (lnB (n - m) zs).1 = R.1 ∧ (lnB (n - m) zs).2 = R.2) ∧ wr.ownsRow w.heap.size 5 1 ov m (os.map mB) ∧ CdAt N D wr zs ∧ Mv w.heap.size D w wr) (fun _ i _ => n - (intOf i).toNat)
  case atStart =>
    refine ⟨0, xs.tail.tail, [], Nat.zero_le _, rfl, (unhide HX).tail.tail, rfl, ⟨by rw [← unhide HR]; rfl, by rw [← unhide HR]; rfl⟩, World.ownsRow_nil _ _ _ _, unhide HC2, unhide HM2⟩
  case round =>
    obtain ⟨m, zs, os, hm, rfl, hzs, hos, heq, hown, hcd, hmv⟩ := hrel
    have HO := hide hown
    have HCD := hide hcd
    have HMV := hide hmv
    have HZ := hide hzs
    have HOS := hide hos
    have hszr := hmv.size
    obtain ⟨oa, oc, rfl⟩ := own_is hown
    by_cases hlt : m < n
    · have hlt' : (m : Int) < y2 % 5 := by have := unhide HN; omega
      obtain ⟨q, hq⟩ : ∃ q, n - m = q + 1 := ⟨n - m - 1, by omega⟩
      have hq' : n - (m + 1) = q := by omega
      rw [hq, lnB] at heq
      have HQ := hide hq'
      clear hown hcd hmv hq hq'
      have HE2 := hide heq
      have hdb := dB_byte (y := zs.headD 0)
      obtain ⟨b, hb⟩ : ∃ y, dB (zs.headD 0) = y := ⟨_, rfl⟩
      rw [hb] at HE2 hdb
      have HY3 := hide hb
      clear heq hzs hos hb
      go_wp2_with fail
      refine (l1drawByte_any N D zs wr (unhide HCD) (unhide HZ)).mono ?_
      rintro e w4 ⟨he, hc4, ho4⟩
      rw [unhide HY3] at he
      subst he
      have hz4 : wr.heap.size ≤ w4.heap.size := Nat.le_of_eq ho4.size.symm
      have HC4 := hide hc4
      have HM4 := hide ((unhide HMV).trans (ho4.mv w.heap.size))
      have HO4 := hide (own_mv (unhide HO) (ho4.mv wr.heap.size) (Nat.le_refl _) hD)
      clear hc4 ho4
      by_cases h10 : b = 10 ∨ b = 126
      · rw [show fxB b = 97 from if_pos h10] at HE2
        rcases h10 with rfl | rfl
        · go_wp2_with (at_builtin; refine app_moreB rfl _ _ rfl w.heap.size _ rfl os (by rw [unhide HOS]; exact (unhide HO4).alloc _) (by rw [sz_alloc]; omega) _ rfl [97] (by exact lit_one) (by rw [unhide HOS]; simp; omega) ?_; intro v5 w5 hb5 ho5 hoc5)
          have hB5 : Below w.heap.size w4 w5 := (below1 w4 _).mono (by omega) |>.trans hb5
          have HC5 := hide ((unhide HC4).keep hB5 hD)
          have HM5 := hide ((unhide HM4).trans (Below.mv hB5 D))
          have HO5 := hide ho5
          have hl5 : (os ++ [97]).length = m + 1 := by simp [unhide HOS]
          rw [hl5] at HO5
          have HL5 := hide hl5
          clear ho5 hl5 hb5 hB5
          go_wp2
          refine ⟨⟨m + 1, zs.tail, os ++ [97], by omega, by go_num, (unhide HZ).tail, unhide HL5, ?_, unhide HO5, unhide HC5, unhide HM5⟩, by simp [intOf]; omega⟩
          rw [unhide HQ, List.append_assoc, List.singleton_append]
          exact unhide HE2
        · go_wp2_with (at_builtin; refine app_moreB rfl _ _ rfl w.heap.size _ rfl os (by rw [unhide HOS]; exact (unhide HO4).alloc _) (by rw [sz_alloc]; omega) _ rfl [97] (by exact lit_one) (by rw [unhide HOS]; simp; omega) ?_; intro v5 w5 hb5 ho5 hoc5)
          have hB5 : Below w.heap.size w4 w5 := (below1 w4 _).mono (by omega) |>.trans hb5
          have HC5 := hide ((unhide HC4).keep hB5 hD)
          have HM5 := hide ((unhide HM4).trans (Below.mv hB5 D))
          have HO5 := hide ho5
          have hl5 : (os ++ [97]).length = m + 1 := by simp [unhide HOS]
          rw [hl5] at HO5
          have HL5 := hide hl5
          clear ho5 hl5 hb5 hB5
          go_wp2
          refine ⟨⟨m + 1, zs.tail, os ++ [97], by omega, by go_num, (unhide HZ).tail, unhide HL5, ?_, unhide HO5, unhide HC5, unhide HM5⟩, by simp [intOf]; omega⟩
          rw [unhide HQ, List.append_assoc, List.singleton_append]
          exact unhide HE2
      · rw [show fxB b = b from if_neg h10] at HE2
        have h10' : ¬ b = 10 := fun q => h10 (Or.inl q)
        have h11' : ¬ b = 126 := fun q => h10 (Or.inr q)
        have h12' : (b == 10) = false := beq_eq_false_iff_ne.2 h10'
        have h13' : (b == 126) = false := beq_eq_false_iff_ne.2 h11'
        clear h10
        go_wp2_with (at_builtin; refine app_moreB rfl _ _ rfl w.heap.size _ rfl os (by rw [unhide HOS]; exact (unhide HO4).alloc _) (by rw [sz_alloc]; omega) _ rfl [b] (by exact lit_one) (by rw [unhide HOS]; simp; omega) ?_; intro v5 w5 hb5 ho5 hoc5)
        have hB5 : Below w.heap.size w4 w5 := (below1 w4 _).mono (by omega) |>.trans hb5
        have HC5 := hide ((unhide HC4).keep hB5 hD)
        have HM5 := hide ((unhide HM4).trans (Below.mv hB5 D))
        have HO5 := hide ho5
        have hl5 : (os ++ [b]).length = m + 1 := by simp [unhide HOS]
        rw [hl5] at HO5
        have HL5 := hide hl5
        clear ho5 hl5 hb5 hB5
        go_wp2
        refine ⟨⟨m + 1, zs.tail, os ++ [b], by omega, by go_num, (unhide HZ).tail, unhide HL5, ?_, unhide HO5, unhide HC5, unhide HM5⟩, by simp [intOf]; omega⟩
        rw [unhide HQ, List.append_assoc, List.singleton_append]
        exact unhide HE2
    · obtain rfl : m = n := by omega
      have hlt' : ¬ (m : Int) < y2 % 5 := by have := unhide HN; omega
      rw [Nat.sub_self, lnB, List.append_nil] at heq
      have HE2 := hide heq
      clear heq hown hcd hmv hzs hos
      go_wp2
      go_ret
      refine ⟨⟨_, rfl, ?_⟩, ?_, unhide HMV⟩
      · rw [← (unhide HE2).1, unhide HOS]; exact unhide HO
      · rw [← (unhide HE2).2]; exact unhide HCD

end Go.Proofs.Ytkajdhliejjohaa
