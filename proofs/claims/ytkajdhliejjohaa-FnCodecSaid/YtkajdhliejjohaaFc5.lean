import Derived.Test.YtkajdhliejjohaaFc4
namespace Go.Proofs.Ytkajdhliejjohaa
open Go.RowKit

set_option maxHeartbeats 4000000 in
set_option maxRecDepth 100000 in
theorem l4drawLine_C (N D : Nat) (xs : List Int) (w : World) (h : CdAt N D w xs) (hx : Cod xs) (hD : D < w.heap.size) (hk : xs.headD 0 % 8 = 6) :
    Calls Try.prog 51 #[.pointer (some ⟨D, 0, none⟩)] w (Drawn N D w.heap.size w (wdL (xs.tail.headD 0), xs.tail.tail)) := by
  have H := hide h
  have HX := hide hx
  have hh := hx.head
  have hh2 := hx.tail.head
  have hh3 := hx.tail.tail.head
  obtain ⟨y, hy⟩ : ∃ y, xs.headD 0 = y := ⟨_, rfl⟩
  obtain ⟨c, hy2⟩ : ∃ y, xs.tail.headD 0 = y := ⟨_, rfl⟩
  obtain ⟨d, hy3⟩ : ∃ y, xs.tail.tail.headD 0 = y := ⟨_, rfl⟩
  rw [hy] at hh hk
  rw [hy2] at hh2 ⊢
  rw [hy3] at hh3
  have HY := hide hy
  have HY2 := hide hy2
  have HY3 := hide hy3
  clear hy hx h hy2 hy3
  have hl1 := wdL_len c
  have hl2 := wdL_len d
  obtain ⟨W, hW⟩ : ∃ W, wdL c = W := ⟨_, rfl⟩
  rw [hW] at hl1 ⊢
  have HW := hide hW
  clear hW
  go_enter Try.func51, Try.ntmps51
  go_wp2_with fail
  refine (next_any N D xs w (unhide H) (unhide HX)).mono ?_
  rintro e w1 ⟨he, hc1, ho1⟩
  rw [unhide HY] at he
  subst he
  go_wp2_with fail
  refine (next_any N D xs.tail w1 hc1 (unhide HX).tail).mono ?_
  rintro e w2 ⟨he, hc2, ho2⟩
  rw [unhide HY2] at he
  subst he
  have hz2 : w.heap.size ≤ w2.heap.size := Nat.le_trans (Nat.le_of_eq ho1.size.symm) (Nat.le_of_eq ho2.size.symm)
  have HC2 := hide hc2
  have HM2 := hide ((ho1.mv w.heap.size).trans (ho2.mv w.heap.size))
  clear hc1 hc2 ho1 ho2
  go_wp2_with fail
  refine (l4word_any c w2 (by omega) (by omega)).mono ?_
  rintro e w3 ⟨⟨s, rfl, hs⟩, rfl⟩
  rw [unhide HW] at hs
  have HS := hide hs
  clear hs
  go_wp2_with (at_builtin; refine app_strB rfl _ _ rfl w.heap.size _ rfl [] (by exact World.ownsRow_nil _ _ _ _) hz2 _ rfl W (unhide HS) (by simp; omega) ?_; intro v5 w5 hb5 ho5 hoc5; rw [List.nil_append] at ho5; have hz5 : w.heap.size ≤ w5.heap.size := Nat.le_trans hz2 hb5.size; have HC5 := hide ((unhide HC2).keep hb5 hD); have HM5 := hide ((unhide HM2).trans (Below.mv hb5 D)); have HO5 := hide ho5; obtain ⟨oa5, oc5, rfl⟩ := own_is ho5; clear ho5 hb5)
  go_ret
  exact ⟨⟨_, rfl, unhide HO5⟩, unhide HC5, unhide HM5⟩

set_option maxHeartbeats 4000000 in
set_option maxRecDepth 100000 in
theorem l4drawLine_E (N D : Nat) (xs : List Int) (w : World) (h : CdAt N D w xs) (hx : Cod xs) (hD : D < w.heap.size) (hk : xs.headD 0 % 8 = 7) :
    Calls Try.prog 51 #[.pointer (some ⟨D, 0, none⟩)] w (Drawn N D w.heap.size w (wdL (xs.tail.headD 0) ++ [48 + xs.tail.headD 0 % 10], xs.tail.tail)) := by
  have H := hide h
  have HX := hide hx
  have hh := hx.head
  have hh2 := hx.tail.head
  have hh3 := hx.tail.tail.head
  obtain ⟨y, hy⟩ : ∃ y, xs.headD 0 = y := ⟨_, rfl⟩
  obtain ⟨c, hy2⟩ : ∃ y, xs.tail.headD 0 = y := ⟨_, rfl⟩
  obtain ⟨d, hy3⟩ : ∃ y, xs.tail.tail.headD 0 = y := ⟨_, rfl⟩
  rw [hy] at hh hk
  rw [hy2] at hh2 ⊢
  rw [hy3] at hh3
  have HY := hide hy
  have HY2 := hide hy2
  have HY3 := hide hy3
  clear hy hx h hy2 hy3
  have hl1 := wdL_len c
  have hl2 := wdL_len d
  obtain ⟨W, hW⟩ : ∃ W, wdL c = W := ⟨_, rfl⟩
  rw [hW] at hl1 ⊢
  have HW := hide hW
  clear hW
  go_enter Try.func51, Try.ntmps51
  go_wp2_with fail
  refine (next_any N D xs w (unhide H) (unhide HX)).mono ?_
  rintro e w1 ⟨he, hc1, ho1⟩
  rw [unhide HY] at he
  subst he
  go_wp2_with fail
  refine (next_any N D xs.tail w1 hc1 (unhide HX).tail).mono ?_
  rintro e w2 ⟨he, hc2, ho2⟩
  rw [unhide HY2] at he
  subst he
  have hz2 : w.heap.size ≤ w2.heap.size := Nat.le_trans (Nat.le_of_eq ho1.size.symm) (Nat.le_of_eq ho2.size.symm)
  have HC2 := hide hc2
  have HM2 := hide ((ho1.mv w.heap.size).trans (ho2.mv w.heap.size))
  clear hc1 hc2 ho1 ho2
  go_wp2_with fail
  refine (l4word_any c w2 (by omega) (by omega)).mono ?_
  rintro e w3 ⟨⟨s, rfl, hs⟩, rfl⟩
  rw [unhide HW] at hs
  have HS := hide hs
  clear hs
  go_wp2_with (first | (at_builtin; refine app_strB rfl _ _ rfl w.heap.size _ rfl [] (by exact World.ownsRow_nil _ _ _ _) hz2 _ rfl W (unhide HS) (by simp; omega) ?_; intro v5 w5 hb5 ho5 hoc5; rw [List.nil_append] at ho5; have hz5 : w.heap.size ≤ w5.heap.size := Nat.le_trans hz2 hb5.size; have HC5 := hide ((unhide HC2).keep hb5 hD); have HM5 := hide ((unhide HM2).trans (Below.mv hb5 D)); have HO5 := hide ho5; obtain ⟨oa5, oc5, rfl⟩ := own_is ho5; clear ho5 hb5) | (at_builtin; refine app_moreB rfl _ _ rfl w.heap.size _ rfl W (by exact (unhide HO5).alloc _) (by rw [sz_alloc]; omega) _ rfl [48 + c % 10] (by exact lit_one) (by simp; omega) ?_; intro v6 w6 hb6 ho6 hoc6))
  have hB6 : Below w.heap.size w5 w6 := (below1 w5 _).mono (by omega) |>.trans hb6
  go_ret
  exact ⟨⟨_, rfl, ho6⟩, (unhide HC5).keep hB6 hD, (unhide HM5).trans (Below.mv hB6 D)⟩

set_option maxHeartbeats 4000000 in
set_option maxRecDepth 100000 in
theorem l4drawLine_F (N D : Nat) (xs : List Int) (w : World) (h : CdAt N D w xs) (hx : Cod xs) (hD : D < w.heap.size) (hk : xs.headD 0 % 8 = 4 ∨ xs.headD 0 % 8 = 5) (hc : ¬ xs.tail.headD 0 / 10 % 2 = 1) :
    Calls Try.prog 51 #[.pointer (some ⟨D, 0, none⟩)] w (Drawn N D w.heap.size w (wdL (xs.tail.headD 0) ++ [] ++ wdL (xs.tail.tail.headD 0), xs.tail.tail.tail)) := by
  have H := hide h
  have HX := hide hx
  have hh := hx.head
  have hh2 := hx.tail.head
  have hh3 := hx.tail.tail.head
  obtain ⟨y, hy⟩ : ∃ y, xs.headD 0 = y := ⟨_, rfl⟩
  obtain ⟨c, hy2⟩ : ∃ y, xs.tail.headD 0 = y := ⟨_, rfl⟩
  obtain ⟨d, hy3⟩ : ∃ y, xs.tail.tail.headD 0 = y := ⟨_, rfl⟩
  rw [hy] at hh hk
  rw [hy2] at hh2 hc ⊢
  rw [hy3] at hh3 ⊢
  have HY := hide hy
  have HY2 := hide hy2
  have HY3 := hide hy3
  clear hy hx h hy2 hy3
  have hl1 := wdL_len c
  have hl2 := wdL_len d
  obtain ⟨W, hW⟩ : ∃ W, wdL c = W := ⟨_, rfl⟩
  rw [hW] at hl1 ⊢
  have HW := hide hW
  clear hW
  obtain ⟨V, hV⟩ : ∃ V, wdL d = V := ⟨_, rfl⟩
  rw [hV] at hl2 ⊢
  have HV := hide hV
  clear hV
  have hk1 : y % 8 < 6 := by omega
  have hk2 : ¬ y % 8 < 3 := by omega
  have hk3 : ¬ y % 8 = 3 := by omega
  have hk7 : ¬ y % 8 = 7 := by omega
  clear hk
  rw [List.append_nil]
  go_enter Try.func51, Try.ntmps51
  go_wp2_with fail
  refine (next_any N D xs w (unhide H) (unhide HX)).mono ?_
  rintro e w1 ⟨he, hc1, ho1⟩
  rw [unhide HY] at he
  subst he
  go_wp2_with fail
  refine (next_any N D xs.tail w1 hc1 (unhide HX).tail).mono ?_
  rintro e w2 ⟨he, hc2, ho2⟩
  rw [unhide HY2] at he
  subst he
  have hz2 : w.heap.size ≤ w2.heap.size := Nat.le_trans (Nat.le_of_eq ho1.size.symm) (Nat.le_of_eq ho2.size.symm)
  have HC2 := hide hc2
  have HM2 := hide ((ho1.mv w.heap.size).trans (ho2.mv w.heap.size))
  clear hc1 hc2 ho1 ho2
  go_wp2_with fail
  refine (l4word_any c w2 (by omega) (by omega)).mono ?_
  rintro e w3 ⟨⟨s, rfl, hs⟩, rfl⟩
  rw [unhide HW] at hs
  have HS := hide hs
  clear hs
  go_wp2_with (at_builtin; refine app_strB rfl _ _ rfl w.heap.size _ rfl [] (by exact World.ownsRow_nil _ _ _ _) hz2 _ rfl W (unhide HS) (by simp; omega) ?_; intro v5 w5 hb5 ho5 hoc5; rw [List.nil_append] at ho5; have hz5 : w.heap.size ≤ w5.heap.size := Nat.le_trans hz2 hb5.size; have HC5 := hide ((unhide HC2).keep hb5 hD); have HM5 := hide ((unhide HM2).trans (Below.mv hb5 D)); have HO5 := hide ho5; obtain ⟨oa5, oc5, rfl⟩ := own_is ho5; clear ho5 hb5)
  refine (next_any N D xs.tail.tail w5 (unhide HC5) (unhide HX).tail.tail).mono ?_
  rintro e w6 ⟨he, hc6, ho6⟩
  rw [unhide HY3] at he
  subst he
  have hz6 : w.heap.size ≤ w6.heap.size := Nat.le_trans hz5 (Nat.le_of_eq ho6.size.symm)
  have HC6 := hide hc6
  have HM6 := hide ((unhide HM5).trans (ho6.mv w.heap.size))
  have HO6 := hide (own_mv (unhide HO5) (ho6.mv w5.heap.size) (Nat.le_refl _) hD)
  clear hc6 ho6
  go_wp2_with fail
  refine (l4word_any d w6 (by omega) (by omega)).mono ?_
  rintro e w8 ⟨⟨t, rfl, ht⟩, rfl⟩
  rw [unhide HV] at ht
  have HT := hide ht
  clear ht
  go_wp2_with (at_builtin; refine app_strB rfl _ _ rfl w.heap.size _ rfl W (by exact unhide HO6) hz6 _ rfl V (unhide HT) (by skip; omega) ?_; intro v9 w9 hb9 ho9 hoc9)
  go_ret
  exact ⟨⟨_, rfl, ho9⟩, (unhide HC6).keep hb9 hD, (unhide HM6).trans (Below.mv hb9 D)⟩

set_option maxHeartbeats 4000000 in
set_option maxRecDepth 100000 in
theorem l4drawLine_G (N D : Nat) (xs : List Int) (w : World) (h : CdAt N D w xs) (hx : Cod xs) (hD : D < w.heap.size) (hk : xs.headD 0 % 8 = 4 ∨ xs.headD 0 % 8 = 5) (hc : xs.tail.headD 0 / 10 % 2 = 1) :
    Calls Try.prog 51 #[.pointer (some ⟨D, 0, none⟩)] w (Drawn N D w.heap.size w (wdL (xs.tail.headD 0) ++ [32] ++ wdL (xs.tail.tail.headD 0), xs.tail.tail.tail)) := by
  have H := hide h
  have HX := hide hx
  have hh := hx.head
  have hh2 := hx.tail.head
  have hh3 := hx.tail.tail.head
  obtain ⟨y, hy⟩ : ∃ y, xs.headD 0 = y := ⟨_, rfl⟩
  obtain ⟨c, hy2⟩ : ∃ y, xs.tail.headD 0 = y := ⟨_, rfl⟩
  obtain ⟨d, hy3⟩ : ∃ y, xs.tail.tail.headD 0 = y := ⟨_, rfl⟩
  rw [hy] at hh hk
  rw [hy2] at hh2 hc ⊢
  rw [hy3] at hh3 ⊢
  have HY := hide hy
  have HY2 := hide hy2
  have HY3 := hide hy3
  clear hy hx h hy2 hy3
  have hl1 := wdL_len c
  have hl2 := wdL_len d
  obtain ⟨W, hW⟩ : ∃ W, wdL c = W := ⟨_, rfl⟩
  rw [hW] at hl1 ⊢
  have HW := hide hW
  clear hW
  obtain ⟨V, hV⟩ : ∃ V, wdL d = V := ⟨_, rfl⟩
  rw [hV] at hl2 ⊢
  have HV := hide hV
  clear hV
  have hk1 : y % 8 < 6 := by omega
  have hk2 : ¬ y % 8 < 3 := by omega
  have hk3 : ¬ y % 8 = 3 := by omega
  have hk7 : ¬ y % 8 = 7 := by omega
  clear hk
  obtain ⟨X, hXe⟩ : ∃ X, W ++ [32] = X := ⟨_, rfl⟩
  have hlX : X.length = W.length + 1 := by rw [← hXe]; simp
  have hlX' : X.length ≤ 10 := by omega
  have HLX := hide hlX
  rw [hXe]
  have HXE := hide hXe
  clear hXe hlX
  go_enter Try.func51, Try.ntmps51
  go_wp2_with fail
  refine (next_any N D xs w (unhide H) (unhide HX)).mono ?_
  rintro e w1 ⟨he, hc1, ho1⟩
  rw [unhide HY] at he
  subst he
  go_wp2_with fail
  refine (next_any N D xs.tail w1 hc1 (unhide HX).tail).mono ?_
  rintro e w2 ⟨he, hc2, ho2⟩
  rw [unhide HY2] at he
  subst he
  have hz2 : w.heap.size ≤ w2.heap.size := Nat.le_trans (Nat.le_of_eq ho1.size.symm) (Nat.le_of_eq ho2.size.symm)
  have HC2 := hide hc2
  have HM2 := hide ((ho1.mv w.heap.size).trans (ho2.mv w.heap.size))
  clear hc1 hc2 ho1 ho2
  go_wp2_with fail
  refine (l4word_any c w2 (by omega) (by omega)).mono ?_
  rintro e w3 ⟨⟨s, rfl, hs⟩, rfl⟩
  rw [unhide HW] at hs
  have HS := hide hs
  clear hs
  go_wp2_with (at_builtin; refine app_strB rfl _ _ rfl w.heap.size _ rfl [] (by exact World.ownsRow_nil _ _ _ _) hz2 _ rfl W (unhide HS) (by simp; omega) ?_; intro v5 w5 hb5 ho5 hoc5; rw [List.nil_append] at ho5; have hz5 : w.heap.size ≤ w5.heap.size := Nat.le_trans hz2 hb5.size; have HC5 := hide ((unhide HC2).keep hb5 hD); have HM5 := hide ((unhide HM2).trans (Below.mv hb5 D)); have HO5 := hide ho5; obtain ⟨oa5, oc5, rfl⟩ := own_is ho5; clear ho5 hb5)
  refine (next_any N D xs.tail.tail w5 (unhide HC5) (unhide HX).tail.tail).mono ?_
  rintro e w6 ⟨he, hc6, ho6⟩
  rw [unhide HY3] at he
  subst he
  have hz6 : w.heap.size ≤ w6.heap.size := Nat.le_trans hz5 (Nat.le_of_eq ho6.size.symm)
  have HC6 := hide hc6
  have HM6 := hide ((unhide HM5).trans (ho6.mv w.heap.size))
  have HO6 := hide (own_mv (unhide HO5) (ho6.mv w5.heap.size) (Nat.le_refl _) hD)
  clear hc6 ho6
  go_wp2_with (at_builtin; refine app_moreB rfl _ _ rfl w.heap.size _ rfl W (by exact (unhide HO6).alloc _) (by rw [sz_alloc]; omega) _ rfl [32] (by exact lit_one) (by simp; omega) ?_; intro v7 w7 hb7 ho7 hoc7; rw [unhide HXE] at ho7; have hB7 : Below w.heap.size w6 w7 := (below1 w6 _).mono (by omega) |>.trans hb7; have hz7 : w.heap.size ≤ w7.heap.size := Nat.le_trans hz6 hB7.size; have HC7 := hide ((unhide HC6).keep hB7 hD); have HM7 := hide ((unhide HM6).trans (Below.mv hB7 D)); have HO7 := hide ho7; obtain ⟨oa7, oc7, rfl⟩ := own_is ho7; clear ho7 hb7 hB7)
  refine (l4word_any d w7 (by omega) (by omega)).mono ?_
  rintro e w8 ⟨⟨t, rfl, ht⟩, rfl⟩
  rw [unhide HV] at ht
  have HT := hide ht
  clear ht
  go_wp2_with (at_builtin; refine app_strB rfl _ _ rfl w.heap.size _ rfl X (by exact unhide HO7) hz7 _ rfl V (unhide HT) (by skip; omega) ?_; intro v9 w9 hb9 ho9 hoc9)
  go_ret
  exact ⟨⟨_, rfl, ho9⟩, (unhide HC7).keep hb9 hD, (unhide HM7).trans (Below.mv hb9 D)⟩

theorem l4drawLine_any (N D : Nat) (xs : List Int) (w : World) (h : CdAt N D w xs) (hx : Cod xs) (hD : D < w.heap.size) :
    Calls Try.prog 51 #[.pointer (some ⟨D, 0, none⟩)] w (Drawn N D w.heap.size w (dLn xs)) := by
  have hh := hx.head
  unfold dLn
  by_cases h1 : xs.headD 0 % 8 < 3
  · rw [if_pos h1]; exact l4drawLine_A N D xs w h hx hD h1
  · rw [if_neg h1]
    by_cases h2 : xs.headD 0 % 8 = 3
    · rw [if_pos h2]; exact l4drawLine_B N D xs w h hx hD h2
    · rw [if_neg h2]
      by_cases h3 : xs.headD 0 % 8 < 6
      · rw [if_pos h3]
        by_cases h4 : xs.tail.headD 0 / 10 % 2 = 1
        · rw [if_pos h4]; exact l4drawLine_G N D xs w h hx hD (by omega) h4
        · rw [if_neg h4]; exact l4drawLine_F N D xs w h hx hD (by omega) h4
      · rw [if_neg h3]
        by_cases h4 : xs.headD 0 % 8 = 7
        · rw [if_pos h4]; exact l4drawLine_E N D xs w h hx hD h4
        · rw [if_neg h4]; exact l4drawLine_C N D xs w h hx hD (by omega)

end Go.Proofs.Ytkajdhliejjohaa
