import Derived.Test.YtmhafibngbojcaaDoorPp2
import Derived.Test.YtmhafibngbojcaaDoorP8
import Derived.Laws.BytesArg
namespace Go.Proofs.YtmhafibngbojcaaDoor
open Go.RowKit

theorem strB_nums : ∀ {xs : List Int}, (∀ x ∈ xs, 0 ≤ x ∧ x ≤ 255) → StrB (strOfNums xs) xs := by
  intro xs h
  unfold StrB Go.Lib.strCells strOfNums
  simp only [List.map_map]
  refine List.map_congr_left (fun x hx => ?_)
  have := h x hx
  simp [mB]
  omega
theorem conv_one (b : Int) (w : World) (h0 : 0 ≤ b) (h1 : b ≤ 255) : ∃ S : ByteArray, StrB S [b] ∧ (convert 26 9 (.slice (some ⟨w.heap.size, 0, none⟩) 1 1)).run Tryd.prog (w.alloc (.cells #[.int .u8 b] 5)) = .ok (.string S) (w.alloc (.cells #[.int .u8 b] 5)) := by
  refine ⟨strOfNums [b], strB_nums (fun x hx => by rw [List.mem_singleton] at hx; subst hx; exact ⟨h0, h1⟩), ?_⟩
  exact run_convert_bytes_arg _ 26 5 Tryd.underlying26 Tryd.underlying5 w.heap.size 0 1 1 [b] rfl (fun i hi => by
    obtain rfl : i = 0 := by omega
    exact (pushd_alloc w _).news 0 _ rfl) 9 Tryd.underlying9

set_option maxRecDepth 100000 in
set_option maxHeartbeats 4000000 in
theorem l1byteText_any (b : Int) (w : World) (h0 : 0 ≤ b) (h1 : b ≤ 255) :
    Calls Tryd.prog 43 #[.int .i64 b] w fun e w' => (∃ t, e = .returned (.string t) ∧ StrB t (byT b)) ∧ Below w.heap.size w w' := by
  by_cases b1 : b = 10
  · subst b1
    go_enter Tryd.func43, Tryd.ntmps43
    go_wp2
    go_ret
    exact ⟨⟨_, rfl, rfl⟩, Below.refl _ _⟩
  by_cases b2 : b = 9
  · subst b2
    go_enter Tryd.func43, Tryd.ntmps43
    go_wp2
    go_ret
    exact ⟨⟨_, rfl, rfl⟩, Below.refl _ _⟩
  by_cases b3 : b = 13
  · subst b3
    go_enter Tryd.func43, Tryd.ntmps43
    go_wp2
    go_ret
    exact ⟨⟨_, rfl, rfl⟩, Below.refl _ _⟩
  have hE : Hid (byT b = if b ∈ spcL ∨ b = 45 then [92, b] else if 32 ≤ b ∧ b ≤ 126 then [b] else [92, 120, hexd (b / 16), hexd (b % 16)]) := by
    show byT b = _
    unfold byT
    rw [if_neg b1, if_neg b2, if_neg b3]
  obtain ⟨B, hB⟩ : ∃ B, B = byT b := ⟨_, rfl⟩
  rw [← hB] at hE ⊢
  have hw : wrap64 b = b := w64i (by omega) (by omega)
  have hw8 : IntKind.u8.wrap b = b := by simp [IntKind.wrap, IntKind.bits, IntKind.signed]; omega
  have hd : b.tdiv 16 = b / 16 := Int.tdiv_eq_ediv_of_nonneg h0
  have hm : b.tmod 16 = b % 16 := Int.tmod_eq_emod_of_nonneg h0
  clear hB
  obtain ⟨S, hS, hcv⟩ := conv_one b w h0 h1
  have hz := hS.size
  rw [List.length_singleton] at hz
  have n1 : ¬ 9223372036854775807 < 1 + S.size := by omega
  have HS := hide hS
  clear hS
  have hB1 := below1 w (.cells #[.int .u8 b] 5)
  go_enter Tryd.func43, Tryd.ntmps43
  go_wp2_with fail
  refine (l1special_any b _ h0 h1).mono ?_
  rintro e w1 ⟨hret, rfl⟩
  rcases hret.cases with ⟨rfl, hsp⟩ | ⟨rfl, hsp⟩
  · have HE := hide ((unhide hE).trans (if_pos (Or.inl hsp)))
    clear hsp hE hret
    go_wp2
    go_ret
    exact ⟨⟨_, rfl, by rw [unhide HE]; exact StrB.app (xs := [92]) rfl (unhide HS)⟩, hB1⟩
  · by_cases b4 : b = 45
    · have HE := hide ((unhide hE).trans (if_pos (Or.inr b4)))
      clear hsp hE hret hw hw8 hd hm b1 b2 b3
      subst b4
      go_wp2
      go_ret
      exact ⟨⟨_, rfl, by rw [unhide HE]; exact StrB.app (xs := [92]) rfl (unhide HS)⟩, hB1⟩
    · have hE2 := hide ((unhide hE).trans (if_neg (fun h => h.elim hsp b4)))
      clear hsp hE hret
      by_cases b5 : 32 ≤ b ∧ b ≤ 126
      · have HE := hide ((unhide hE2).trans (if_pos b5))
        obtain ⟨b5, b6⟩ := b5
        clear hE2
        go_wp2
        go_ret
        exact ⟨⟨_, rfl, by rw [unhide HE]; exact unhide HS⟩, hB1⟩
      · have HE := hide ((unhide hE2).trans (if_neg b5))
        have HX1 := hide (l1hex_any (b / 16) w1 (by omega) (by omega))
        have HX2 := hide (l1hex_any (b % 16) w1 (by omega) (by omega))
        clear hE2 hcv
        have b56 : ¬ b ≤ 126 ∨ ¬ 32 ≤ b := by omega
        rcases b56 with b6 | b6
        all_goals
          clear b5
          go_wp2_with fail
          refine (unhide HX1).mono ?_
          rintro e w2 ⟨⟨t, rfl, ht⟩, rfl⟩
          have hz1 := ht.size
          rw [List.length_singleton] at hz1
          have n2 : ¬ 9223372036854775807 < 2 + t.size := by omega
          have HT := hide ht
          clear ht
          go_wp2_with fail
          refine (unhide HX2).mono ?_
          rintro e w2 ⟨⟨u, rfl, hu⟩, rfl⟩
          have hz2 := hu.size
          rw [List.length_singleton] at hz2
          have n3 : ¬ 9223372036854775807 < 2 + t.size + u.size := by omega
          have HU := hide hu
          clear hu
          go_wp2
          go_ret
          exact ⟨⟨_, rfl, by rw [unhide HE]; exact StrB.app (StrB.app (a := { data := #[92, 120] }) (xs := [92, 120]) rfl (unhide HT)) (unhide HU)⟩, Below.refl _ _⟩

set_option maxRecDepth 100000 in
set_option maxHeartbeats 4000000 in
theorem l1repText_any (lo hi : Int) (w : World) (h0 : 0 ≤ lo) (h1 : lo ≤ 250) (h2 : hi = -1 ∨ (lo ≤ hi ∧ hi ≤ 250)) :
    Calls Tryd.prog 25 #[.int .i64 lo, .int .i64 hi] w fun e w' => (∃ t, e = .returned (.string t) ∧ StrB t (repT lo hi)) ∧ w' = w := by
  by_cases a1 : lo = 0 ∧ hi = -1
  · obtain ⟨rfl, rfl⟩ := a1
    go_enter Tryd.func25, Tryd.ntmps25
    go_wp2
    go_ret
    exact ⟨⟨_, rfl, rfl⟩, rfl⟩
  by_cases a2 : lo = 1 ∧ hi = -1
  · obtain ⟨rfl, rfl⟩ := a2
    go_enter Tryd.func25, Tryd.ntmps25
    go_wp2
    go_ret
    exact ⟨⟨_, rfl, rfl⟩, rfl⟩
  by_cases a3 : lo = 0 ∧ hi = 1
  · obtain ⟨rfl, rfl⟩ := a3
    go_enter Tryd.func25, Tryd.ntmps25
    go_wp2
    go_ret
    exact ⟨⟨_, rfl, rfl⟩, rfl⟩
  have hE : Hid (repT lo hi = if hi = -1 then 123 :: decT lo ++ [44, 125] else if lo = hi then 123 :: decT lo ++ [125] else 123 :: decT lo ++ 44 :: decT hi ++ [125]) := by
    show repT lo hi = _
    unfold repT
    rw [if_neg a1, if_neg a2, if_neg a3]
  obtain ⟨B, hB⟩ : ∃ B, B = repT lo hi := ⟨_, rfl⟩
  rw [← hB] at hE ⊢
  clear hB
  have HX1 := hide (l1dec_any lo w h0 (by omega))
  have hl1 := decT_len lo
  by_cases a4 : hi = -1
  · have HE := hide ((unhide hE).trans (if_pos a4))
    subst a4
    have c1 : ¬ lo = 0 := fun h => a1 ⟨h, rfl⟩
    have c2 : ¬ lo = 1 := fun h => a2 ⟨h, rfl⟩
    clear hE a1 a2 a3
    go_enter Tryd.func25, Tryd.ntmps25
    go_wp2_with fail
    refine (unhide HX1).mono ?_
    rintro e w2 ⟨⟨t, rfl, ht⟩, rfl⟩
    have hz1 := ht.size
    have n2 : ¬ 9223372036854775807 < 1 + t.size := by omega
    have n3 : ¬ 9223372036854775807 < 1 + t.size + 2 := by omega
    have HT := hide ht
    clear ht
    go_wp2
    go_ret
    exact ⟨⟨_, rfl, by rw [unhide HE]; exact StrB.app (StrB.app (a := { data := #[123] }) (xs := [123]) rfl (unhide HT)) (ys := [44, 125]) rfl⟩, rfl⟩
  · have h3 : lo ≤ hi ∧ hi ≤ 250 := by omega
    have HX2 := hide (l1dec_any hi w (by omega) (by omega))
    have hl2 := decT_len hi
    have hE2 := hide ((unhide hE).trans (if_neg a4))
    have c3 : ¬ (lo = 0 ∧ hi = 1) := a3
    clear hE a1 a2 h2
    have d : (lo = 0 ∧ ¬ hi = 1) ∨ lo = 1 ∨ (¬ lo = 0 ∧ ¬ lo = 1) := by omega
    by_cases a5 : lo = hi
    · have HE := hide ((unhide hE2).trans (if_pos a5))
      subst a5
      clear hE2 c3 a3 HX2 hl2
      rcases d with ⟨rfl, c⟩ | rfl | ⟨c, c'⟩
      all_goals
        go_enter Tryd.func25, Tryd.ntmps25
        go_wp2_with fail
        refine (unhide HX1).mono ?_
        rintro e w2 ⟨⟨t, rfl, ht⟩, rfl⟩
        have hz1 := ht.size
        have n2 : ¬ 9223372036854775807 < 1 + t.size := by omega
        have n3 : ¬ 9223372036854775807 < 1 + t.size + 1 := by omega
        have HT := hide ht
        clear ht
        go_wp2
        go_ret
        exact ⟨⟨_, rfl, by rw [unhide HE]; exact StrB.app (StrB.app (a := { data := #[123] }) (xs := [123]) rfl (unhide HT)) (ys := [125]) rfl⟩, rfl⟩
    · have HE := hide ((unhide hE2).trans (if_neg a5))
      clear hE2 c3 a3
      rcases d with ⟨rfl, c⟩ | rfl | ⟨c, c'⟩
      all_goals
        go_enter Tryd.func25, Tryd.ntmps25
        go_wp2_with fail
        refine (unhide HX1).mono ?_
        rintro e w2 ⟨⟨t, rfl, ht⟩, rfl⟩
        have hz1 := ht.size
        have n2 : ¬ 9223372036854775807 < 1 + t.size := by omega
        have n3 : ¬ 9223372036854775807 < 1 + t.size + 1 := by omega
        have HT := hide ht
        clear ht
        go_wp2_with fail
        refine (unhide HX2).mono ?_
        rintro e w3 ⟨⟨u, rfl, hu⟩, rfl⟩
        have hz2 := hu.size
        have n4 : ¬ 9223372036854775807 < 1 + t.size + 1 + u.size := by omega
        have n5 : ¬ 9223372036854775807 < 1 + t.size + 1 + u.size + 1 := by omega
        have HU := hide hu
        clear hu
        go_wp2
        go_ret
        refine ⟨⟨_, rfl, ?_⟩, rfl⟩
        rw [unhide HE]
        have h9 := StrB.app (StrB.app (StrB.app (StrB.app (a := { data := #[123] }) (xs := [123]) rfl (unhide HT)) (b := { data := #[44] }) (ys := [44]) rfl) (unhide HU)) (b := { data := #[125] }) (ys := [125]) rfl
        simpa using h9

end Go.Proofs.YtmhafibngbojcaaDoor
