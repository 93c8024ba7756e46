import Derived.Test.YtjjmgegbeccjoaaPk21
namespace Go.Proofs.Ytjjmgegbeccjoaa
open Go.RowKit

theorem dig_take : ∀ (k : Nat) (s : List Int), k ≤ s.length → (∀ i, i < k → isD (s[i]?.getD 0) = true) → isD (s[k]?.getD (-1)) = false → s.takeWhile isD = s.take k ∧ s.dropWhile isD = s.drop k
  | 0, [], _, _, _ => ⟨rfl, rfl⟩
  | 0, c :: s, _, _, h => by
    simp at h
    rw [List.takeWhile_cons, h, List.dropWhile_cons, h]
    exact ⟨rfl, rfl⟩
  | k + 1, [], h, _, _ => by simp at h
  | k + 1, c :: s, hl, hd, he => by
    have h0 : isD c = true := by have := hd 0 (by omega); simpa using this
    obtain ⟨h1, h2⟩ := dig_take k s (by simpa using hl) (fun i hi => by have := hd (i + 1) (by omega); simpa using this) (by simpa using he)
    rw [List.takeWhile_cons, if_pos h0, List.dropWhile_cons, if_pos h0, h1, h2]
    exact ⟨rfl, rfl⟩
theorem dig_more : ∀ (m : Nat) (s : List Int), m ≤ s.length → (∀ i, i < m → isD (s[i]?.getD 0) = true) → m ≤ (s.takeWhile isD).length
  | 0, _, _, _ => Nat.zero_le _
  | m + 1, [], h, _ => by simp at h
  | m + 1, c :: s, hl, hd => by
    have h0 : isD c = true := by have := hd 0 (by omega); simpa using this
    have := dig_more m s (by simpa using hl) (fun i hi => by have := hd (i + 1) (by omega); simpa using this)
    rw [List.takeWhile_cons, if_pos h0]
    simp
    exact this
/-- A number, as the text's own function reads it. -/
theorem num1_of {xs : List Int} {at' k : Nat} (hD : DgI xs at' k) (he : k < 4 → isD (pkB xs (at' + k)) = false) :
    (k = 0 → num1 (xs.drop at') = none) ∧ (0 < k → isD (pkB xs (at' + k)) = false → num1 (xs.drop at') = some (numV ((xs.drop at').take k), xs.drop (at' + k))) ∧ (isD (pkB xs (at' + k)) = true → num1 (xs.drop at') = none) := by
  obtain ⟨h4, hl, hd⟩ := hD
  have hlen : k ≤ (xs.drop at').length := by rw [List.length_drop]; omega
  have hdd : ∀ i, i < k → isD ((xs.drop at')[i]?.getD 0) = true := fun i hi => by rw [List.getElem?_drop]; exact hd i hi
  have hpk : (xs.drop at')[k]?.getD (-1) = pkB xs (at' + k) := by rw [List.getElem?_drop]; rfl
  refine ⟨fun e => ?_, fun h0 hn => ?_, fun hy => ?_⟩
  · subst e
    obtain ⟨e1, -⟩ := dig_take 0 (xs.drop at') hlen hdd (by rw [hpk]; exact he (by omega))
    unfold num1
    rw [if_pos (.inl (by rw [e1]; rfl))]
  · obtain ⟨e1, e2⟩ := dig_take k (xs.drop at') hlen hdd (by rw [hpk]; exact hn)
    unfold num1
    have hk : ((xs.drop at').take k).length = k := by rw [List.length_take]; omega
    rw [e1, e2, hk, if_neg (by omega), List.drop_drop]
  · have hk4 : k = 4 := by
      apply Classical.byContradiction
      intro e
      rw [he (by omega)] at hy
      cases hy
    have hlt : at' + k < xs.length := by
      apply Nat.lt_of_not_le
      intro e
      unfold pkB at hy
      rw [List.getElem?_eq_none e] at hy
      revert hy
      decide
    have := dig_more (k + 1) (xs.drop at') (by rw [List.length_drop]; omega) (fun i hi => by
      by_cases e : i = k
      · subst e
        rw [List.getElem?_drop, List.getElem?_eq_getElem hlt]
        unfold pkB at hy
        rw [List.getElem?_eq_getElem hlt] at hy
        exact hy
      · exact hdd i (by omega))
    unfold num1
    rw [if_pos (.inr (by omega))]
/-- What stands ahead. -/
theorem drop_pk {xs : List Int} {at' : Nat} {b : Int} (h0 : 0 ≤ b) (h : pkB xs at' = b) : xs.drop at' = b :: xs.drop (at' + 1) ∧ at' < xs.length := by
  have hlt : at' < xs.length := by
    apply Nat.lt_of_not_le
    intro e
    unfold pkB at h
    rw [List.getElem?_eq_none e] at h
    simp at h
    omega
  unfold pkB at h
  rw [List.getElem?_eq_getElem hlt] at h
  simp at h
  exact ⟨by rw [List.drop_eq_getElem_cons hlt, h], hlt⟩
theorem drop_ne {xs : List Int} {at' : Nat} {b : Int} (h : pkB xs at' ≠ b) : ∀ r, xs.drop at' ≠ b :: r := fun r e => by
  apply h
  have := congrArg (fun l => l[0]?) e
  simp at this
  unfold pkB
  rw [this]
  rfl


/-- What readBounds leaves. -/
def BrR (e : Ending) (w w' : World) (N q : Nat) (tv : Value) (xs : List Int) (at' d : Nat) (ov : Bool) : Prop :=
  Obk q w w' ∧ ((brc (xs.drop at') = none ∧ Flt e) ∨ ∃ (lo hi : Int) (at2 : Nat), brc (xs.drop at') = some ((lo, hi), xs.drop at2) ∧ at2 ≤ xs.length ∧ e = .returned (.tuple #[.int .i64 lo, .int .i64 hi]) ∧ Rdr w' N q tv xs at2 d (ov || (decide (250 < lo) || decide (250 < hi))))
theorem isD_ne {b : Int} (h : isD b = true) : b ≠ 125 ∧ b ≠ 44 := by
  simp [isD] at h
  omega
theorem brc2_ne {lo : Int} {s : List Int} (h1 : ∀ r, s ≠ 125 :: r) (h2 : ∀ r, s ≠ 44 :: r) : brc2 lo s = none := by
  cases s with
  | nil => rfl
  | cons c r =>
    rw [brc2, if_neg (fun e => h1 r (by rw [e])), if_neg (fun e => h2 r (by rw [e]))]

theorem brc3_num {lo : Int} {s : List Int} (h : ∀ r, s ≠ 125 :: r) : brc3 lo s = (num1 s).bind fun x => if x.1 < lo then none else match x.2 with
    | d :: r2 => if d = 125 then some ((lo, x.1), r2) else none
    | [] => none := by
  cases s with
  | nil => rfl
  | cons c r =>
    rw [brc3, if_neg (fun e => h r (by rw [e]))]
    rfl

set_option maxHeartbeats 8000000 in
theorem readBounds_any (w : World) (N q : Nat) (tv : Value) (xs : List Int) (at' d : Nat) (ov : Bool) (h : Rdr w N q tv xs at' d ov) (hb : ∀ x ∈ xs, 0 ≤ x ∧ x ≤ 255) (ha : at' ≤ xs.length) (hl : xs.length ≤ 100000) :
    Calls Try.prog 55 #[.pointer (some ⟨q, 0, none⟩)] w fun e w' => BrR e w w' N q tv xs at' d ov := by
  have HN := hide (readNumber_any w N q tv xs at' d ov h hb ha hl)
  have HB := hide hb
  clear h hb
  go_enter Try.func55, Try.ntmps55
  go_wp2_with fail
  refine (unhide HN).mono ?_
  rintro e w1 ⟨k, hD, he, hob, ⟨hk, hf⟩ | ⟨hk, rfl, hR⟩⟩
  · obtain ⟨z, rfl⟩ := hf
    have HX : Hid (brc (xs.drop at') = none) := by show brc _ = none; unfold brc; rw [(num1_of hD he).1 hk]; rfl
    have HOB := hide hob
    clear hD he hob hk
    go_wp2
    exact ⟨rfl, unhide HOB, .inl ⟨unhide HX, _, rfl⟩⟩
  · have hak := hD.2.1
    obtain ⟨lo, hlo⟩ : ∃ lo, lo = numV ((xs.drop at').take k) := ⟨_, rfl⟩
    rw [← hlo] at hR ⊢
    obtain ⟨-, n1, n2⟩ := num1_of hD he
    rw [← hlo] at n1
    obtain ⟨o1, ho1⟩ : ∃ o1, o1 = (ov || decide (250 < lo)) := ⟨_, rfl⟩
    rw [← ho1] at hR
    have HT := hide (take_any w1 N q tv xs (at' + k) d o1 125 hR (unhide HB) hak hl)
    have HR := hide hR
    have HOB := hide hob
    have HN1 := hide (n1 hk)
    have HN2 := hide n2
    have HO1 := hide ho1
    clear hD he hob hR hlo n1 n2 ho1 HN
    go_wp2_with fail
    refine (unhide HT).mono ?_
    rintro e w2 (⟨hne, rfl, m2, rfl⟩ | ⟨heq, rfl, h2, hob2⟩)
    · have hR2 := (unhide HR).drewN m2
      have HE := hide (expect_any (w1.drewN m2) N q tv xs (at' + k) d o1 44 hR2 (unhide HB) hak hl)
      have HNE := hide hne
      clear hne hR2 HT
      go_wp2_with fail
      refine (unhide HE).mono ?_
      rintro e w3 (⟨hne2, rfl, m3, rfl⟩ | ⟨heq, rfl, h3, hob3⟩)
      · have HX : Hid (brc (xs.drop at') = none) := by
          show brc _ = none
          unfold brc
          cases hdg : isD (pkB xs (at' + k)) with
          | true => rw [unhide HN2 hdg]; rfl
          | false => rw [unhide HN1 hdg, Option.bind_some]; exact brc2_ne (drop_ne (unhide HNE)) (drop_ne hne2)
        clear hne2
        go_wp2
        exact ⟨rfl, (unhide HOB).trans (obk_drewN q w1 _), .inl ⟨unhide HX, _, rfl⟩⟩
      · obtain ⟨hdr, hlt⟩ := drop_pk (by omega) heq
        have hnd : isD (pkB xs (at' + k)) = false := by rw [heq]; decide
        have HX : Hid (brc (xs.drop at') = brc3 lo (xs.drop (at' + k + 1))) := by
          show brc _ = _
          unfold brc
          rw [unhide HN1 hnd, Option.bind_some, hdr, brc2, if_neg (by decide), if_pos rfl]
        have hak2 : at' + k + 1 ≤ xs.length := by omega
        have HOB3 := hide (((unhide HOB).trans (obk_drewN q w1 m2)).trans hob3)
        have HT2 := hide (take_any w3 N q tv xs (at' + k + 1) d o1 125 h3 (unhide HB) hak2 hl)
        have H3 := hide h3
        clear hdr heq hnd hlt h3 hob3 HE HR HOB
        go_wp2_with fail
        refine (unhide HT2).mono ?_
        rintro e w4 (⟨hne4, rfl, m4, rfl⟩ | ⟨heq4, rfl, h4, hob4⟩)
        · have HN5 := hide (readNumber_any (w3.drewN m4) N q tv xs (at' + k + 1) d o1 ((unhide H3).drewN m4) (unhide HB) hak2 hl)
          have HY : Hid (brc (xs.drop at') = (num1 (xs.drop (at' + k + 1))).bind fun x => if x.1 < lo then none else match x.2 with
              | d :: r2 => if d = 125 then some ((lo, x.1), r2) else none
              | [] => none) := by
            show brc _ = _
            rw [unhide HX, brc3_num (drop_ne hne4)]
          clear hne4 HT2 H3
          go_wp2_with fail
          refine (unhide HN5).mono ?_
          rintro e w5 ⟨k2, hD, he, hob5, ⟨hk2, hf⟩ | ⟨hk2, rfl, hR5⟩⟩
          · obtain ⟨z, rfl⟩ := hf
            have HZ : Hid (brc (xs.drop at') = none) := by show brc _ = none; rw [unhide HY, (num1_of hD he).1 hk2]; rfl
            have HOB5 := hide (((unhide HOB3).trans (obk_drewN q w3 m4)).trans hob5)
            clear hD he hob5 hk2
            go_wp2
            exact ⟨rfl, unhide HOB5, .inl ⟨unhide HZ, _, rfl⟩⟩
          · have hak5 := hD.2.1
            obtain ⟨hi, hhi⟩ : ∃ hi, hi = numV ((xs.drop (at' + k + 1)).take k2) := ⟨_, rfl⟩
            rw [← hhi] at hR5 ⊢
            obtain ⟨-, n1, n2⟩ := num1_of hD he
            rw [← hhi] at n1
            obtain ⟨o5, ho5⟩ : ∃ o5, o5 = (o1 || decide (250 < hi)) := ⟨_, rfl⟩
            rw [← ho5] at hR5
            have HE5 := hide (expect_any w5 N q tv xs (at' + k + 1 + k2) d o5 125 hR5 (unhide HB) hak5 hl)
            have HOB5 := hide (((unhide HOB3).trans (obk_drewN q w3 m4)).trans hob5)
            have HM1 := hide (n1 hk2)
            have HM2 := hide n2
            have HO5 := hide ho5
            clear hD he hob5 hR5 hhi n1 n2 ho5 HN5
            go_wp2_with fail
            refine (unhide HE5).mono ?_
            rintro e w6 (⟨hne6, rfl, m6, rfl⟩ | ⟨heq6, rfl, h6, hob6⟩)
            · have HZ : Hid (brc (xs.drop at') = none) := by
                show brc _ = none
                rw [unhide HY]
                cases hdg : isD (pkB xs (at' + k + 1 + k2)) with
                | true => rw [unhide HM2 hdg]; rfl
                | false =>
                  rw [unhide HM1 hdg, Option.bind_some]
                  split
                  · rfl
                  · have h9 := drop_ne hne6
                    cases hs : xs.drop (at' + k + 1 + k2) with
                    | nil => rfl
                    | cons c r =>
                      simp only
                      rw [if_neg (fun e => h9 r (by rw [hs, e]))]
              clear hne6
              go_wp2
              exact ⟨rfl, (unhide HOB5).trans (obk_drewN q w5 _), .inl ⟨unhide HZ, _, rfl⟩⟩
            · obtain ⟨hdr, hlt⟩ := drop_pk (by omega) heq6
              have hnd : isD (pkB xs (at' + k + 1 + k2)) = false := by rw [heq6]; decide
              have hm := unhide HM1 hnd
              have HOB6 := hide ((unhide HOB5).trans hob6)
              have H6 := hide h6
              by_cases hlh : hi < lo
              · have HZ : Hid (brc (xs.drop at') = none) := by
                  show brc _ = none
                  rw [unhide HY, hm, Option.bind_some, if_pos hlh]
                have HF := hide (fail_any w6 N q tv xs _ d o5 h6)
                clear hdr heq6 hnd hm h6 hob6 hlt
                go_wp2_with fail
                refine (unhide HF).mono ?_
                rintro e w7 ⟨rfl, rfl⟩
                go_wp2
                exact ⟨rfl, unhide HOB6, .inl ⟨unhide HZ, _, rfl⟩⟩
              · have HZ : Hid (brc (xs.drop at') = some ((lo, hi), xs.drop (at' + k + 1 + k2 + 1))) := by
                  show brc _ = _
                  rw [unhide HY, hm, Option.bind_some, if_neg hlh, hdr]
                  simp
                have HF : Hid (Rdr w6 N q tv xs (at' + k + 1 + k2 + 1) d (ov || (decide (250 < lo) || decide (250 < hi)))) := by
                  rw [← Bool.or_assoc, ← unhide HO1, ← unhide HO5]
                  exact h6
                have hle : at' + k + 1 + k2 + 1 ≤ xs.length := by omega
                clear hdr heq6 hnd hm h6 hob6 hlt
                go_wp2
                go_ret2
                exact ⟨unhide HOB6, .inr ⟨lo, hi, _, unhide HZ, hle, rfl, unhide HF⟩⟩
        · obtain ⟨hdr, hlt⟩ := drop_pk (by omega) heq4
          have HY : Hid (brc (xs.drop at') = some ((lo, -1), xs.drop (at' + k + 1 + 1))) := by
            show brc _ = _
            rw [unhide HX, hdr, brc3, if_pos rfl]
          have HF : Hid (Rdr w4 N q tv xs (at' + k + 1 + 1) d (ov || (decide (250 < lo) || decide ((250 : Int) < -1)))) := by
            rw [show decide ((250 : Int) < -1) = false by decide, Bool.or_false, ← unhide HO1]
            exact h4
          have HOB4 := hide ((unhide HOB3).trans hob4)
          have hle : at' + k + 1 + 1 ≤ xs.length := by omega
          clear hdr heq4 hlt h4 hob4 HT2 H3
          go_wp2
          go_ret2
          exact ⟨unhide HOB4, .inr ⟨lo, -1, _, unhide HY, hle, rfl, unhide HF⟩⟩
    · obtain ⟨hdr, hlt⟩ := drop_pk (by omega) heq
      have hnd : isD (pkB xs (at' + k)) = false := by rw [heq]; decide
      have HX : Hid (brc (xs.drop at') = some ((lo, lo), xs.drop (at' + k + 1))) := by
        show brc _ = _
        unfold brc
        rw [unhide HN1 hnd, Option.bind_some, hdr, brc2, if_pos rfl]
      have HF : Hid (Rdr w2 N q tv xs (at' + k + 1) d (ov || (decide (250 < lo) || decide (250 < lo)))) := by rw [Bool.or_self, ← unhide HO1]; exact h2
      have HOB2 := hide ((unhide HOB).trans hob2)
      have hle : at' + k + 1 ≤ xs.length := by omega
      clear hdr heq hnd h2 hob2 hlt
      go_wp2
      go_ret2
      exact ⟨unhide HOB2, .inr ⟨lo, lo, _, unhide HX, hle, rfl, unhide HF⟩⟩

end Go.Proofs.Ytjjmgegbeccjoaa
