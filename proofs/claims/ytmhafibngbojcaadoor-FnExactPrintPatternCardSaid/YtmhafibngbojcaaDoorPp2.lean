import Derived.Test.YtmhafibngbojcaaDoorP7
namespace Go.Proofs.YtmhafibngbojcaaDoor
open Go.RowKit

theorem StrB.size {a : ByteArray} {xs : List Int} (h : StrB a xs) : a.size = xs.length := by
  have := congrArg List.length h
  rw [Go.Lib.strCells_length, List.length_map] at this
  exact this
theorem StrB.app {a b : ByteArray} {xs ys : List Int} (h : StrB a xs) (k : StrB b ys) : StrB (a ++ b) (xs ++ ys) := by
  unfold StrB Go.Lib.strCells at *
  rw [List.map_append, ← h, ← k]
  simp

set_option maxHeartbeats 1000000 in
theorem l1group_any (p : Bool) (s : ByteArray) (xs : List Int) (w : World) (h : StrB s xs) (hl : xs.length ≤ 100000000) :
    Calls Tryd.prog 24 #[.string s, .bool p] w fun e w' => (∃ t, e = .returned (.string t) ∧ StrB t (grp (p = true) xs)) ∧ w' = w := by
  have hz := h.size
  have n1 : ¬ 9223372036854775807 < 1 + s.size := by omega
  have n2 : ¬ 9223372036854775807 < 1 + s.size + 1 := by omega
  have H := hide h
  clear h
  cases p with
  | true =>
    go_enter Tryd.func24, Tryd.ntmps24
    go_wp2
    go_ret
    refine ⟨⟨_, rfl, ?_⟩, rfl⟩
    unfold grp
    rw [if_pos trivial]
    exact (StrB.app (StrB.app (a := { data := #[40] }) (xs := [40]) rfl (unhide H)) (ys := [41]) rfl)
  | false =>
    go_enter Tryd.func24, Tryd.ntmps24
    go_wp2
    go_ret
    exact ⟨⟨_, rfl, by simpa [grp] using unhide H⟩, rfl⟩

set_option maxHeartbeats 1000000 in
theorem l1hex_any (v : Int) (w : World) (h0 : 0 ≤ v) (h1 : v < 16) :
    Calls Tryd.prog 59 #[.int .i64 v] w fun e w' => (∃ t, e = .returned (.string t) ∧ StrB t [hexd v]) ∧ w' = w := by
  have e : v = 0 ∨ v = 1 ∨ v = 2 ∨ v = 3 ∨ v = 4 ∨ v = 5 ∨ v = 6 ∨ v = 7 ∨ v = 8 ∨ v = 9 ∨ v = 10 ∨ v = 11 ∨ v = 12 ∨ v = 13 ∨ v = 14 ∨ v = 15 := by omega
  clear h0 h1
  rcases e with rfl | rfl | rfl | rfl | rfl | rfl | rfl | rfl | rfl | rfl | rfl | rfl | rfl | rfl | rfl | rfl
  all_goals
    go_enter Tryd.func59, Tryd.ntmps59
    go_wp2
    go_ret
    exact ⟨⟨_, rfl, rfl⟩, rfl⟩

theorem decT_s {v : Int} (h : v < 10) : decT v = [48 + v] := by unfold decT; rw [if_pos h]
theorem decT_step {v : Int} (h0 : 10 ≤ v) (h1 : v < 1000) : decT v = decT (v / 10) ++ decT (v % 10) := by
  rw [decT_s (show v % 10 < 10 by omega)]
  unfold decT
  rw [if_neg (by omega)]
  by_cases h : v < 100
  · rw [if_pos h, if_pos (by omega)]; rfl
  · rw [if_neg h, if_neg (by omega), if_pos (by omega)]
    simp only [List.cons_append, List.nil_append, List.cons.injEq, and_true]
    omega

set_option maxHeartbeats 1000000 in
theorem l1dec_s (v : Int) (w : World) (h0 : 0 ≤ v) (h1 : v < 10) :
    Calls Tryd.prog 44 #[.int .i64 v] w fun e w' => (∃ t, e = .returned (.string t) ∧ StrB t (decT v)) ∧ w' = w := by
  rw [decT_s h1]
  have e : v = 0 ∨ v = 1 ∨ v = 2 ∨ v = 3 ∨ v = 4 ∨ v = 5 ∨ v = 6 ∨ v = 7 ∨ v = 8 ∨ v = 9 := by omega
  clear h0 h1
  rcases e with rfl | rfl | rfl | rfl | rfl | rfl | rfl | rfl | rfl | rfl
  all_goals
    go_enter Tryd.func44, Tryd.ntmps44
    go_wp2
    go_ret
    exact ⟨⟨_, rfl, rfl⟩, rfl⟩

set_option maxHeartbeats 1000000 in
theorem l1dec_t (v : Int) (w : World) (h0 : 10 ≤ v) (h1 : v < 1000) (H : Calls Tryd.prog 44 #[.int .i64 (v / 10)] w fun e w' => (∃ t, e = .returned (.string t) ∧ StrB t (decT (v / 10))) ∧ w' = w) :
    Calls Tryd.prog 44 #[.int .i64 v] w fun e w' => (∃ t, e = .returned (.string t) ∧ StrB t (decT v)) ∧ w' = w := by
  have hd : v.tdiv 10 = v / 10 := Int.tdiv_eq_ediv_of_nonneg (by omega)
  have hm : v.tmod 10 = v % 10 := Int.tmod_eq_emod_of_nonneg (by omega)
  have n0 : ¬ v < 10 := by omega
  have HH := hide H
  have HE := hide (decT_step h0 h1)
  clear H
  go_enter Tryd.func44, Tryd.ntmps44
  go_wp2_with fail
  refine (unhide HH).mono ?_
  rintro e w1 ⟨⟨t, rfl, ht⟩, rfl⟩
  have hz := ht.size
  have hdl := decT_len (v / 10)
  have Ht := hide ht
  clear ht
  go_wp2_with fail
  refine (l1dec_s (v % 10) _ (by omega) (by omega)).mono ?_
  rintro e w1 ⟨⟨u, rfl, hu⟩, rfl⟩
  have hz2 := hu.size
  have hdl2 := decT_len (v % 10)
  have n1 : ¬ 9223372036854775807 < t.size + u.size := by omega
  have Hu := hide hu
  clear hu
  go_wp2
  go_ret
  exact ⟨⟨_, rfl, by rw [unhide HE]; exact (unhide Ht).app (unhide Hu)⟩, rfl⟩
theorem l1dec_any (v : Int) (w : World) (h0 : 0 ≤ v) (h1 : v < 1000) :
    Calls Tryd.prog 44 #[.int .i64 v] w fun e w' => (∃ t, e = .returned (.string t) ∧ StrB t (decT v)) ∧ w' = w := by
  by_cases h : v < 10
  · exact l1dec_s v w h0 h
  · refine l1dec_t v w (by omega) h1 ?_
    by_cases h2 : v < 100
    · exact l1dec_s _ w (by omega) (by omega)
    · exact l1dec_t _ w (by omega) (by omega) (l1dec_s _ w (by omega) (by omega))

set_option maxHeartbeats 4000000 in
theorem l1special_any (b : Int) (w : World) (h0 : 0 ≤ b) (h1 : b ≤ 255) :
    Calls Tryd.prog 58 #[.int .i64 b] w fun e w' => RetB e (b ∈ spcL) ∧ w' = w := by
  have v0 : wrap64 ((({ data := #[92, 46, 91, 93, 40, 41, 124, 42, 43, 63, 123, 125, 94, 36] } : ByteArray)[0].toNat : Nat) : Int) = 92 := by decide +kernel
  have v1 : wrap64 ((({ data := #[92, 46, 91, 93, 40, 41, 124, 42, 43, 63, 123, 125, 94, 36] } : ByteArray)[1].toNat : Nat) : Int) = 46 := by decide +kernel
  have v2 : wrap64 ((({ data := #[92, 46, 91, 93, 40, 41, 124, 42, 43, 63, 123, 125, 94, 36] } : ByteArray)[2].toNat : Nat) : Int) = 91 := by decide +kernel
  have v3 : wrap64 ((({ data := #[92, 46, 91, 93, 40, 41, 124, 42, 43, 63, 123, 125, 94, 36] } : ByteArray)[3].toNat : Nat) : Int) = 93 := by decide +kernel
  have v4 : wrap64 ((({ data := #[92, 46, 91, 93, 40, 41, 124, 42, 43, 63, 123, 125, 94, 36] } : ByteArray)[4].toNat : Nat) : Int) = 40 := by decide +kernel
  have v5 : wrap64 ((({ data := #[92, 46, 91, 93, 40, 41, 124, 42, 43, 63, 123, 125, 94, 36] } : ByteArray)[5].toNat : Nat) : Int) = 41 := by decide +kernel
  have v6 : wrap64 ((({ data := #[92, 46, 91, 93, 40, 41, 124, 42, 43, 63, 123, 125, 94, 36] } : ByteArray)[6].toNat : Nat) : Int) = 124 := by decide +kernel
  have v7 : wrap64 ((({ data := #[92, 46, 91, 93, 40, 41, 124, 42, 43, 63, 123, 125, 94, 36] } : ByteArray)[7].toNat : Nat) : Int) = 42 := by decide +kernel
  have v8 : wrap64 ((({ data := #[92, 46, 91, 93, 40, 41, 124, 42, 43, 63, 123, 125, 94, 36] } : ByteArray)[8].toNat : Nat) : Int) = 43 := by decide +kernel
  have v9 : wrap64 ((({ data := #[92, 46, 91, 93, 40, 41, 124, 42, 43, 63, 123, 125, 94, 36] } : ByteArray)[9].toNat : Nat) : Int) = 63 := by decide +kernel
  have v10 : wrap64 ((({ data := #[92, 46, 91, 93, 40, 41, 124, 42, 43, 63, 123, 125, 94, 36] } : ByteArray)[10].toNat : Nat) : Int) = 123 := by decide +kernel
  have v11 : wrap64 ((({ data := #[92, 46, 91, 93, 40, 41, 124, 42, 43, 63, 123, 125, 94, 36] } : ByteArray)[11].toNat : Nat) : Int) = 125 := by decide +kernel
  have v12 : wrap64 ((({ data := #[92, 46, 91, 93, 40, 41, 124, 42, 43, 63, 123, 125, 94, 36] } : ByteArray)[12].toNat : Nat) : Int) = 94 := by decide +kernel
  have v13 : wrap64 ((({ data := #[92, 46, 91, 93, 40, 41, 124, 42, 43, 63, 123, 125, 94, 36] } : ByteArray)[13].toNat : Nat) : Int) = 36 := by decide +kernel
  go_enter Tryd.func58, Tryd.ntmps58
  go_wp2_with fail
  go_loop [4] (fun iv => ∃ i : Nat, i ≤ 14 ∧ iv = .int .i64 i ∧ ∀ k : Nat, k < i → spcL[k]?.getD 0 ≠ b) (fun iv => 14 - (intOf iv).toNat)
  case atStart => exact ⟨0, by omega, rfl, fun k hk => absurd hk (Nat.not_lt_zero _)⟩
  case round =>
    obtain ⟨i, hi, rfl, hno⟩ := hrel
    have Hno := hide hno
    clear hno
    by_cases hlt : i < 14
    · have Hnx : Hid (spcL[i]?.getD 0 ≠ b → ∀ k : Nat, k < i + 1 → spcL[k]?.getD 0 ≠ b) := fun h k hk => by
        by_cases e : k = i
        · subst e; exact h
        · exact unhide Hno k (by omega)
      have Hin : Hid (spcL[i]?.getD 0 = b → b ∈ spcL) := fun h => by
        rw [← h, List.getElem?_eq_getElem (show i < spcL.length from hlt)]
        exact List.getElem_mem _
      obtain ⟨c, hc⟩ : ∃ c, spcL[i]?.getD 0 = c := ⟨_, rfl⟩
      rw [hc] at Hnx Hin
      have e : i = 0 ∨ i = 1 ∨ i = 2 ∨ i = 3 ∨ i = 4 ∨ i = 5 ∨ i = 6 ∨ i = 7 ∨ i = 8 ∨ i = 9 ∨ i = 10 ∨ i = 11 ∨ i = 12 ∨ i = 13 := by omega
      clear hi hlt Hno
      by_cases hb : c = b
      · have hin := hide (unhide Hin hb)
        clear Hnx Hin
        rcases e with rfl | rfl | rfl | rfl | rfl | rfl | rfl | rfl | rfl | rfl | rfl | rfl | rfl | rfl
        all_goals
          simp only [spcL, List.getElem?_cons_zero, List.getElem?_cons_succ, Option.getD_some] at hc
          subst hc
          subst hb
          go_wp2
          go_ret
          exact ⟨RetB.yes (unhide hin), rfl⟩
      · have hno := hide (unhide Hnx hb)
        clear Hnx Hin
        rcases e with rfl | rfl | rfl | rfl | rfl | rfl | rfl | rfl | rfl | rfl | rfl | rfl | rfl | rfl
        all_goals
          simp only [spcL, List.getElem?_cons_zero, List.getElem?_cons_succ, Option.getD_some] at hc
          subst hc
          go_wp2
          go_round
          case rel => exact ⟨_, by omega, by go_num, unhide hno⟩
          case measure => simp [intOf]
    · obtain rfl : i = 14 := by omega
      have hn : Hid (b ∉ spcL) := fun h => by
        obtain ⟨k, hk, e⟩ := List.mem_iff_getElem.1 h
        exact unhide Hno k hk (by rw [List.getElem?_eq_getElem hk]; exact e)
      clear Hno
      go_wp2
      go_ret
      exact ⟨RetB.no (unhide hn), rfl⟩

end Go.Proofs.YtmhafibngbojcaaDoor
