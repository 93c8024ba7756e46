import Derived.Test.YtcmofgehhdfifaaGreatDoorPz10
import Derived.Test.YtcmofgehhdfifaaGreatDoorPk16
import Derived.Test.YtcmofgehhdfifaaGreatDoorPk9
namespace Go.Proofs.YtcmofgehhdfifaaGreatDoor
open Go.RowKit
def hexI (c : Int) : Int := (hexv c).getD (-1)
set_option maxHeartbeats 2000000 in
theorem l1hexval_any (c : Int) (w : World) (h0 : 0 ≤ c) (h1 : c ≤ 255) : Calls Tryz.prog 67 #[.int .u8 c] w fun e w' => e = .returned (.int .i64 (hexI c)) ∧ w' = w := by
  by_cases e1 : 48 ≤ c ∧ c ≤ 57
  · have HV : Hid (hexI c = c - 48) := by show hexI c = _; unfold hexI hexv; rw [if_pos e1]; rfl
    obtain ⟨a1, a2⟩ := e1
    have hw : IntKind.u8.wrap (c - 48) = c - 48 := by rw [IntKind.wrap_u8]; omega
    go_enter Tryz.func67, Tryz.ntmps67
    go_wp2
    go_ret
    exact ⟨by rw [unhide HV]; rfl, rfl⟩
  · have n1 : ¬ 48 ≤ c ∨ ¬ c ≤ 57 := by omega
    by_cases e2 : 97 ≤ c ∧ c ≤ 102
    · have HV : Hid (hexI c = c - 97 + 10) := by show hexI c = _; unfold hexI hexv; rw [if_neg e1, if_pos e2]; rfl
      obtain ⟨a1, a2⟩ := e2
      have b1 : 48 ≤ c := by omega
      have b2 : ¬ c ≤ 57 := by omega
      have hw : IntKind.u8.wrap (c - 97) = c - 97 := by rw [IntKind.wrap_u8]; omega
      clear n1 e1
      go_enter Tryz.func67, Tryz.ntmps67
      go_wp2
      go_ret
      exact ⟨by rw [unhide HV]; rfl, rfl⟩
    · by_cases e3 : 65 ≤ c ∧ c ≤ 70
      · have HV : Hid (hexI c = c - 65 + 10) := by show hexI c = _; unfold hexI hexv; rw [if_neg e1, if_neg e2, if_pos e3]; rfl
        obtain ⟨a1, a2⟩ := e3
        have b1 : 48 ≤ c := by omega
        have b2 : ¬ c ≤ 57 := by omega
        have b3 : ¬ 97 ≤ c := by omega
        have hw : IntKind.u8.wrap (c - 65) = c - 65 := by rw [IntKind.wrap_u8]; omega
        clear n1 e1 e2
        go_enter Tryz.func67, Tryz.ntmps67
        go_wp2
        go_ret
        exact ⟨by rw [unhide HV]; rfl, rfl⟩
      · have HV : Hid (hexI c = -1) := by show hexI c = _; unfold hexI hexv; rw [if_neg e1, if_neg e2, if_neg e3]; rfl
        have hcs : ¬ 48 ≤ c ∨ (48 ≤ c ∧ ¬ c ≤ 57 ∧ ¬ 65 ≤ c) ∨ (48 ≤ c ∧ ¬ c ≤ 57 ∧ ¬ c ≤ 70 ∧ ¬ 97 ≤ c) ∨ ¬ c ≤ 102 := by omega
        clear n1 e1 e2 e3
        rcases hcs with a | ⟨a, b, d⟩ | ⟨a, b, d, f⟩ | a
        · have b1 : ¬ 97 ≤ c := by omega
          have b2 : ¬ 65 ≤ c := by omega
          go_enter Tryz.func67, Tryz.ntmps67
          go_wp2
          go_ret
          exact ⟨by rw [unhide HV]; rfl, rfl⟩
        · have b1 : ¬ 97 ≤ c := by omega
          go_enter Tryz.func67, Tryz.ntmps67
          go_wp2
          go_ret
          exact ⟨by rw [unhide HV]; rfl, rfl⟩
        · have b1 : 65 ≤ c := by omega
          go_enter Tryz.func67, Tryz.ntmps67
          go_wp2
          go_ret
          exact ⟨by rw [unhide HV]; rfl, rfl⟩
        · have b1 : 48 ≤ c := by omega
          have b2 : ¬ c ≤ 57 := by omega
          have b3 : 97 ≤ c := by omega
          have b4 : 65 ≤ c := by omega
          have b5 : ¬ c ≤ 70 := by omega
          go_enter Tryz.func67, Tryz.ntmps67
          go_wp2
          go_ret
          exact ⟨by rw [unhide HV]; rfl, rfl⟩
def BeM (e : Ending) (xs : List Int) (i : Nat) : Prop := (besc (xs.drop (i + 1)) = none ∧ e = .returned (.tuple #[.int .i64 0, .int .i64 0])) ∨ ∃ (v : Int) (n : Nat), besc (xs.drop (i + 1)) = some (v, xs.drop (i + n)) ∧ 2 ≤ n ∧ i + n ≤ xs.length ∧ 0 ≤ v ∧ v ≤ 255 ∧ e = .returned (.tuple #[.int .i64 v, .int .i64 (n : Nat)])
set_option maxHeartbeats 4000000 in
set_option maxRecDepth 100000 in
theorem l1byteEsc_any (sv : Value) (xs : List Int) (i : Nat) (w : World) (hv : SlAt mB 0 0 w.heap.size w sv xs) (hb : BytesIn xs) (hi : xs[i]? = some 92) (hl : xs.length ≤ 100000) :
    Calls Tryz.prog 41 #[sv, .int .i64 (i : Nat)] w fun e w' => BeM e xs i ∧ w' = w := by
  obtain ⟨a, cp, rfl, -, hc⟩ := hv
  have hlt : i < xs.length := by
    rcases Nat.lt_or_ge i xs.length with h | h
    · exact h
    · rw [List.getElem?_eq_none h] at hi; cases hi
  obtain ⟨b, off, rfl, -, -, hcell⟩ := hc (by omega)
  have x0 : w.cell? ⟨b, off + i, none⟩ = some (.int .u8 92) := by rw [hcell i hlt, hi]; rfl
  by_cases h1 : i + 1 < xs.length
  · obtain ⟨c, hce⟩ : ∃ c, c = xs[i + 1]?.getD 0 := ⟨_, rfl⟩
    have x1 : w.cell? ⟨b, off + (i + 1), none⟩ = some (.int .u8 c) := by rw [hcell (i + 1) h1, ← hce]; rfl
    have HD : Hid (xs.drop (i + 1) = c :: xs.drop (i + 1 + 1)) := by rw [hce]; exact drop_at h1
    obtain ⟨c0, c1⟩ := hb c (by rw [hce, List.getElem?_eq_getElem h1]; exact List.getElem_mem h1)
    have h1' : (i : Int) + 1 < (xs.length : Int) := by omega
    have h2' : ¬ (xs.length : Int) ≤ (i : Int) + 1 := by omega
    have h0' : (i : Int) < (xs.length : Int) := by omega
    have HS := hide (l1special_any c w c0 c1)
    have HCELL := hide hcell
    have HB := hide hb
    clear hce hcell hc hb hi
    go_enter Tryz.func41, Tryz.ntmps41
    go_wp2_with fail
    refine (unhide HS).mono ?_
    rintro e w1 ⟨hret, rfl⟩
    rcases hret.cases with ⟨rfl, hy⟩ | ⟨rfl, hy⟩
    · have HX : Hid (besc (xs.drop (i + 1)) = some (c, xs.drop (i + 2))) := by show besc _ = _; rw [unhide HD, besc, if_pos (.inl hy)]
      clear hy hret HS
      go_wp2
      go_ret2
      exact ⟨.inr ⟨c, 2, unhide HX, by omega, by omega, c0, c1, rfl⟩, rfl⟩
    · by_cases e1 : c = 45
      · have HX : Hid (besc (xs.drop (i + 1)) = some (c, xs.drop (i + 2))) := by show besc _ = _; rw [unhide HD, besc, if_pos (.inr e1)]
        subst e1
        clear hy hret HS
        go_wp2
        go_ret2
        exact ⟨.inr ⟨45, 2, unhide HX, by omega, by omega, by omega, by omega, rfl⟩, rfl⟩
      have hn0 : ¬ (c ∈ spcZ ∨ c = 45) := by rintro (k | k); exact hy k; exact e1 k
      clear hy hret HS
      by_cases e2 : c = 110
      · have HX : Hid (besc (xs.drop (i + 1)) = some (10, xs.drop (i + 2))) := by show besc _ = _; rw [unhide HD, besc, if_neg hn0, if_pos e2]
        subst e2
        clear hn0
        go_wp2
        go_ret2
        exact ⟨.inr ⟨10, 2, unhide HX, by omega, by omega, by omega, by omega, rfl⟩, rfl⟩
      by_cases e3 : c = 116
      · have HX : Hid (besc (xs.drop (i + 1)) = some (9, xs.drop (i + 2))) := by show besc _ = _; rw [unhide HD, besc, if_neg hn0, if_neg e2, if_pos e3]
        subst e3
        clear hn0
        go_wp2
        go_ret2
        exact ⟨.inr ⟨9, 2, unhide HX, by omega, by omega, by omega, by omega, rfl⟩, rfl⟩
      by_cases e4 : c = 114
      · have HX : Hid (besc (xs.drop (i + 1)) = some (13, xs.drop (i + 2))) := by show besc _ = _; rw [unhide HD, besc, if_neg hn0, if_neg e2, if_neg e3, if_pos e4]
        subst e4
        clear hn0
        go_wp2
        go_ret2
        exact ⟨.inr ⟨13, 2, unhide HX, by omega, by omega, by omega, by omega, rfl⟩, rfl⟩
      by_cases e5 : c = 120
      · have HX : Hid (besc (xs.drop (i + 1)) = hex2 (xs.drop (i + 2))) := by show besc _ = _; rw [unhide HD, besc, if_neg hn0, if_neg e2, if_neg e3, if_neg e4, if_pos e5]
        subst e5
        clear hn0
        by_cases h3 : i + 3 < xs.length
        · obtain ⟨p, hp⟩ : ∃ p, p = xs[i + 2]?.getD 0 := ⟨_, rfl⟩
          obtain ⟨r, hr⟩ : ∃ r, r = xs[i + 3]?.getD 0 := ⟨_, rfl⟩
          have x2 : w1.cell? ⟨b, off + (i + 2), none⟩ = some (.int .u8 p) := by rw [unhide HCELL (i + 2) (by omega), ← hp]; rfl
          have x3 : w1.cell? ⟨b, off + (i + 3), none⟩ = some (.int .u8 r) := by rw [unhide HCELL (i + 3) h3, ← hr]; rfl
          obtain ⟨p0, p1⟩ := unhide HB p (by rw [hp, List.getElem?_eq_getElem (show i + 2 < xs.length by omega)]; exact List.getElem_mem _)
          obtain ⟨r0, r1⟩ := unhide HB r (by rw [hr, List.getElem?_eq_getElem h3]; exact List.getElem_mem h3)
          have HY : Hid (hex2 (xs.drop (i + 2)) = (hexv p).bind fun a => (hexv r).map fun b => (a * 16 + b, xs.drop (i + 4))) := by
            show hex2 _ = _
            rw [drop_at (show i + 2 < xs.length by omega), drop_at (show i + 2 + 1 < xs.length by omega), hp, hr]
            rfl
          have HP := hide (l1hexval_any p w1 p0 p1)
          have HR := hide (l1hexval_any r w1 r0 r1)
          have h3' : (i : Int) + 3 < (xs.length : Int) := by omega
          have h4' : (i : Int) + 2 < (xs.length : Int) := by omega
          clear hp hr
          go_wp2_with fail
          refine (unhide HP).mono ?_
          rintro e w2 ⟨rfl, rfl⟩
          go_wp2_with fail
          refine (unhide HR).mono ?_
          rintro e w3 ⟨rfl, rfl⟩
          cases hvp : hexv p with
          | none =>
            have e9 : hexI p = -1 := by unfold hexI; rw [hvp]; rfl
            have HZ : Hid (besc (xs.drop (i + 1)) = none) := by show besc _ = none; rw [unhide HX, unhide HY, hvp]; rfl
            rw [e9]
            clear hvp e9 HP HR HX HY
            go_wp2
            go_ret2
            exact ⟨.inl ⟨unhide HZ, rfl⟩, rfl⟩
          | some u =>
            have e9 : hexI p = u := by unfold hexI; rw [hvp]; rfl
            obtain ⟨u0, u1⟩ := hexv_bd hvp
            rw [e9]
            cases hvr : hexv r with
            | none =>
              have e8 : hexI r = -1 := by unfold hexI; rw [hvr]; rfl
              have HZ : Hid (besc (xs.drop (i + 1)) = none) := by show besc _ = none; rw [unhide HX, unhide HY, hvp, hvr]; rfl
              rw [e8]
              clear hvp hvr e9 e8 HP HR HX HY
              go_wp2
              go_ret2
              exact ⟨.inl ⟨unhide HZ, rfl⟩, rfl⟩
            | some v =>
              have e8 : hexI r = v := by unfold hexI; rw [hvr]; rfl
              obtain ⟨v0, v1⟩ := hexv_bd hvr
              have HZ : Hid (besc (xs.drop (i + 1)) = some (u * 16 + v, xs.drop (i + 4))) := by show besc _ = _; rw [unhide HX, unhide HY, hvp, hvr]; rfl
              rw [e8]
              clear hvp hvr e9 e8 HP HR HX HY
              go_wp2
              go_ret2
              exact ⟨.inr ⟨u * 16 + v, 4, unhide HZ, by omega, by omega, by omega, by omega, rfl⟩, rfl⟩
        · have h3' : ¬ (i : Int) + 3 < (xs.length : Int) := by omega
          have HZ : Hid (besc (xs.drop (i + 1)) = none) := by
            show besc _ = none
            rw [unhide HX]
            by_cases h2 : i + 2 < xs.length
            · rw [drop_at h2, List.drop_eq_nil_of_le (by omega)]; rfl
            · rw [List.drop_eq_nil_of_le (by omega)]; rfl
          clear HX
          go_wp2
          go_ret2
          exact ⟨.inl ⟨unhide HZ, rfl⟩, rfl⟩
      have HZ : Hid (besc (xs.drop (i + 1)) = none) := by show besc _ = none; rw [unhide HD, besc, if_neg hn0, if_neg e2, if_neg e3, if_neg e4, if_neg e5]
      clear hn0
      go_wp2
      go_ret2
      exact ⟨.inl ⟨unhide HZ, rfl⟩, rfl⟩
  · have h1' : ¬ (i : Int) + 1 < (xs.length : Int) := by omega
    have h2' : (xs.length : Int) ≤ (i : Int) + 1 := by omega
    have HZ : Hid (besc (xs.drop (i + 1)) = none) := by show besc _ = none; rw [List.drop_eq_nil_of_le (by omega)]; rfl
    go_enter Tryz.func41, Tryz.ntmps41
    go_wp2
    go_ret2
    exact ⟨.inl ⟨unhide HZ, rfl⟩, rfl⟩
end Go.Proofs.YtcmofgehhdfifaaGreatDoor
