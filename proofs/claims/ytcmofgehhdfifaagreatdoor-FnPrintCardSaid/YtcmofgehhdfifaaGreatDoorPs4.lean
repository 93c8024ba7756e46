import Derived.Test.YtcmofgehhdfifaaGreatDoorPs3
namespace Go.Proofs.YtcmofgehhdfifaaGreatDoor
open Go.RowKit
def BcM (e : Ending) (xs : List Int) (i : Nat) : Prop := (brc (xs.drop (i + 1)) = none ∧ e = .returned (.tuple #[.int .i64 0, .int .i64 0, .int .i64 0])) ∨ ∃ (lo hi m : Int) (n : Nat), brc (xs.drop (i + 1)) = some ((lo, hi), xs.drop (i + n)) ∧ 2 ≤ n ∧ i + n ≤ xs.length ∧ lo ≤ 9999 ∧ hi ≤ 9999 ∧ e = .returned (.tuple #[.int .i64 lo, .int .i64 hi, .int .i64 m]) ∧ m = (n : Int)
theorem cell_of {w : World} {b off : Nat} {xs : List Int} {k : Nat} {c : Int} (hcell : ∀ i : Nat, i < xs.length → w.cell? ⟨b, off + i, none⟩ = some (mB (xs[i]?.getD 0))) (hk : k < xs.length) (hc : c = xs[k]?.getD 0) : w.cell? ⟨b, off + k, none⟩ = some (.int .u8 c) := by rw [hcell k hk, ← hc]; rfl
theorem drop_hd {xs : List Int} {k : Nat} {c : Int} (hk : k < xs.length) (hc : c = xs[k]?.getD 0) : xs.drop k = c :: xs.drop (k + 1) := by rw [hc]; exact drop_at hk
theorem byte_in {xs : List Int} {k : Nat} {c : Int} (hb : BytesIn xs) (hk : k < xs.length) (hc : c = xs[k]?.getD 0) : 0 ≤ c ∧ c ≤ 255 := by
  rw [hc]
  exact hb _ (by rw [List.getElem?_eq_getElem hk]; exact List.getElem_mem hk)
set_option maxHeartbeats 8000000 in
set_option maxRecDepth 100000 in
theorem l1braces_any (sv : Value) (xs : List Int) (i : Nat) (w : World) (hv : SlAt mB 0 0 w.heap.size w sv xs) (hb : BytesIn xs) (hl : xs.length ≤ 100000) (hil : i < xs.length) :
    Calls Tryz.prog 37 #[sv, .int .i64 (i : Nat)] w fun e w' => BcM e xs i ∧ w' = w := by
  have Hv := hide hv
  obtain ⟨a, cp, rfl, -, hc⟩ := hv
  obtain ⟨b, off, rfl, -, -, hcell⟩ := hc (by omega)
  have HCELL := hide hcell
  have HB := hide hb
  have HN := hide (l1num_any _ xs (i + 1) w (unhide Hv) hb hl hil)
  rw [show ((i + 1 : Nat) : Int) = (i : Int) + 1 by omega] at HN
  clear hc hb hcell
  go_enter Tryz.func37, Tryz.ntmps37
  go_wp2_with fail
  refine (unhide HN).mono ?_
  rintro e w1 ⟨⟨hn, rfl⟩ | ⟨lo, n, hs, n1, n4, hle, lo0, lo1, rfl⟩, rfl⟩
  · have HX : Hid (brc (xs.drop (i + 1)) = none) := by show brc _ = none; unfold brc; rw [hn]; rfl
    clear hn HN
    go_wp2
    go_ret3
    exact ⟨.inl ⟨unhide HX, rfl⟩, rfl⟩
  · have HX : Hid (brc (xs.drop (i + 1)) = brc2 lo (xs.drop (i + 1 + n))) := by show brc _ = _; unfold brc; rw [hs]; rfl
    have nz : ¬ (n : Int) = 0 := by omega
    clear hs HN
    by_cases hj : i + 1 + n < xs.length
    · obtain ⟨c, hce⟩ : ∃ c, c = xs[i + 1 + n]?.getD 0 := ⟨_, rfl⟩
      have x0 := cell_of (unhide HCELL) hj hce
      obtain ⟨c0, c1⟩ := byte_in (unhide HB) hj hce
      have HD := hide (drop_hd hj hce)
      have hj' : (i : Int) + 1 + (n : Int) < (xs.length : Int) := by omega
      have hj2 : ¬ (xs.length : Int) ≤ (i : Int) + 1 + (n : Int) := by omega
      have hj3 : (0 : Int) ≤ (i : Int) + 1 + (n : Int) := by omega
      clear hce
      by_cases e1 : c = 125
      · have HY : Hid (brc (xs.drop (i + 1)) = some ((lo, lo), xs.drop (i + 1 + n + 1))) := by show brc _ = _; rw [unhide HX, unhide HD, brc2, if_pos e1]
        subst e1
        clear HX HD
        go_wp2
        go_ret3
        exact ⟨.inr ⟨lo, lo, _, 1 + n + 1, by rw [unhide HY]; congr 3; omega, by omega, by omega, by omega, by omega, rfl, by omega⟩, rfl⟩
      by_cases e2 : c = 44
      · have HY : Hid (brc (xs.drop (i + 1)) = brc3 lo (xs.drop (i + 1 + n + 1))) := by show brc _ = _; rw [unhide HX, unhide HD, brc2, if_neg e1, if_pos e2]
        subst e2
        clear HX HD e1
        have hk3 : (0 : Int) ≤ (i : Int) + 1 + (n : Int) + 1 := by omega
        by_cases hk : i + 1 + n + 1 < xs.length
        · obtain ⟨d, hde⟩ : ∃ d, d = xs[i + 1 + n + 1]?.getD 0 := ⟨_, rfl⟩
          have x1 := cell_of (unhide HCELL) hk hde
          obtain ⟨d0, d1⟩ := byte_in (unhide HB) hk hde
          have HD := hide (drop_hd hk hde)
          have hk' : (i : Int) + 1 + (n : Int) + 1 < (xs.length : Int) := by omega
          clear hde
          by_cases e3 : d = 125
          · have HZ : Hid (brc (xs.drop (i + 1)) = some ((lo, -1), xs.drop (i + 1 + n + 1 + 1))) := by show brc _ = _; rw [unhide HY, unhide HD, brc3, if_pos e3]
            subst e3
            clear HY HD
            go_wp2
            go_ret3
            exact ⟨.inr ⟨lo, -1, _, 1 + n + 1 + 1, by rw [unhide HZ]; congr 3; omega, by omega, by omega, by omega, by omega, rfl, by omega⟩, rfl⟩
          · have HZ : Hid (brc (xs.drop (i + 1)) = (num1 (xs.drop (i + 1 + n + 1))).bind fun x => if x.1 < lo then none else match x.2 with
                | d :: r2 => if d = 125 then some ((lo, x.1), r2) else none
                | [] => none) := by
              show brc _ = _
              rw [unhide HY]
              exact brc3_num (fun r e => e3 (by rw [unhide HD] at e; exact (List.cons.inj e).1))
            have HN2 := hide (l1num_any _ xs (i + 1 + n + 1) w1 (unhide Hv) (unhide HB) hl (by omega))
            rw [show ((i + 1 + n + 1 : Nat) : Int) = (i : Int) + 1 + (n : Int) + 1 by omega] at HN2
            clear HY HD
            go_wp2_with fail
            refine (unhide HN2).mono ?_
            rintro e w2 ⟨⟨hn, rfl⟩ | ⟨hi, m, hs, m1, m4, hle2, hi0, hi1, rfl⟩, rfl⟩
            · have HX : Hid (brc (xs.drop (i + 1)) = none) := by show brc _ = none; rw [unhide HZ, hn]; rfl
              clear hn HN2 HZ
              go_wp2
              go_ret3
              exact ⟨.inl ⟨unhide HX, rfl⟩, rfl⟩
            · have mz : (m : Int) ≠ 0 := by omega
              have mz2 : ((m : Int) == 0) = false := by simp; omega
              by_cases hlh : hi < lo
              · have HX : Hid (brc (xs.drop (i + 1)) = none) := by show brc _ = none; rw [unhide HZ, hs, Option.bind_some, if_pos hlh]
                clear hs HN2 HZ
                go_wp2
                go_ret3
                exact ⟨.inl ⟨unhide HX, rfl⟩, rfl⟩
              · have hlh2 : decide (hi < lo) = false := by simp; omega
                have HW : Hid (brc (xs.drop (i + 1)) = match xs.drop (i + 1 + n + 1 + m) with
                    | d :: r2 => if d = 125 then some ((lo, hi), r2) else none
                    | [] => none) := by
                  show brc _ = _
                  rw [unhide HZ, hs, Option.bind_some, if_neg hlh]
                have hq3 : (0 : Int) ≤ (i : Int) + 1 + (n : Int) + 1 + (m : Int) := by omega
                clear hs HN2 HZ
                by_cases hq : i + 1 + n + 1 + m < xs.length
                · obtain ⟨f, hfe⟩ : ∃ f, f = xs[i + 1 + n + 1 + m]?.getD 0 := ⟨_, rfl⟩
                  have x2 := cell_of (unhide HCELL) hq hfe
                  obtain ⟨f0, f1⟩ := byte_in (unhide HB) hq hfe
                  have HD := hide (drop_hd hq hfe)
                  have hq' : (i : Int) + 1 + (n : Int) + 1 + (m : Int) < (xs.length : Int) := by omega
                  have hq2 : ¬ (xs.length : Int) ≤ (i : Int) + 1 + (n : Int) + 1 + (m : Int) := by omega
                  clear hfe
                  by_cases e4 : f = 125
                  · have HF : Hid (brc (xs.drop (i + 1)) = some ((lo, hi), xs.drop (i + 1 + n + 1 + m + 1))) := by show brc _ = _; rw [unhide HW, unhide HD]; simp only; rw [if_pos e4]
                    subst e4
                    clear HW HD
                    go_wp2
                    all_goals go_ret3
                    all_goals exact ⟨.inr ⟨lo, hi, _, 1 + n + 1 + m + 1, by rw [unhide HF]; congr 3; omega, by omega, by omega, by omega, by omega, rfl, by omega⟩, rfl⟩
                  · have HF : Hid (brc (xs.drop (i + 1)) = none) := by show brc _ = _; rw [unhide HW, unhide HD]; simp only; rw [if_neg e4]
                    have e5 : (f != 125) = true := by simp [e4]
                    clear HW HD
                    go_wp2
                    go_ret3
                    exact ⟨.inl ⟨unhide HF, rfl⟩, rfl⟩
                · have hq2 : (xs.length : Int) ≤ (i : Int) + 1 + (n : Int) + 1 + (m : Int) := by omega
                  have HF : Hid (brc (xs.drop (i + 1)) = none) := by show brc _ = _; rw [unhide HW, List.drop_eq_nil_of_le (by omega)]
                  clear HW
                  go_wp2
                  go_ret3
                  exact ⟨.inl ⟨unhide HF, rfl⟩, rfl⟩
        · have hk' : ¬ (i : Int) + 1 + (n : Int) + 1 < (xs.length : Int) := by omega
          have hk5 : decide ((i : Int) + 1 + (n : Int) + 1 < (xs.length : Int)) = false := by simp; omega
          clear hk
          have HN2 := hide (l1num_any _ xs (i + 1 + n + 1) w1 (unhide Hv) (unhide HB) hl (by omega))
          rw [show ((i + 1 + n + 1 : Nat) : Int) = (i : Int) + 1 + (n : Int) + 1 by omega] at HN2
          have HZ : Hid (brc (xs.drop (i + 1)) = none) := by show brc _ = none; rw [unhide HY, List.drop_eq_nil_of_le (by omega)]; rfl
          clear HY
          go_wp2_with fail
          refine (unhide HN2).mono ?_
          rintro e w2 ⟨⟨hn, rfl⟩ | ⟨hi, m, hs, m1, m4, hle2, -⟩, rfl⟩
          · clear hn HN2
            go_wp2
            go_ret3
            exact ⟨.inl ⟨unhide HZ, rfl⟩, rfl⟩
          · omega
      · have HY : Hid (brc (xs.drop (i + 1)) = none) := by show brc _ = _; rw [unhide HX, unhide HD, brc2, if_neg e1, if_neg e2]
        have e3 : (c != 44) = true := by simp [e2]
        clear HX HD
        go_wp2
        go_ret3
        exact ⟨.inl ⟨unhide HY, rfl⟩, rfl⟩
    · have hj' : ¬ (i : Int) + 1 + (n : Int) < (xs.length : Int) := by omega
      have hj2 : (xs.length : Int) ≤ (i : Int) + 1 + (n : Int) := by omega
      have HY : Hid (brc (xs.drop (i + 1)) = none) := by show brc _ = none; rw [unhide HX, List.drop_eq_nil_of_le (by omega)]; rfl
      clear HX
      go_wp2
      go_ret3
      exact ⟨.inl ⟨unhide HY, rfl⟩, rfl⟩
end Go.Proofs.YtcmofgehhdfifaaGreatDoor
