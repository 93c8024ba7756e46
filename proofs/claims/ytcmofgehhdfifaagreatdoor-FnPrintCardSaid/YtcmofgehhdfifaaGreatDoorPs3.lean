import Derived.Test.YtcmofgehhdfifaaGreatDoorPs2
namespace Go.Proofs.YtcmofgehhdfifaaGreatDoor
open Go.RowKit
def NuM (e : Ending) (xs : List Int) (i : Nat) : Prop := (num1 (xs.drop i) = none ∧ e = .returned (.tuple #[.int .i64 0, .int .i64 0])) ∨ ∃ (v : Int) (n : Nat), num1 (xs.drop i) = some (v, xs.drop (i + n)) ∧ 1 ≤ n ∧ n ≤ 4 ∧ i + n ≤ xs.length ∧ 0 ≤ v ∧ v ≤ 9999 ∧ e = .returned (.tuple #[.int .i64 v, .int .i64 (n : Nat)])
theorem pk_out {xs : List Int} {i : Nat} (h : ¬ i < xs.length) : isD (pkB xs i) = false := by unfold pkB; rw [List.getElem?_eq_none (by omega)]; decide
theorem pk_in {xs : List Int} {i : Nat} (h : i < xs.length) : pkB xs i = xs[i]?.getD 0 := by unfold pkB; rw [List.getElem?_eq_getElem h]; rfl
set_option maxHeartbeats 4000000 in
set_option maxRecDepth 100000 in
theorem l1num_any (sv : Value) (xs : List Int) (i : Nat) (w : World) (hv : SlAt mB 0 0 w.heap.size w sv xs) (hb : BytesIn xs) (hl : xs.length ≤ 100000) (hil : i ≤ xs.length) :
    Calls Tryz.prog 64 #[sv, .int .i64 (i : Nat)] w fun e w' => NuM e xs i ∧ w' = w := by
  obtain ⟨a, cp, rfl, -, hc⟩ := hv
  have HC := hide hc
  have HB := hide hb
  clear hc hb
  go_enter Tryz.func64, Tryz.ntmps64
  go_wp2_with fail
  go_loop [6, 7] (fun vv nv => ∃ (k : Nat) (v : Int), nv = .int .i64 (k : Nat) ∧ vv = .int .i64 v ∧ v = numV ((xs.drop i).take k) ∧ 0 ≤ v ∧ v < (10 : Int) ^ k ∧ DgI xs i k) (fun _ nv => 5 - (intOf nv).toNat)
  case atStart => exact ⟨0, 0, rfl, rfl, by simp [numV], by omega, by simp, ⟨by omega, by omega, fun i hi => by omega⟩⟩
  case round =>
    obtain ⟨k, v, rfl, rfl, hv, hv0, hv1, hD⟩ := hrel
    obtain ⟨hk4, hkl, hdd⟩ := hD
    have HV := hide hv
    have HV1 := hide hv1
    have HD : Hid (DgI xs i k) := ⟨hk4, hkl, hdd⟩
    clear hv hv1 hdd
    by_cases hlt : i + k < xs.length
    · obtain ⟨b, off, rfl, -, -, hcell⟩ := unhide HC (by omega)
      obtain ⟨c, hce⟩ : ∃ c, c = xs[i + k]?.getD 0 := ⟨_, rfl⟩
      have x0 : w.cell? ⟨b, off + (i + k), none⟩ = some (.int .u8 c) := by rw [hcell (i + k) hlt, ← hce]; rfl
      have hpk : pkB xs (i + k) = c := by rw [hce]; exact pk_in hlt
      obtain ⟨c0, c1⟩ := unhide HB c (by rw [hce, List.getElem?_eq_getElem hlt]; exact List.getElem_mem hlt)
      have h1' : (i : Int) + (k : Int) < (xs.length : Int) := by omega
      have h2' : (0 : Int) ≤ (i : Int) + (k : Int) := by omega
      by_cases hd : 48 ≤ c ∧ c ≤ 57
      · have hisd : isD (pkB xs (i + k)) = true := by rw [hpk]; simp [isD, hd]
        by_cases hk : k < 4
        · obtain ⟨hD2, -⟩ := (unhide HD).next hk hisd
          have hvb : v ≤ 999 := by have := pow_le4 hk; have := unhide HV1; omega
          have HVN : Hid (v * 10 + (c - 48) = numV ((xs.drop i).take (k + 1))) := by
            show v * 10 + (c - 48) = _
            rw [drop_take hlt, numV_snoc, ← unhide HV, ← hce]
          have HVB : Hid (v * 10 + (c - 48) < (10 : Int) ^ (k + 1)) := by
            show _ < _
            have := unhide HV1
            rw [Int.pow_succ]
            omega
          have HD2 := hide hD2
          obtain ⟨d0, d1⟩ := hd
          have k1 : ¬ (4 : Int) < (k : Int) + 1 := by omega
          have hwu : IntKind.u8.wrap (c - 48) = c - 48 := by rw [IntKind.wrap_u8]; omega
          have hix : (i : Int) + ((k : Int) + 1) - 1 = (i : Int) + (k : Int) := by omega
          clear hD2 hce hcell hpk hisd HC HB
          go_wp2
          go_round
          case rel => exact ⟨k + 1, v * 10 + (c - 48), by go_num, rfl, unhide HVN, by omega, unhide HVB, unhide HD2⟩
          case measure => simp [intOf]; omega
        · obtain rfl : k = 4 := by omega
          have HX := hide ((num1_of (unhide HD) (fun h => absurd h (by omega))).2.2 hisd)
          obtain ⟨d0, d1⟩ := hd
          clear hce hcell hpk hisd HC HB hk
          go_wp2
          go_ret2
          exact ⟨.inl ⟨unhide HX, rfl⟩, rfl⟩
      · have hisd : isD (pkB xs (i + k)) = false := by rw [hpk]; simp [isD]; omega
        obtain ⟨n1, n2, -⟩ := num1_of (unhide HD) (fun _ => hisd)
        have HE : Hid (NuM (.returned (.tuple #[.int .i64 v, .int .i64 (k : Nat)])) xs i) := by
          show NuM _ _ _
          by_cases k0 : k = 0
          · subst k0
            have hv00 : v = 0 := by have := unhide HV; simpa [numV] using this
            exact .inl ⟨n1 rfl, by rw [hv00]; rfl⟩
          · refine .inr ⟨v, k, by rw [unhide HV]; exact n2 (by omega) hisd, by omega, hk4, hkl, hv0, ?_, rfl⟩
            have h9 := unhide HV1
            match k, hk4, h9 with
            | 0, _, h9 => omega
            | 1, _, h9 => omega
            | 2, _, h9 => omega
            | 3, _, h9 => omega
            | 4, _, h9 => omega
        have hcs : ¬ 48 ≤ c ∨ (48 ≤ c ∧ ¬ c ≤ 57) := by omega
        clear hd hce hcell hpk hisd HC HB n1 n2
        rcases hcs with a | ⟨a, d⟩
        · go_wp2
          go_ret2
          exact ⟨unhide HE, rfl⟩
        · go_wp2
          go_ret2
          exact ⟨unhide HE, rfl⟩
    · have hisd := pk_out hlt
      obtain ⟨n1, n2, -⟩ := num1_of (unhide HD) (fun _ => hisd)
      have HE : Hid (NuM (.returned (.tuple #[.int .i64 v, .int .i64 (k : Nat)])) xs i) := by
        show NuM _ _ _
        by_cases k0 : k = 0
        · subst k0
          have hv00 : v = 0 := by have := unhide HV; simpa [numV] using this
          exact .inl ⟨n1 rfl, by rw [hv00]; rfl⟩
        · refine .inr ⟨v, k, by rw [unhide HV]; exact n2 (by omega) hisd, by omega, hk4, hkl, hv0, ?_, rfl⟩
          have h9 := unhide HV1
          match k, hk4, h9 with
          | 0, _, h9 => omega
          | 1, _, h9 => omega
          | 2, _, h9 => omega
          | 3, _, h9 => omega
          | 4, _, h9 => omega
      have h1' : ¬ (i : Int) + (k : Int) < (xs.length : Int) := by omega
      clear hisd n1 n2 HC HB
      go_wp2
      go_ret2
      exact ⟨unhide HE, rfl⟩
set_option maxHeartbeats 1000000 in
theorem l1dot_w (w : World) : Calls Tryz.prog 38 #[] w fun e w' => ∃ v, e = .returned v ∧ SlAt mI 0 w.heap.size w'.heap.size w' v [0, 9, 11, 255] ∧ Below w.heap.size w w' := by
  have HL := hide (slat_lit w 3 [0, 9, 11, 255] 4 rfl (by simp))
  go_enter Tryz.func38, Tryz.ntmps38
  go_wp2
  go_ret
  exact ⟨_, rfl, unhide HL, below1 w _⟩
set_option maxHeartbeats 1000000 in
theorem l1one_w (x : Int) (w : World) : Calls Tryz.prog 16 #[.int .i64 x] w fun e w' => ∃ v, e = .returned v ∧ SlAt mI 0 w.heap.size w'.heap.size w' v [x, x] ∧ Below w.heap.size w w' := by
  have HL := hide (slat_lit w 3 [x, x] 2 rfl (by simp))
  go_enter Tryz.func16, Tryz.ntmps16
  go_wp2
  go_ret
  exact ⟨_, rfl, unhide HL, below1 w _⟩
end Go.Proofs.YtcmofgehhdfifaaGreatDoor
