import Derived.Test.YtinhliecfjlocaaGreatPk20
import Derived.Test.YtinhliecfjlocaaGreatPk18
namespace Go.Proofs.YtinhliecfjlocaaGreat
open Go.RowKit
set_option maxHeartbeats 16000000 in
set_option maxRecDepth 100000 in
theorem l1drawSet_E (N D lo : Nat) (xs : List Int) (w : World) (h : CdAt N D w xs) (hx : Cod xs) (hD : D < lo) (hlo : lo ≤ w.heap.size) (hk : 21 ≤ xs.headD 0 % 24) :
    Calls Tryz.prog 95 #[.pointer (some ⟨D, 0, none⟩)] w (DrS N D lo w (dSet xs)) := by
  have hmk := run_make_row' (P := Tryz.prog) 79 4 (.bool false) 1 Tryz.underlying79 Tryz.zinBool rfl .i64 .i64 256 (by omega) (by omega)
  rw [show ((256 : Nat) : Int) = 256 from rfl] at hmk
  have H := hide h
  have HX := hide hx
  have hh := hx.head
  have hh2 := hx.tail.head
  obtain ⟨y, hy⟩ : ∃ y, xs.headD 0 = y := ⟨_, rfl⟩
  obtain ⟨y2, hy2⟩ : ∃ y, xs.tail.headD 0 = y := ⟨_, rfl⟩
  obtain ⟨n, hn⟩ : ∃ n : Nat, (1 + y2 % 4).toNat = n := ⟨_, rfl⟩
  obtain ⟨R, hR⟩ : ∃ R, dMk n (fun _ => false) xs.tail.tail = R := ⟨_, rfl⟩
  rw [hy] at hh hk
  rw [hy2] at hh2
  have HR : Hid (dSet xs = (cnn (if y % 24 = 23 then fun b => !R.1 b else R.1), R.2)) := by
    show dSet xs = _
    unfold dSet
    rw [hy, hy2, if_neg (by omega), if_neg (by omega), if_neg (by omega), if_neg (by omega), if_neg (by omega), if_neg (by omega), hn, hR]
  rw [unhide HR]
  obtain ⟨Q, hQ⟩ : ∃ Q, Q = cnn (if y % 24 = 23 then fun b => !R.1 b else R.1) := ⟨_, rfl⟩
  rw [← hQ]
  have HQ := hide hQ
  have HY := hide hy
  have HY2 := hide hy2
  have HRR := hide hR
  have hn4 : 1 + y2 % 4 = (n : Int) := by omega
  have n0 : ¬ y % 24 < 16 := by omega
  have n16 : ¬ y % 24 = 16 := by omega
  have n17 : ¬ y % 24 = 17 := by omega
  have n18 : ¬ y % 24 = 18 := by omega
  have n19 : ¬ y % 24 = 19 := by omega
  have n20 : ¬ y % 24 = 20 := by omega
  clear hy hx h HR hy2 hR hn hQ
  go_enter Tryz.func95, Tryz.ntmps95
  go_wp2_with fail
  refine (next_any N D xs w (unhide H) (unhide HX)).mono ?_
  rintro e w1 ⟨he, hc1, ho1⟩
  rw [unhide HY] at he
  subst he
  have hz1 : w1.heap.size = w.heap.size := ho1.size
  have HM0 := hide (mark_made w1)
  have HB0 := hide (below1 w1 (.cells (madeCells #[.bool false] 256) 4))
  have HC0 := hide (hc1.keep (unhide HB0) (by omega))
  have HO1 := hide ((ho1.mv w.heap.size).trans (bmv (unhide HB0) D (by omega)))
  have hz0 : w1.heap.size < (w1.alloc (.cells (madeCells #[.bool false] 256) 4)).heap.size := by rw [sz_alloc]; omega
  clear hc1 ho1
  go_wp2_with fail
  rw [hz1] at *
  generalize w1.alloc (.cells (madeCells #[.bool false] 256) 4) = W1 at *
  refine (next_any N D xs.tail W1 (unhide HC0) (unhide HX).tail).mono ?_
  rintro e w2 ⟨he, hc2, ho2⟩
  rw [unhide HY2] at he
  subst he
  have hz2 : w2.heap.size = W1.heap.size := ho2.size
  have HM2 : Hid (MkAt w2 w.heap.size (fun _ => false)) := World.rowIs.of_block (unhide HM0) (ho2.block _ (by omega))
  have HC2 := hide hc2
  have HV2 := hide ((unhide HO1).trans (ho2.mv w.heap.size))
  clear hc2 ho2 HM0 HB0 HC0 HO1 hmk
  go_wp2_with fail
  go_loopw [8] (fun iv wr => ∃ (m : Nat) (p : Nat → Bool) (zs : List Int), m ≤ n ∧ iv = .int .i64 (m : Nat) ∧ Cod zs ∧ dMk (n - m) p zs = R ∧ MkAt wr w.heap.size p ∧ CdAt N D wr zs ∧ Mv w.heap.size D w wr ∧ w.heap.size < wr.heap.size) (fun iv _ => n - (intOf iv).toNat)
  case atStart => exact ⟨0, fun _ => false, xs.tail.tail, Nat.zero_le _, rfl, (unhide HX).tail.tail, unhide HRR, unhide HM2, unhide HC2, unhide HV2, by omega⟩
  case round =>
    obtain ⟨m, p, zs, hm, rfl, hzs, heq, hMp, hcd, hmv, hsz⟩ := hrel
    obtain ⟨w3, rfl⟩ : ∃ w3, w3 = wr := ⟨_, rfl⟩
    have HMP := hide hMp
    have HCD := hide hcd
    have HMV := hide hmv
    have HZ := hide hzs
    by_cases hlt : m < n
    · have hlt' : (m : Int) < 1 + y2 % 4 := by omega
      obtain ⟨z1, hz1'⟩ : ∃ z, zs.headD 0 = z := ⟨_, rfl⟩
      obtain ⟨z2, hz2'⟩ : ∃ z, zs.tail.headD 0 = z := ⟨_, rfl⟩
      have HZ1 := hide hz1'
      have HZ2 := hide hz2'
      have hzb2 := hzs.tail.head
      rw [hz2'] at hzb2
      have hzb1 := dB_byte (y := z1)
      obtain ⟨l, hl⟩ : ∃ l : Nat, dB z1 = (l : Int) := ⟨(dB z1).toNat, by omega⟩
      have HE2 : Hid (dMk (n - (m + 1)) (mkR p (dB z1) (dB z1 + dW z2) 256) zs.tail.tail = R) := by
        show dMk _ _ _ = _
        rw [show n - m = n - (m + 1) + 1 by omega, dMk, hz1', hz2'] at heq
        exact heq
      have HL := hide hl
      rw [hl] at hzb1
      clear hMp hcd hmv heq hz1' hz2' hzs
      go_wp2_with fail
      refine (l1drawByte_any N D zs w3 (unhide HCD) (unhide HZ)).mono ?_
      rintro e w5 ⟨he, hc5, ho5⟩
      rw [unhide HZ1, unhide HL] at he
      subst he
      go_wp2_with fail
      refine (next_any N D zs.tail w5 hc5 (unhide HZ).tail).mono ?_
      rintro e w4 ⟨he, hc4, ho4⟩
      rw [unhide HZ2] at he
      subst he
      have hz5 : w5.heap.size = w3.heap.size := ho5.size
      have hz4 : w4.heap.size = w5.heap.size := ho4.size
      have HM4 : Hid (MkAt w4 w.heap.size p) := World.rowIs.of_block (unhide HMP) ((ho4.block _ (by omega)).trans (ho5.block _ (by omega)))
      have HC4 := hide hc4
      have HM4v := hide ((unhide HMV).trans ((ho5.mv _).trans (ho4.mv _)))
      clear hc5 ho5 hc4 ho4 HMP HCD HMV
      by_cases hw3 : 0 < z2 % 3
      · have HDW : Hid (dW z2 = 0) := if_pos hw3
        have HL5 : Hid (MkAt w4 w.heap.size (fun b => p b || decide ((l : Int) ≤ (b : Int) ∧ b < l))) := (unhide HM4).eq (fun b _ => by simp; omega)
        go_wp2_with fail
        go_loopw [11] (fun bv wq => ∃ k : Nat, bv = .int .i64 (k : Nat) ∧ l ≤ k ∧ (k : Int) ≤ (l : Int) + 0 + 1 ∧ k ≤ 256 ∧ MkAt wq w.heap.size (fun b => p b || decide ((l : Int) ≤ (b : Int) ∧ b < k)) ∧ Below w.heap.size w4 wq) (fun bv _ => 256 - (intOf bv).toNat)
        case atStart => exact ⟨l, by go_num, Nat.le_refl _, by omega, by omega, unhide HL5, Below.refl _ _⟩
        case round =>
          obtain ⟨k, rfl, hk1, hk2, hk3, hMk, hBk⟩ := hrel
          obtain ⟨w6, rfl⟩ : ∃ w6, w6 = wr := ⟨_, rfl⟩
          have HMK := hide hMk
          have HBK := hide hBk
          have y1 := World.rowIs.frozen hMk k
          by_cases c1 : (k : Int) ≤ (l : Int) + 0
          · by_cases c2 : (k : Int) < 256
            · have y0 : w6.cell? ⟨w.heap.size, k, none⟩ = some (.bool (p k || decide ((l : Int) ≤ (k : Int) ∧ k < k))) := World.rowIs.cell hMk (i := k) (by omega)
              have HM8 := hide ((unhide HMK).put k true)
              have HB8 := hide (bput (unhide HBK) (Nat.le_refl _) (o := k) (.bool true))
              clear hMk hBk
              go_wp2
              go_roundw
              case rel => exact ⟨k + 1, by go_num, by omega, by omega, by omega, (unhide HM8).eq (fun b _ => by
                by_cases e : b = k
                · subst e; rw [if_pos rfl]; simp <;> omega
                · have e2 : (b < k + 1) ↔ b < k := by omega
                  rw [if_neg e]; simp only [e2]), unhide HB8⟩
              case measure => simp [intOf]; omega
            · omega
          · have HN : Hid (MkAt w6 w.heap.size (mkR p (dB z1) (dB z1 + dW z2) 256)) := (unhide HMK).eq (fun b hb => by
              unfold mkR
              rw [unhide HDW, unhide HL]
              congr 1
              rw [Bool.eq_iff_iff]
              simp
              omega)
            clear hMk HMK y1
            go_wp2
            go_roundw
            case rel => exact ⟨m + 1, _, zs.tail.tail, by omega, by go_num, (unhide HZ).tail.tail, unhide HE2, unhide HN, (unhide HC4).keep (unhide HBK) (by omega), (unhide HM4v).trans (bmv (unhide HBK) D (by omega)), by have := (unhide HBK).size; omega⟩
            case measure => simp [intOf]; omega
      · have HDW : Hid (dW z2 = z2 % 12) := if_neg hw3
        have hwb : 0 ≤ z2 % 12 ∧ z2 % 12 ≤ 11 := by omega
        have HL5 : Hid (MkAt w4 w.heap.size (fun b => p b || decide ((l : Int) ≤ (b : Int) ∧ b < l))) := (unhide HM4).eq (fun b _ => by simp; omega)
        go_wp2_with fail
        go_loopw [11] (fun bv wq => ∃ k : Nat, bv = .int .i64 (k : Nat) ∧ l ≤ k ∧ (k : Int) ≤ (l : Int) + z2 % 12 + 1 ∧ k ≤ 256 ∧ MkAt wq w.heap.size (fun b => p b || decide ((l : Int) ≤ (b : Int) ∧ b < k)) ∧ Below w.heap.size w4 wq) (fun bv _ => 256 - (intOf bv).toNat)
        case atStart => exact ⟨l, by go_num, Nat.le_refl _, by omega, by omega, unhide HL5, Below.refl _ _⟩
        case round =>
          obtain ⟨k, rfl, hk1, hk2, hk3, hMk, hBk⟩ := hrel
          obtain ⟨w6, rfl⟩ : ∃ w6, w6 = wr := ⟨_, rfl⟩
          have HMK := hide hMk
          have HBK := hide hBk
          have y1 := World.rowIs.frozen hMk k
          by_cases c1 : (k : Int) ≤ (l : Int) + z2 % 12
          · by_cases c2 : (k : Int) < 256
            · have y0 : w6.cell? ⟨w.heap.size, k, none⟩ = some (.bool (p k || decide ((l : Int) ≤ (k : Int) ∧ k < k))) := World.rowIs.cell hMk (i := k) (by omega)
              have HM8 := hide ((unhide HMK).put k true)
              have HB8 := hide (bput (unhide HBK) (Nat.le_refl _) (o := k) (.bool true))
              clear hMk hBk
              go_wp2
              go_roundw
              case rel => exact ⟨k + 1, by go_num, by omega, by omega, by omega, (unhide HM8).eq (fun b _ => by
                by_cases e : b = k
                · subst e; rw [if_pos rfl]; simp <;> omega
                · have e2 : (b < k + 1) ↔ b < k := by omega
                  rw [if_neg e]; simp only [e2]), unhide HB8⟩
              case measure => simp [intOf]; omega
            · have HN : Hid (MkAt w6 w.heap.size (mkR p (dB z1) (dB z1 + dW z2) 256)) := (unhide HMK).eq (fun b hb => by
                unfold mkR
                rw [unhide HDW, unhide HL]
                congr 1
                rw [Bool.eq_iff_iff]
                simp
                omega)
              clear hMk HMK y1
              go_wp2
              go_roundw
              case rel => exact ⟨m + 1, _, zs.tail.tail, by omega, by go_num, (unhide HZ).tail.tail, unhide HE2, unhide HN, (unhide HC4).keep (unhide HBK) (by omega), (unhide HM4v).trans (bmv (unhide HBK) D (by omega)), by have := (unhide HBK).size; omega⟩
              case measure => simp [intOf]; omega
          · have HN : Hid (MkAt w6 w.heap.size (mkR p (dB z1) (dB z1 + dW z2) 256)) := (unhide HMK).eq (fun b hb => by
              unfold mkR
              rw [unhide HDW, unhide HL]
              congr 1
              rw [Bool.eq_iff_iff]
              simp
              omega)
            clear hMk HMK y1
            go_wp2
            go_roundw
            case rel => exact ⟨m + 1, _, zs.tail.tail, by omega, by go_num, (unhide HZ).tail.tail, unhide HE2, unhide HN, (unhide HC4).keep (unhide HBK) (by omega), (unhide HM4v).trans (bmv (unhide HBK) D (by omega)), by have := (unhide HBK).size; omega⟩
            case measure => simp [intOf]; omega
    · have hlt' : ¬ (m : Int) < 1 + y2 % 4 := by omega
      rw [show n - m = 0 by omega] at heq
      have e1 : R = (p, zs) := heq.symm
      subst e1
      have hz3 := hmv.size
      clear hMp hcd hmv heq hzs
      by_cases h23 : y % 24 = 23
      · have HQ2 : Hid (Q = cnn (fun b => !p b)) := by show Q = _; rw [unhide HQ, if_pos h23]
        have HM0 := hide ((unhide HMP).eq (p' := fun b => if b < 0 then !p b else p b) (fun b _ => by rw [if_neg (by omega)]))
        go_wp2_with fail
        go_loopw [12] (fun bv wq => ∃ k : Nat, bv = .int .i64 (k : Nat) ∧ k ≤ 256 ∧ MkAt wq w.heap.size (fun b => if b < k then !p b else p b) ∧ Below w.heap.size w3 wq) (fun bv _ => 256 - (intOf bv).toNat)
        case atStart => exact ⟨0, rfl, by omega, unhide HM0, Below.refl _ _⟩
        case round =>
          obtain ⟨k, rfl, hk2, hMk, hBk⟩ := hrel
          obtain ⟨w7, rfl⟩ : ∃ w7, w7 = wr := ⟨_, rfl⟩
          have HMK := hide hMk
          have HBK := hide hBk
          by_cases hkl : k < 256
          · have hkl' : (k : Int) < 256 := by omega
            have y0 : w7.cell? ⟨w.heap.size, k, none⟩ = some (.bool (p k)) := by rw [World.rowIs.cell hMk (i := k) hkl]; simp
            have y1 := World.rowIs.frozen hMk k
            have HM8 := hide ((unhide HMK).put k (!p k))
            have HB8 := hide (bput (unhide HBK) (Nat.le_refl _) (o := k) (.bool (!p k)))
            clear hMk hBk
            go_wp2
            go_roundw
            case rel => exact ⟨k + 1, by go_num, by omega, (unhide HM8).eq (fun b _ => by
              by_cases e : b = k
              · subst e; rw [if_pos rfl, if_pos (by omega)]
              · have e2 : (b < k + 1) ↔ b < k := by omega
                rw [if_neg e]; simp only [e2]), unhide HB8⟩
            case measure => simp [intOf]; omega
          · obtain rfl : k = 256 := by omega
            have HMF : Hid (MkAt w7 w.heap.size (fun b => !p b)) := (unhide HMK).eq (fun b hb => by rw [if_pos hb])
            have HCF := hide ((unhide HCD).keep (unhide HBK) (by omega))
            have HVF := hide ((unhide HMV).trans (bmv (unhide HBK) D (by omega)))
            have hz7 := (unhide HBK).size
            clear hMk hBk HMK
            have HRG := hide (l1ranges_any w.heap.size (fun b => !p b) w7 (unhide HMF))
            go_wp2_with fail
            refine (unhide HRG).mono ?_
            rintro e w8 ⟨v8, rfl, hown8, hb8⟩
            obtain ⟨o8, d8, rfl⟩ := own_is hown8
            have hl8 := (cnn_setL (fun b => !p b)).1
            have HF := hide ((own_slw hown8 (lo := lo) (by omega) (by unfold maxLen; omega)).ints (cnn_setL _).in64)
            clear hown8 HRG
            go_wp2
            go_ret
            refine ⟨⟨_, rfl, ?_⟩, (unhide HCF).keep hb8 (by omega), (unhide HVF).trans (bmv hb8 D (by omega))⟩
            show IntsAt lo _ _ _ Q
            rw [unhide HQ2]
            exact unhide HF
      · have HQ2 : Hid (Q = cnn p) := by show Q = _; rw [unhide HQ, if_neg h23]
        have HMF := hide (unhide HMP)
        have HCF := hide (unhide HCD)
        have HVF := hide (unhide HMV)
        have HRG := hide (l1ranges_any w.heap.size p w3 (unhide HMF))
        go_wp2_with fail
        refine (unhide HRG).mono ?_
        rintro e w8 ⟨v8, rfl, hown8, hb8⟩
        obtain ⟨o8, d8, rfl⟩ := own_is hown8
        have hl8 := (cnn_setL p).1
        have HF := hide ((own_slw hown8 (lo := lo) (by omega) (by unfold maxLen; omega)).ints (cnn_setL _).in64)
        clear hown8 HRG
        go_wp2
        go_ret
        refine ⟨⟨_, rfl, ?_⟩, (unhide HCF).keep hb8 (by omega), (unhide HVF).trans (bmv hb8 D (by omega))⟩
        show IntsAt lo _ _ _ Q
        rw [unhide HQ2]
        exact unhide HF
theorem l1drawSet_any (N D lo : Nat) (xs : List Int) (w : World) (h : CdAt N D w xs) (hx : Cod xs) (hD : D < lo) (hlo : lo ≤ w.heap.size) : Calls Tryz.prog 95 #[.pointer (some ⟨D, 0, none⟩)] w (DrS N D lo w (dSet xs)) := by
  have hh := hx.head
  by_cases h1 : xs.headD 0 % 24 < 16
  · exact l1drawSet_A N D lo xs w h hx hD hlo h1
  by_cases h2 : xs.headD 0 % 24 = 16
  · exact l1drawSet_B16 N D lo xs w h hx hD hlo h2
  by_cases h3 : xs.headD 0 % 24 = 17
  · exact l1drawSet_B17 N D lo xs w h hx hD hlo h3
  by_cases h4 : xs.headD 0 % 24 = 18
  · exact l1drawSet_B18 N D lo xs w h hx hD hlo h4
  by_cases h5 : xs.headD 0 % 24 = 19
  · exact l1drawSet_B19 N D lo xs w h hx hD hlo h5
  by_cases h6 : xs.headD 0 % 24 = 20
  · by_cases g0 : xs.tail.headD 0 % 3 = 0
    · exact l1drawSet_C0 N D lo xs w h hx hD hlo h6 g0
    by_cases g1 : xs.tail.headD 0 % 3 = 1
    · exact l1drawSet_C1 N D lo xs w h hx hD hlo h6 g1
    · exact l1drawSet_C2 N D lo xs w h hx hD hlo h6 (by omega)
  · exact l1drawSet_E N D lo xs w h hx hD hlo (by omega)
set_option maxHeartbeats 2000000 in
set_option maxRecDepth 100000 in
theorem left_any (N D : Nat) (xs : List Int) (w : World) (h : CdAt N D w xs) :
    Calls Tryz.prog 67 #[.pointer (some ⟨D, 0, none⟩)] w fun e w' => e = .returned (.int .i64 (xs.length : Nat)) ∧ CdAt N D w' xs ∧ Only D w w' := by
  obtain ⟨hN, v, cs, i, hr, hs, hi, hl, rfl⟩ := h
  have HR := hide hr
  have HS := hide hs
  obtain ⟨f0, f1, z1⟩ := hr.facts
  obtain ⟨a, c, rfl, -, -⟩ := hs
  have e1 : ((cs.drop i).length : Int) = (cs.length : Int) - (i : Int) := by rw [List.length_drop]; omega
  rw [e1]
  have H2 : Hid (∀ q, CdAt N D (w.drewN q) (cs.drop i)) := fun q => ⟨hN, .slice a cs.length c, cs, i, unhide HR, unhide HS, hi, hl, rfl⟩
  clear hr
  go_enter Tryz.func67, Tryz.ntmps67
  go_wp2_with fail
  go_quiet (fail)
  go_wp2
  go_ret
  exact ⟨rfl, unhide H2 _, only_drewN (Only.refl _ _) _⟩
set_option maxHeartbeats 8000000 in
set_option maxRecDepth 100000 in
theorem l1drawWord_any (N D lo : Nat) (xs : List Int) (w : World) (h : CdAt N D w xs) (hx : Cod xs) (hD : D < lo) (hlo : lo ≤ w.heap.size) :
    Calls Tryz.prog 96 #[.pointer (some ⟨D, 0, none⟩)] w (DrE N D lo w (dWord xs)) := by
  have H := hide h
  have HX := hide hx
  have hh := hx.head
  obtain ⟨y, hy⟩ : ∃ y, xs.headD 0 = y := ⟨_, rfl⟩
  obtain ⟨y2, hy2⟩ : ∃ y, xs.tail.headD 0 = y := ⟨_, rfl⟩
  obtain ⟨n, hn⟩ : ∃ n : Nat, (1 + y % 4).toNat = n := ⟨_, rfl⟩
  obtain ⟨R, hR⟩ : ∃ R, dWd n (sE [dB y2, dB y2]) xs.tail.tail = R := ⟨_, rfl⟩
  rw [hy] at hh
  have HR : Hid (dWord xs = R) := by
    show dWord xs = _
    unfold dWord
    rw [hy, hy2, hn, hR]
  rw [unhide HR]
  have HY := hide hy
  have HY2 := hide hy2
  have HRR := hide hR
  have hn4 : 2 + y % 4 = (n : Int) + 1 := by omega
  have hn5 : n ≤ 4 := by omega
  have hb := dB_byte (y := y2)
  clear hy hx h HR hy2 hR hn
  go_enter Tryz.func96, Tryz.ntmps96
  go_wp2_with fail
  refine (next_any N D xs w (unhide H) (unhide HX)).mono ?_
  rintro e w1 ⟨he, hc1, ho1⟩
  rw [unhide HY] at he
  subst he
  go_wp2_with fail
  refine (l1drawByte_any N D xs.tail w1 hc1 (unhide HX).tail).mono ?_
  rintro e w2 ⟨he, hc2, ho2⟩
  rw [unhide HY2] at he
  subst he
  have hz1 : w1.heap.size = w.heap.size := ho1.size
  have hz2 : w2.heap.size = w1.heap.size := ho2.size
  have HC2 := hide hc2
  have HV2 := hide ((ho1.mv w.heap.size).trans (ho2.mv w.heap.size))
  clear hc1 ho1 hc2 ho2
  go_wp2_with fail
  refine (l1one_any (dB y2) w2 (in64_b hb.1 hb.2)).mono ?_
  rintro e w3 ⟨v3, rfl, hv3, hb3⟩
  have H3 := hide (hv3.mono (lo' := lo) (by omega) (Nat.le_refl _))
  obtain ⟨a3, c3, rfl, -⟩ := hv3
  have hz3 := hb3.size
  go_wp2_with fail
  refine (l1set_any lo _ _ w3 (unhide H3) (by omega) (by simp)).mono ?_
  rintro e w4 ⟨v4, rfl, hv4, hb4⟩
  have H4 := hide hv4
  obtain ⟨a4, c4, rfl, -⟩ := hv4
  have hz4 := hb4.size
  have HB4 := hide (hb3.trans (hb4.mono hz3))
  clear hb3 hb4
  go_wp2_with fail
  go_loopw [5, 6] (fun tv iv wr => ∃ (m : Nat) (t : List El) (zs : List Int), m ≤ n ∧ iv = .int .i64 ((m : Int) + 1) ∧ Cod zs ∧ dWd (n - m) t zs = R ∧ NL (2 * m + 1) t ∧ ElsAt lo wr.heap.size wr tv t ∧ CdAt N D wr zs ∧ Mv w.heap.size D w wr) (fun _ iv _ => n + 1 - (intOf iv).toNat)
  case atStart => exact ⟨0, _, xs.tail.tail, Nat.zero_le _, by go_num, (unhide HX).tail.tail, unhide HRR, (DT.s (one_setL y2)).nl, unhide H4, (unhide HC2).keep (unhide HB4) (by omega), (unhide HV2).trans (bmv (unhide HB4) D (by omega))⟩
  case round =>
    obtain ⟨m, t, zs, hm, rfl, hzs, heq, hnl, hel, hcd, hmv⟩ := hrel
    obtain ⟨w5, rfl⟩ : ∃ w5, w5 = wr := ⟨_, rfl⟩
    have HEL := hide hel
    obtain ⟨at', ct, rfl, -⟩ := hel
    have HCD := hide hcd
    have HMV := hide hmv
    have HZ := hide hzs
    have HNL := hide hnl
    have hz5 := hmv.size
    by_cases hlt : m < n
    · have hlt' : (m : Int) + 1 < 2 + y % 4 := by omega
      obtain ⟨z1, hz1'⟩ : ∃ z, zs.headD 0 = z := ⟨_, rfl⟩
      have HZ1 := hide hz1'
      have hzb := dB_byte (y := z1)
      have HE2 : Hid (dWd (n - (m + 1)) (catT t (sE [dB z1, dB z1])) zs.tail = R) := by
        show dWd _ _ _ = _
        rw [show n - m = n - (m + 1) + 1 by omega, dWd, hz1'] at heq
        exact heq
      clear hcd hmv heq hz1' hzs hnl
      go_wp2_with fail
      refine (l1drawByte_any N D zs w5 (unhide HCD) (unhide HZ)).mono ?_
      rintro e w6 ⟨he, hc6, ho6⟩
      rw [unhide HZ1] at he
      subst he
      have hz6 : w6.heap.size = w5.heap.size := ho6.size
      have HC6 := hide hc6
      have HV6 := hide ((unhide HMV).trans (ho6.mv _))
      have HEL6 := hide ((unhide HEL).mv (ho6.mv w5.heap.size) (Nat.le_refl _) hD)
      clear hc6 ho6
      go_wp2_with fail
      refine (l1one_any (dB z1) w6 (in64_b hzb.1 hzb.2)).mono ?_
      rintro e w7 ⟨v7, rfl, hv7, hb7⟩
      have H7 := hide (hv7.mono (lo' := lo) (by omega) (Nat.le_refl _))
      obtain ⟨a7, c7, rfl, -⟩ := hv7
      have hz7 := hb7.size
      go_wp2_with fail
      refine (l1set_any lo _ _ w7 (unhide H7) (by omega) (by simp)).mono ?_
      rintro e w8 ⟨v8, rfl, hv8, hb8⟩
      have H8 := hide hv8
      obtain ⟨a8, c8, rfl, -⟩ := hv8
      have hz8 := hb8.size
      have hB8 := hb7.trans (hb8.mono hz7)
      have HEL8 := hide ((unhide HEL6).below hB8 (Nat.le_refl _))
      have HB8 := hide hB8
      clear hb7 hb8 hB8
      go_wp2_with fail
      refine (cat_dt (unhide HEL8) (unhide H8) (unhide HNL) (DT.s (one_setL z1)).nl (by omega) (by omega) (by omega)).mono ?_
      rintro e w9 ⟨v9, rfl, hv9, hb9⟩
      have H9 := hide hv9
      obtain ⟨a9, c9, rfl, -⟩ := hv9
      have HB9 := hide ((unhide HB8).trans (hb9.mono (by omega)))
      clear hb9
      go_wp2
      go_roundw
      case rel => exact ⟨m + 1, _, zs.tail, by omega, by go_num, (unhide HZ).tail, unhide HE2, ((unhide HNL).cat (DT.s (one_setL z1)).nl).mono (by omega), unhide H9, (unhide HC6).keep (unhide HB9) (by omega), (unhide HV6).trans (bmv (unhide HB9) D (by omega))⟩
      case measure => simp [intOf]; omega
    · have hlt' : ¬ (m : Int) + 1 < 2 + y % 4 := by omega
      rw [show n - m = 0 by omega] at heq
      have e1 : R = (t, zs) := heq.symm
      subst e1
      clear hcd hmv heq hzs hnl
      go_wp2
      go_ret
      exact ⟨⟨_, rfl, unhide HEL⟩, unhide HCD, unhide HMV⟩
set_option maxHeartbeats 8000000 in
set_option maxRecDepth 100000 in
theorem l1drawRep_a (N D lo m : Nat) (xv : Value) (x : List El) (xs : List Int) (w : World) (h : CdAt N D w xs) (hx : Cod xs) (hD : D < lo) (hlo : lo ≤ w.heap.size) (hxv : ElsAt lo w.heap.size w xv x) (hnl : DT m x) (hm : m ≤ 500) (hk : xs.headD 0 % 12 < 3) :
    Calls Tryz.prog 97 #[.pointer (some ⟨D, 0, none⟩), xv] w (DrE N D lo w (dRep x xs)) := by
  have H := hide h
  have HX := hide hx
  have hh := hx.head
  have hh2 := hx.tail.head
  have hh3 := hx.tail.tail.head
  have HXV := hide hxv
  obtain ⟨xa, xc, rfl, -⟩ := hxv
  obtain ⟨y, hy⟩ : ∃ y, xs.headD 0 = y := ⟨_, rfl⟩
  obtain ⟨y2, hy2⟩ : ∃ y, xs.tail.headD 0 = y := ⟨_, rfl⟩
  obtain ⟨y3, hy3⟩ : ∃ y, xs.tail.tail.headD 0 = y := ⟨_, rfl⟩
  rw [hy] at hh hk
  rw [hy2] at hh2
  rw [hy3] at hh3
  have HRB : Hid (rpB xs = ((0, -1), xs.tail)) := by
    show rpB xs = _
    unfold rpB
    rw [hy, if_pos hk]
  have HDT := hide (dRep_t hnl xs)
  obtain ⟨R, hR⟩ : ∃ R, R = dRep x xs := ⟨_, rfl⟩
  rw [← hR]
  unfold dRep at hR
  rw [unhide HRB] at HDT hR
  simp only at HDT hR
  have HRR := hide hR
  have HY := hide hy
  have HY2 := hide hy2
  have HY3 := hide hy3
  clear hy hy2 hy3 h hx HRB hR
  go_enter Tryz.func97, Tryz.ntmps97
  go_wp2_with fail
  refine (next_any N D xs w (unhide H) (unhide HX)).mono ?_
  rintro e w1 ⟨he, hc1, ho1⟩
  rw [unhide HY] at he
  subst he
  have hz1 : w1.heap.size = w.heap.size := ho1.size
  have HCC := hide hc1
  have HMM := hide (ho1.mv w.heap.size)
  have HXV2 := hide ((unhide HXV).mv (ho1.mv w.heap.size) (Nat.le_refl _) hD)
  clear hc1 ho1
  have HT := hide (rep_dt (unhide HXV2) hnl.nl (by omega) (by omega) (p := 0) (q := (-1)) (by unfold In64; omega) (by unfold In64; omega))
  go_wp2_with fail
  refine (unhide HT).mono ?_
  rintro e wa ⟨va, rfl, hva, hba⟩
  have HVA := hide hva
  obtain ⟨aa, ca, rfl, -⟩ := hva
  have hza := hba.size
  have HSZ := hide ((unhide HDT).size _ wa ((unhide HVA).mono (Nat.zero_le _) (Nat.le_refl _)) (by have := (unhide HDT).len; omega))
  clear HT
  go_wp2_with fail
  refine (unhide HSZ).mono ?_
  rintro e wb ⟨rfl, hbb⟩
  have hzb := hbb.size
  have HBA := hide (hba.trans (hbb.mono hza))
  have HVB := hide ((unhide HVA).below hbb (Nat.le_refl _))
  have HXB := hide ((unhide HXV2).below (unhide HBA) (Nat.le_refl _))
  clear hba hbb
  clear HSZ
  by_cases h60 : 60 < szL (repTr x 0 (-1))
  · have e1 := unhide HRR
    rw [if_pos h60] at e1
    subst e1
    go_wp2
    go_ret
    exact ⟨⟨_, rfl, unhide HXB⟩, (unhide HCC).keep (unhide HBA) (by omega), (unhide HMM).trans (bmv (unhide HBA) D (by omega))⟩
  · have e1 := unhide HRR
    rw [if_neg h60] at e1
    subst e1
    go_wp2
    go_ret
    exact ⟨⟨_, rfl, unhide HVB⟩, (unhide HCC).keep (unhide HBA) (by omega), (unhide HMM).trans (bmv (unhide HBA) D (by omega))⟩
set_option maxHeartbeats 8000000 in
set_option maxRecDepth 100000 in
theorem l1drawRep_b (N D lo m : Nat) (xv : Value) (x : List El) (xs : List Int) (w : World) (h : CdAt N D w xs) (hx : Cod xs) (hD : D < lo) (hlo : lo ≤ w.heap.size) (hxv : ElsAt lo w.heap.size w xv x) (hnl : DT m x) (hm : m ≤ 500) (hk : 3 ≤ xs.headD 0 % 12 ∧ xs.headD 0 % 12 < 5) :
    Calls Tryz.prog 97 #[.pointer (some ⟨D, 0, none⟩), xv] w (DrE N D lo w (dRep x xs)) := by
  have H := hide h
  have HX := hide hx
  have hh := hx.head
  have hh2 := hx.tail.head
  have hh3 := hx.tail.tail.head
  have HXV := hide hxv
  obtain ⟨xa, xc, rfl, -⟩ := hxv
  obtain ⟨y, hy⟩ : ∃ y, xs.headD 0 = y := ⟨_, rfl⟩
  obtain ⟨y2, hy2⟩ : ∃ y, xs.tail.headD 0 = y := ⟨_, rfl⟩
  obtain ⟨y3, hy3⟩ : ∃ y, xs.tail.tail.headD 0 = y := ⟨_, rfl⟩
  rw [hy] at hh hk
  rw [hy2] at hh2
  rw [hy3] at hh3
  have HRB : Hid (rpB xs = ((1, -1), xs.tail)) := by
    show rpB xs = _
    unfold rpB
    rw [hy, if_neg (by omega), if_pos hk.2]
  have HDT := hide (dRep_t hnl xs)
  obtain ⟨R, hR⟩ : ∃ R, R = dRep x xs := ⟨_, rfl⟩
  rw [← hR]
  unfold dRep at hR
  rw [unhide HRB] at HDT hR
  simp only at HDT hR
  have HRR := hide hR
  have HY := hide hy
  have HY2 := hide hy2
  have HY3 := hide hy3
  clear hy hy2 hy3 h hx HRB hR
  have n3 : ¬ y % 12 < 3 := by omega
  have n5 : y % 12 < 5 := by omega
  go_enter Tryz.func97, Tryz.ntmps97
  go_wp2_with fail
  refine (next_any N D xs w (unhide H) (unhide HX)).mono ?_
  rintro e w1 ⟨he, hc1, ho1⟩
  rw [unhide HY] at he
  subst he
  have hz1 : w1.heap.size = w.heap.size := ho1.size
  have HCC := hide hc1
  have HMM := hide (ho1.mv w.heap.size)
  have HXV2 := hide ((unhide HXV).mv (ho1.mv w.heap.size) (Nat.le_refl _) hD)
  clear hc1 ho1
  have HT := hide (rep_dt (unhide HXV2) hnl.nl (by omega) (by omega) (p := 1) (q := (-1)) (by unfold In64; omega) (by unfold In64; omega))
  go_wp2_with fail
  refine (unhide HT).mono ?_
  rintro e wa ⟨va, rfl, hva, hba⟩
  have HVA := hide hva
  obtain ⟨aa, ca, rfl, -⟩ := hva
  have hza := hba.size
  have HSZ := hide ((unhide HDT).size _ wa ((unhide HVA).mono (Nat.zero_le _) (Nat.le_refl _)) (by have := (unhide HDT).len; omega))
  clear HT
  go_wp2_with fail
  refine (unhide HSZ).mono ?_
  rintro e wb ⟨rfl, hbb⟩
  have hzb := hbb.size
  have HBA := hide (hba.trans (hbb.mono hza))
  have HVB := hide ((unhide HVA).below hbb (Nat.le_refl _))
  have HXB := hide ((unhide HXV2).below (unhide HBA) (Nat.le_refl _))
  clear hba hbb
  clear HSZ
  by_cases h60 : 60 < szL (repTr x 1 (-1))
  · have e1 := unhide HRR
    rw [if_pos h60] at e1
    subst e1
    go_wp2
    go_ret
    exact ⟨⟨_, rfl, unhide HXB⟩, (unhide HCC).keep (unhide HBA) (by omega), (unhide HMM).trans (bmv (unhide HBA) D (by omega))⟩
  · have e1 := unhide HRR
    rw [if_neg h60] at e1
    subst e1
    go_wp2
    go_ret
    exact ⟨⟨_, rfl, unhide HVB⟩, (unhide HCC).keep (unhide HBA) (by omega), (unhide HMM).trans (bmv (unhide HBA) D (by omega))⟩
set_option maxHeartbeats 8000000 in
set_option maxRecDepth 100000 in
theorem l1drawRep_c (N D lo m : Nat) (xv : Value) (x : List El) (xs : List Int) (w : World) (h : CdAt N D w xs) (hx : Cod xs) (hD : D < lo) (hlo : lo ≤ w.heap.size) (hxv : ElsAt lo w.heap.size w xv x) (hnl : DT m x) (hm : m ≤ 500) (hk : 5 ≤ xs.headD 0 % 12 ∧ xs.headD 0 % 12 < 7) :
    Calls Tryz.prog 97 #[.pointer (some ⟨D, 0, none⟩), xv] w (DrE N D lo w (dRep x xs)) := by
  have H := hide h
  have HX := hide hx
  have hh := hx.head
  have hh2 := hx.tail.head
  have hh3 := hx.tail.tail.head
  have HXV := hide hxv
  obtain ⟨xa, xc, rfl, -⟩ := hxv
  obtain ⟨y, hy⟩ : ∃ y, xs.headD 0 = y := ⟨_, rfl⟩
  obtain ⟨y2, hy2⟩ : ∃ y, xs.tail.headD 0 = y := ⟨_, rfl⟩
  obtain ⟨y3, hy3⟩ : ∃ y, xs.tail.tail.headD 0 = y := ⟨_, rfl⟩
  rw [hy] at hh hk
  rw [hy2] at hh2
  rw [hy3] at hh3
  have HRB : Hid (rpB xs = ((0, 1), xs.tail)) := by
    show rpB xs = _
    unfold rpB
    rw [hy, if_neg (by omega), if_neg (by omega), if_pos hk.2]
  have HDT := hide (dRep_t hnl xs)
  obtain ⟨R, hR⟩ : ∃ R, R = dRep x xs := ⟨_, rfl⟩
  rw [← hR]
  unfold dRep at hR
  rw [unhide HRB] at HDT hR
  simp only at HDT hR
  have HRR := hide hR
  have HY := hide hy
  have HY2 := hide hy2
  have HY3 := hide hy3
  clear hy hy2 hy3 h hx HRB hR
  have n3 : ¬ y % 12 < 3 := by omega
  have n5 : ¬ y % 12 < 5 := by omega
  have n7 : y % 12 < 7 := by omega
  go_enter Tryz.func97, Tryz.ntmps97
  go_wp2_with fail
  refine (next_any N D xs w (unhide H) (unhide HX)).mono ?_
  rintro e w1 ⟨he, hc1, ho1⟩
  rw [unhide HY] at he
  subst he
  have hz1 : w1.heap.size = w.heap.size := ho1.size
  have HCC := hide hc1
  have HMM := hide (ho1.mv w.heap.size)
  have HXV2 := hide ((unhide HXV).mv (ho1.mv w.heap.size) (Nat.le_refl _) hD)
  clear hc1 ho1
  have HT := hide (rep_dt (unhide HXV2) hnl.nl (by omega) (by omega) (p := 0) (q := (1)) (by unfold In64; omega) (by unfold In64; omega))
  go_wp2_with fail
  refine (unhide HT).mono ?_
  rintro e wa ⟨va, rfl, hva, hba⟩
  have HVA := hide hva
  obtain ⟨aa, ca, rfl, -⟩ := hva
  have hza := hba.size
  have HSZ := hide ((unhide HDT).size _ wa ((unhide HVA).mono (Nat.zero_le _) (Nat.le_refl _)) (by have := (unhide HDT).len; omega))
  clear HT
  go_wp2_with fail
  refine (unhide HSZ).mono ?_
  rintro e wb ⟨rfl, hbb⟩
  have hzb := hbb.size
  have HBA := hide (hba.trans (hbb.mono hza))
  have HVB := hide ((unhide HVA).below hbb (Nat.le_refl _))
  have HXB := hide ((unhide HXV2).below (unhide HBA) (Nat.le_refl _))
  clear hba hbb
  clear HSZ
  by_cases h60 : 60 < szL (repTr x 0 (1))
  · have e1 := unhide HRR
    rw [if_pos h60] at e1
    subst e1
    go_wp2
    go_ret
    exact ⟨⟨_, rfl, unhide HXB⟩, (unhide HCC).keep (unhide HBA) (by omega), (unhide HMM).trans (bmv (unhide HBA) D (by omega))⟩
  · have e1 := unhide HRR
    rw [if_neg h60] at e1
    subst e1
    go_wp2
    go_ret
    exact ⟨⟨_, rfl, unhide HVB⟩, (unhide HCC).keep (unhide HBA) (by omega), (unhide HMM).trans (bmv (unhide HBA) D (by omega))⟩
set_option maxHeartbeats 8000000 in
set_option maxRecDepth 100000 in
theorem l1drawRep_d (N D lo m : Nat) (xv : Value) (x : List El) (xs : List Int) (w : World) (h : CdAt N D w xs) (hx : Cod xs) (hD : D < lo) (hlo : lo ≤ w.heap.size) (hxv : ElsAt lo w.heap.size w xv x) (hnl : DT m x) (hm : m ≤ 500) (hk : xs.headD 0 % 12 = 11) :
    Calls Tryz.prog 97 #[.pointer (some ⟨D, 0, none⟩), xv] w (DrE N D lo w (dRep x xs)) := by
  have H := hide h
  have HX := hide hx
  have hh := hx.head
  have hh2 := hx.tail.head
  have hh3 := hx.tail.tail.head
  have HXV := hide hxv
  obtain ⟨xa, xc, rfl, -⟩ := hxv
  obtain ⟨y, hy⟩ : ∃ y, xs.headD 0 = y := ⟨_, rfl⟩
  obtain ⟨y2, hy2⟩ : ∃ y, xs.tail.headD 0 = y := ⟨_, rfl⟩
  obtain ⟨y3, hy3⟩ : ∃ y, xs.tail.tail.headD 0 = y := ⟨_, rfl⟩
  rw [hy] at hh hk
  rw [hy2] at hh2
  rw [hy3] at hh3
  have HRB : Hid (rpB xs = ((y2 % 4, -1), xs.tail.tail.tail)) := by
    show rpB xs = _
    unfold rpB
    rw [hy, if_neg (by omega), if_neg (by omega), if_neg (by omega), if_pos hk, hy2]
  have HDT := hide (dRep_t hnl xs)
  obtain ⟨R, hR⟩ : ∃ R, R = dRep x xs := ⟨_, rfl⟩
  rw [← hR]
  unfold dRep at hR
  rw [unhide HRB] at HDT hR
  simp only at HDT hR
  have HRR := hide hR
  have HY := hide hy
  have HY2 := hide hy2
  have HY3 := hide hy3
  clear hy hy2 hy3 h hx HRB hR
  have n3 : ¬ y % 12 < 3 := by omega
  have n5 : ¬ y % 12 < 5 := by omega
  have n7 : ¬ y % 12 < 7 := by omega
  go_enter Tryz.func97, Tryz.ntmps97
  go_wp2_with fail
  refine (next_any N D xs w (unhide H) (unhide HX)).mono ?_
  rintro e w1 ⟨he, hc1, ho1⟩
  rw [unhide HY] at he
  subst he
  have hz1 : w1.heap.size = w.heap.size := ho1.size
  go_wp2_with fail
  refine (next_any N D xs.tail w1 hc1 (unhide HX).tail).mono ?_
  rintro e w2 ⟨he, hc2, ho2⟩
  rw [unhide HY2] at he
  subst he
  have hz2 : w2.heap.size = w1.heap.size := ho2.size
  go_wp2_with fail
  refine (next_any N D xs.tail.tail w2 hc2 (unhide HX).tail.tail).mono ?_
  rintro e w3 ⟨he, hc3, ho3⟩
  rw [unhide HY3] at he
  subst he
  have hz3 : w3.heap.size = w2.heap.size := ho3.size
  have HCC := hide hc3
  have hMM := (ho1.mv w.heap.size).trans ((ho2.mv w.heap.size).trans (ho3.mv w.heap.size))
  have HMM := hide hMM
  have HXV2 := hide ((unhide HXV).mv hMM (Nat.le_refl _) hD)
  clear hc1 ho1 hc2 ho2 hc3 ho3 hMM
  have HT := hide (rep_dt (unhide HXV2) hnl.nl (by omega) (by omega) (p := (y2 % 4)) (q := (-1)) (by unfold In64; omega) (by unfold In64; omega))
  go_wp2_with fail
  refine (unhide HT).mono ?_
  rintro e wa ⟨va, rfl, hva, hba⟩
  have HVA := hide hva
  obtain ⟨aa, ca, rfl, -⟩ := hva
  have hza := hba.size
  have HSZ := hide ((unhide HDT).size _ wa ((unhide HVA).mono (Nat.zero_le _) (Nat.le_refl _)) (by have := (unhide HDT).len; omega))
  clear HT
  go_wp2_with fail
  refine (unhide HSZ).mono ?_
  rintro e wb ⟨rfl, hbb⟩
  have hzb := hbb.size
  have HBA := hide (hba.trans (hbb.mono hza))
  have HVB := hide ((unhide HVA).below hbb (Nat.le_refl _))
  have HXB := hide ((unhide HXV2).below (unhide HBA) (Nat.le_refl _))
  clear hba hbb
  clear HSZ
  by_cases h60 : 60 < szL (repTr x (y2 % 4) (-1))
  · have e1 := unhide HRR
    rw [if_pos h60] at e1
    subst e1
    go_wp2
    go_ret
    exact ⟨⟨_, rfl, unhide HXB⟩, (unhide HCC).keep (unhide HBA) (by omega), (unhide HMM).trans (bmv (unhide HBA) D (by omega))⟩
  · have e1 := unhide HRR
    rw [if_neg h60] at e1
    subst e1
    go_wp2
    go_ret
    exact ⟨⟨_, rfl, unhide HVB⟩, (unhide HCC).keep (unhide HBA) (by omega), (unhide HMM).trans (bmv (unhide HBA) D (by omega))⟩
set_option maxHeartbeats 8000000 in
set_option maxRecDepth 100000 in
theorem l1drawRep_e (N D lo m : Nat) (xv : Value) (x : List El) (xs : List Int) (w : World) (h : CdAt N D w xs) (hx : Cod xs) (hD : D < lo) (hlo : lo ≤ w.heap.size) (hxv : ElsAt lo w.heap.size w xv x) (hnl : DT m x) (hm : m ≤ 500) (hk : 7 ≤ xs.headD 0 % 12 ∧ xs.headD 0 % 12 < 11) :
    Calls Tryz.prog 97 #[.pointer (some ⟨D, 0, none⟩), xv] w (DrE N D lo w (dRep x xs)) := by
  have H := hide h
  have HX := hide hx
  have hh := hx.head
  have hh2 := hx.tail.head
  have hh3 := hx.tail.tail.head
  have HXV := hide hxv
  obtain ⟨xa, xc, rfl, -⟩ := hxv
  obtain ⟨y, hy⟩ : ∃ y, xs.headD 0 = y := ⟨_, rfl⟩
  obtain ⟨y2, hy2⟩ : ∃ y, xs.tail.headD 0 = y := ⟨_, rfl⟩
  obtain ⟨y3, hy3⟩ : ∃ y, xs.tail.tail.headD 0 = y := ⟨_, rfl⟩
  rw [hy] at hh hk
  rw [hy2] at hh2
  rw [hy3] at hh3
  have HRB : Hid (rpB xs = ((y2 % 4, y2 % 4 + y3 % 4), xs.tail.tail.tail)) := by
    show rpB xs = _
    unfold rpB
    rw [hy, if_neg (by omega), if_neg (by omega), if_neg (by omega), if_neg (by omega), hy2, hy3]
  have HDT := hide (dRep_t hnl xs)
  obtain ⟨R, hR⟩ : ∃ R, R = dRep x xs := ⟨_, rfl⟩
  rw [← hR]
  unfold dRep at hR
  rw [unhide HRB] at HDT hR
  simp only at HDT hR
  have HRR := hide hR
  have HY := hide hy
  have HY2 := hide hy2
  have HY3 := hide hy3
  clear hy hy2 hy3 h hx HRB hR
  have n3 : ¬ y % 12 < 3 := by omega
  have n5 : ¬ y % 12 < 5 := by omega
  have n7 : ¬ y % 12 < 7 := by omega
  have n11 : ¬ y % 12 = 11 := by omega
  go_enter Tryz.func97, Tryz.ntmps97
  go_wp2_with fail
  refine (next_any N D xs w (unhide H) (unhide HX)).mono ?_
  rintro e w1 ⟨he, hc1, ho1⟩
  rw [unhide HY] at he
  subst he
  have hz1 : w1.heap.size = w.heap.size := ho1.size
  go_wp2_with fail
  refine (next_any N D xs.tail w1 hc1 (unhide HX).tail).mono ?_
  rintro e w2 ⟨he, hc2, ho2⟩
  rw [unhide HY2] at he
  subst he
  have hz2 : w2.heap.size = w1.heap.size := ho2.size
  go_wp2_with fail
  refine (next_any N D xs.tail.tail w2 hc2 (unhide HX).tail.tail).mono ?_
  rintro e w3 ⟨he, hc3, ho3⟩
  rw [unhide HY3] at he
  subst he
  have hz3 : w3.heap.size = w2.heap.size := ho3.size
  have HCC := hide hc3
  have hMM := (ho1.mv w.heap.size).trans ((ho2.mv w.heap.size).trans (ho3.mv w.heap.size))
  have HMM := hide hMM
  have HXV2 := hide ((unhide HXV).mv hMM (Nat.le_refl _) hD)
  clear hc1 ho1 hc2 ho2 hc3 ho3 hMM
  have HT := hide (rep_dt (unhide HXV2) hnl.nl (by omega) (by omega) (p := (y2 % 4)) (q := (y2 % 4 + y3 % 4)) (by unfold In64; omega) (by unfold In64; omega))
  go_wp2_with fail
  refine (unhide HT).mono ?_
  rintro e wa ⟨va, rfl, hva, hba⟩
  have HVA := hide hva
  obtain ⟨aa, ca, rfl, -⟩ := hva
  have hza := hba.size
  have HSZ := hide ((unhide HDT).size _ wa ((unhide HVA).mono (Nat.zero_le _) (Nat.le_refl _)) (by have := (unhide HDT).len; omega))
  clear HT
  go_wp2_with fail
  refine (unhide HSZ).mono ?_
  rintro e wb ⟨rfl, hbb⟩
  have hzb := hbb.size
  have HBA := hide (hba.trans (hbb.mono hza))
  have HVB := hide ((unhide HVA).below hbb (Nat.le_refl _))
  have HXB := hide ((unhide HXV2).below (unhide HBA) (Nat.le_refl _))
  clear hba hbb
  clear HSZ
  by_cases h60 : 60 < szL (repTr x (y2 % 4) (y2 % 4 + y3 % 4))
  · have e1 := unhide HRR
    rw [if_pos h60] at e1
    subst e1
    go_wp2
    go_ret
    exact ⟨⟨_, rfl, unhide HXB⟩, (unhide HCC).keep (unhide HBA) (by omega), (unhide HMM).trans (bmv (unhide HBA) D (by omega))⟩
  · have e1 := unhide HRR
    rw [if_neg h60] at e1
    subst e1
    go_wp2
    go_ret
    exact ⟨⟨_, rfl, unhide HVB⟩, (unhide HCC).keep (unhide HBA) (by omega), (unhide HMM).trans (bmv (unhide HBA) D (by omega))⟩
theorem l1drawRep_any (N D lo m : Nat) (xv : Value) (x : List El) (xs : List Int) (w : World) (h : CdAt N D w xs) (hx : Cod xs) (hD : D < lo) (hlo : lo ≤ w.heap.size) (hxv : ElsAt lo w.heap.size w xv x) (hnl : DT m x) (hm : m ≤ 500) :
    Calls Tryz.prog 97 #[.pointer (some ⟨D, 0, none⟩), xv] w (DrE N D lo w (dRep x xs)) := by
  have hh := hx.head
  by_cases h1 : xs.headD 0 % 12 < 3
  · exact l1drawRep_a N D lo m xv x xs w h hx hD hlo hxv hnl hm h1
  by_cases h2 : xs.headD 0 % 12 < 5
  · exact l1drawRep_b N D lo m xv x xs w h hx hD hlo hxv hnl hm ⟨by omega, h2⟩
  by_cases h3 : xs.headD 0 % 12 < 7
  · exact l1drawRep_c N D lo m xv x xs w h hx hD hlo hxv hnl hm ⟨by omega, h3⟩
  by_cases h4 : xs.headD 0 % 12 = 11
  · exact l1drawRep_d N D lo m xv x xs w h hx hD hlo hxv hnl hm h4
  · exact l1drawRep_e N D lo m xv x xs w h hx hD hlo hxv hnl hm ⟨by omega, by omega⟩
set_option maxHeartbeats 8000000 in
set_option maxRecDepth 100000 in
theorem l1drawTree_s0 (N D lo : Nat) (xs : List Int) (w : World) (h : CdAt N D w xs) (hx : Cod xs) (hD : D < lo) (hlo : lo ≤ w.heap.size)  :
    Calls Tryz.prog 66 #[.pointer (some ⟨D, 0, none⟩), .int .i64 0] w (DrE N D lo w (sE (dSet xs.tail).1, (dSet xs.tail).2)) := by
  have H := hide h
  have HX := hide hx
  have hh := hx.head
  have hd0 : (0 : Int) ≤ 0 := by omega
  obtain ⟨y, hy⟩ : ∃ y, xs.headD 0 = y := ⟨_, rfl⟩
  rw [hy] at hh
  have HY := hide hy
  clear hy h hx
  go_enter Tryz.func66, Tryz.ntmps66
  go_wp2_with fail
  refine (next_any N D xs w (unhide H) (unhide HX)).mono ?_
  rintro e w1 ⟨he, hc1, ho1⟩
  rw [unhide HY] at he
  subst he
  have hz1 : w1.heap.size = w.heap.size := ho1.size
  have HC := hide hc1
  have HM := hide (ho1.mv w.heap.size)
  obtain ⟨w2, hw2⟩ : ∃ w2, w2 = w1 := ⟨_, rfl⟩
  subst hw2
  have hz2 : w2.heap.size = w2.heap.size := rfl
  clear hc1 ho1
  go_wp2_with fail
  refine (l1drawSet_any N D lo xs.tail w2 (unhide HC) (unhide HX).tail hD (by omega)).mono ?_
  rintro e w3 ⟨⟨v3, rfl, hv3⟩, hc3, hm3⟩
  have H3 := hide hv3
  obtain ⟨a3, c3, rfl, -⟩ := hv3
  have hz3 := hm3.size
  go_wp2_with fail
  refine (l1set_any lo _ _ w3 (unhide H3) (by omega) (Nat.le_trans (dSet_setL _).1 (by omega))).mono ?_
  rintro e w4 ⟨v4, rfl, hv4, hb4⟩
  have H4 := hide hv4
  obtain ⟨a4, c4, rfl, -⟩ := hv4
  go_wp2
  go_ret
  exact ⟨⟨_, rfl, unhide H4⟩, hc3.keep hb4 (by omega), (unhide HM).trans ((hm3.mono (by omega)).trans (bmv hb4 D (by omega)))⟩
set_option maxHeartbeats 8000000 in
set_option maxRecDepth 100000 in
theorem l1drawTree_s1 (N D lo d : Nat) (xs : List Int) (w : World) (h : CdAt N D w xs) (hx : Cod xs) (hD : D < lo) (hlo : lo ≤ w.heap.size) (hk : xs.headD 0 % 16 < 4) :
    Calls Tryz.prog 66 #[.pointer (some ⟨D, 0, none⟩), .int .i64 ((d : Int) + 1)] w (DrE N D lo w (sE (dSet xs.tail).1, (dSet xs.tail).2)) := by
  have H := hide h
  have HX := hide hx
  have hh := hx.head
  have hd0 : (0 : Int) ≤ ((d : Int) + 1) := by omega
  have hd1 : ¬ (d : Int) + 1 ≤ 0 := by omega
  obtain ⟨y, hy⟩ : ∃ y, xs.headD 0 = y := ⟨_, rfl⟩
  rw [hy] at hh hk
  have HY := hide hy
  clear hy h hx
  go_enter Tryz.func66, Tryz.ntmps66
  go_wp2_with fail
  refine (next_any N D xs w (unhide H) (unhide HX)).mono ?_
  rintro e w1 ⟨he, hc1, ho1⟩
  rw [unhide HY] at he
  subst he
  have hz1 : w1.heap.size = w.heap.size := ho1.size
  have HC := hide hc1
  have HM := hide (ho1.mv w.heap.size)
  obtain ⟨w2, hw2⟩ : ∃ w2, w2 = w1 := ⟨_, rfl⟩
  subst hw2
  have hz2 : w2.heap.size = w2.heap.size := rfl
  clear hc1 ho1
  go_wp2_with fail
  refine (l1drawSet_any N D lo xs.tail w2 (unhide HC) (unhide HX).tail hD (by omega)).mono ?_
  rintro e w3 ⟨⟨v3, rfl, hv3⟩, hc3, hm3⟩
  have H3 := hide hv3
  obtain ⟨a3, c3, rfl, -⟩ := hv3
  have hz3 := hm3.size
  go_wp2_with fail
  refine (l1set_any lo _ _ w3 (unhide H3) (by omega) (Nat.le_trans (dSet_setL _).1 (by omega))).mono ?_
  rintro e w4 ⟨v4, rfl, hv4, hb4⟩
  have H4 := hide hv4
  obtain ⟨a4, c4, rfl, -⟩ := hv4
  go_wp2
  go_ret
  exact ⟨⟨_, rfl, unhide H4⟩, hc3.keep hb4 (by omega), (unhide HM).trans ((hm3.mono (by omega)).trans (bmv hb4 D (by omega)))⟩
set_option maxHeartbeats 8000000 in
set_option maxRecDepth 100000 in
theorem l1drawTree_s2 (N D lo d : Nat) (xs : List Int) (w : World) (h : CdAt N D w xs) (hx : Cod xs) (hD : D < lo) (hlo : lo ≤ w.heap.size) (hk : ¬ xs.headD 0 % 16 < 4) (hl : xs.tail.length = 0) :
    Calls Tryz.prog 66 #[.pointer (some ⟨D, 0, none⟩), .int .i64 ((d : Int) + 1)] w (DrE N D lo w (sE (dSet xs.tail).1, (dSet xs.tail).2)) := by
  have H := hide h
  have HX := hide hx
  have hh := hx.head
  have hd0 : (0 : Int) ≤ ((d : Int) + 1) := by omega
  have hd1 : ¬ (d : Int) + 1 ≤ 0 := by omega
  obtain ⟨q, hq⟩ : ∃ q, xs.tail.length = q := ⟨_, rfl⟩
  have HQ := hide hq
  have hl1 : (q : Int) = 0 := by omega
  have hl2 : q = 0 := by omega
  clear hq
  obtain ⟨y, hy⟩ : ∃ y, xs.headD 0 = y := ⟨_, rfl⟩
  rw [hy] at hh hk
  have HY := hide hy
  clear hy h hx
  go_enter Tryz.func66, Tryz.ntmps66
  go_wp2_with fail
  refine (next_any N D xs w (unhide H) (unhide HX)).mono ?_
  rintro e w1 ⟨he, hc1, ho1⟩
  rw [unhide HY] at he
  subst he
  have hz1 : w1.heap.size = w.heap.size := ho1.size
  go_wp2_with fail
  refine (left_any N D xs.tail w1 hc1).mono ?_
  rintro e w2 ⟨he, hc2, ho2⟩
  rw [unhide HQ] at he
  subst he
  have hz2 : w2.heap.size = w1.heap.size := ho2.size
  have HC := hide hc2
  have HM := hide ((ho1.mv w.heap.size).trans (ho2.mv w.heap.size))
  clear hc1 ho1 hc2 ho2
  go_wp2_with fail
  refine (l1drawSet_any N D lo xs.tail w2 (unhide HC) (unhide HX).tail hD (by omega)).mono ?_
  rintro e w3 ⟨⟨v3, rfl, hv3⟩, hc3, hm3⟩
  have H3 := hide hv3
  obtain ⟨a3, c3, rfl, -⟩ := hv3
  have hz3 := hm3.size
  go_wp2_with fail
  refine (l1set_any lo _ _ w3 (unhide H3) (by omega) (Nat.le_trans (dSet_setL _).1 (by omega))).mono ?_
  rintro e w4 ⟨v4, rfl, hv4, hb4⟩
  have H4 := hide hv4
  obtain ⟨a4, c4, rfl, -⟩ := hv4
  go_wp2
  go_ret
  exact ⟨⟨_, rfl, unhide H4⟩, hc3.keep hb4 (by omega), (unhide HM).trans ((hm3.mono (by omega)).trans (bmv hb4 D (by omega)))⟩
set_option maxHeartbeats 8000000 in
set_option maxRecDepth 100000 in
theorem l1drawTree_w (N D lo d : Nat) (xs : List Int) (w : World) (h : CdAt N D w xs) (hx : Cod xs) (hD : D < lo) (hlo : lo ≤ w.heap.size) (hk : 4 ≤ xs.headD 0 % 16 ∧ xs.headD 0 % 16 < 6) (hl : ¬ xs.tail.length = 0) :
    Calls Tryz.prog 66 #[.pointer (some ⟨D, 0, none⟩), .int .i64 ((d : Int) + 1)] w (DrE N D lo w (dWord xs.tail)) := by
  have H := hide h
  have HX := hide hx
  have hh := hx.head
  have hd0 : (0 : Int) ≤ ((d : Int) + 1) := by omega
  have hd1 : ¬ (d : Int) + 1 ≤ 0 := by omega
  obtain ⟨q, hq⟩ : ∃ q, xs.tail.length = q := ⟨_, rfl⟩
  have HQ := hide hq
  have hl1 : ¬ (q : Int) = 0 := by omega
  have hl2 : ¬ q = 0 := by omega
  clear hq hl
  obtain ⟨y, hy⟩ : ∃ y, xs.headD 0 = y := ⟨_, rfl⟩
  rw [hy] at hh hk
  have HY := hide hy
  have k1 : ¬ y % 16 < 4 := by omega
  have k2 : y % 16 < 6 := by omega
  clear hy h hx
  go_enter Tryz.func66, Tryz.ntmps66
  go_wp2_with fail
  refine (next_any N D xs w (unhide H) (unhide HX)).mono ?_
  rintro e w1 ⟨he, hc1, ho1⟩
  rw [unhide HY] at he
  subst he
  have hz1 : w1.heap.size = w.heap.size := ho1.size
  go_wp2_with fail
  refine (left_any N D xs.tail w1 hc1).mono ?_
  rintro e w2 ⟨he, hc2, ho2⟩
  rw [unhide HQ] at he
  subst he
  have hz2 : w2.heap.size = w1.heap.size := ho2.size
  have HC := hide hc2
  have HM := hide ((ho1.mv w.heap.size).trans (ho2.mv w.heap.size))
  clear hc1 ho1 hc2 ho2
  go_wp2_with fail
  · exfalso
    first
    | (have h9 : ((d : Int) + 1 ≤ 0 ∨ y % 16 < 4) ∨ ((q : Int) == 0) = true := by assumption
       simp at h9
       omega)
    | (have h9 : (d : Int) + 1 ≤ 0 ∨ ((q : Int) == 0) = true := by assumption
       simp at h9
       omega)
  refine (l1drawWord_any N D lo xs.tail w2 (unhide HC) (unhide HX).tail hD (by omega)).mono ?_
  rintro e w3 ⟨⟨v3, rfl, hv3⟩, hc3, hm3⟩
  have H3 := hide hv3
  obtain ⟨a3, c3, rfl, -⟩ := hv3
  go_wp2
  go_ret
  exact ⟨⟨_, rfl, unhide H3⟩, hc3, (unhide HM).trans (hm3.mono (by omega))⟩
set_option maxHeartbeats 8000000 in
set_option maxRecDepth 100000 in
theorem l1drawTree_e (N D lo d : Nat) (xs : List Int) (w : World) (h : CdAt N D w xs) (hx : Cod xs) (hD : D < lo) (hlo : lo ≤ w.heap.size) (hk : xs.headD 0 % 16 = 6) (hl : ¬ xs.tail.length = 0) :
    Calls Tryz.prog 66 #[.pointer (some ⟨D, 0, none⟩), .int .i64 ((d : Int) + 1)] w (DrE N D lo w (eE, xs.tail)) := by
  have H := hide h
  have HX := hide hx
  have hh := hx.head
  have hd0 : (0 : Int) ≤ ((d : Int) + 1) := by omega
  have hd1 : ¬ (d : Int) + 1 ≤ 0 := by omega
  obtain ⟨q, hq⟩ : ∃ q, xs.tail.length = q := ⟨_, rfl⟩
  have HQ := hide hq
  have hl1 : ¬ (q : Int) = 0 := by omega
  have hl2 : ¬ q = 0 := by omega
  clear hq hl
  obtain ⟨y, hy⟩ : ∃ y, xs.headD 0 = y := ⟨_, rfl⟩
  rw [hy] at hh hk
  have HY := hide hy
  have k1 : ¬ y % 16 < 4 := by omega
  have k2 : ¬ y % 16 < 6 := by omega
  clear hy h hx
  go_enter Tryz.func66, Tryz.ntmps66
  go_wp2_with fail
  refine (next_any N D xs w (unhide H) (unhide HX)).mono ?_
  rintro e w1 ⟨he, hc1, ho1⟩
  rw [unhide HY] at he
  subst he
  have hz1 : w1.heap.size = w.heap.size := ho1.size
  go_wp2_with fail
  refine (left_any N D xs.tail w1 hc1).mono ?_
  rintro e w2 ⟨he, hc2, ho2⟩
  rw [unhide HQ] at he
  subst he
  have hz2 : w2.heap.size = w1.heap.size := ho2.size
  have HC := hide hc2
  have HM := hide ((ho1.mv w.heap.size).trans (ho2.mv w.heap.size))
  clear hc1 ho1 hc2 ho2
  go_wp2_with fail
  · exfalso
    first
    | (have h9 : ((d : Int) + 1 ≤ 0 ∨ y % 16 < 4) ∨ ((q : Int) == 0) = true := by assumption
       simp at h9
       omega)
    | (have h9 : (d : Int) + 1 ≤ 0 ∨ ((q : Int) == 0) = true := by assumption
       simp at h9
       omega)
  refine (e_dt lo w2 (by omega)).mono ?_
  rintro e w3 ⟨v3, rfl, hv3, hb3⟩
  have H3 := hide hv3
  obtain ⟨a3, c3, rfl, -⟩ := hv3
  go_wp2
  go_ret
  exact ⟨⟨_, rfl, unhide H3⟩, (unhide HC).keep hb3 (by omega), (unhide HM).trans (bmv hb3 D (by omega))⟩
set_option maxHeartbeats 8000000 in
set_option maxRecDepth 100000 in
theorem l1drawTree_c (N D lo d : Nat) (xs : List Int) (w : World) (h : CdAt N D w xs) (hx : Cod xs) (hD : D < lo) (hlo : lo ≤ w.heap.size) (hd : d ≤ 3) (ih : ∀ (xs : List Int) (w : World), CdAt N D w xs → Cod xs → lo ≤ w.heap.size → Calls Tryz.prog 66 #[.pointer (some ⟨D, 0, none⟩), .int .i64 (d : Nat)] w (DrE N D lo w (dTree d xs))) (hk : 7 ≤ xs.headD 0 % 16 ∧ xs.headD 0 % 16 < 10) (hl : ¬ xs.tail.length = 0) :
    Calls Tryz.prog 66 #[.pointer (some ⟨D, 0, none⟩), .int .i64 ((d : Int) + 1)] w (DrE N D lo w (catT (dTree d xs.tail).1 (dTree d (dTree d xs.tail).2).1, (dTree d (dTree d xs.tail).2).2)) := by
  have H := hide h
  have HX := hide hx
  have hh := hx.head
  have hd0 : (0 : Int) ≤ ((d : Int) + 1) := by omega
  have hd1 : ¬ (d : Int) + 1 ≤ 0 := by omega
  obtain ⟨q, hq⟩ : ∃ q, xs.tail.length = q := ⟨_, rfl⟩
  have HQ := hide hq
  have hl1 : ¬ (q : Int) = 0 := by omega
  have hl2 : ¬ q = 0 := by omega
  clear hq hl
  have IH := hide ih
  have hp : 2 ^ d ≤ 8 := Nat.le_trans (Nat.pow_le_pow_right (by omega) hd) (by decide)
  have hde : (d : Int) + 1 - 1 = (d : Int) := by omega
  clear ih
  obtain ⟨y, hy⟩ : ∃ y, xs.headD 0 = y := ⟨_, rfl⟩
  rw [hy] at hh hk
  have HY := hide hy
  have k1 : ¬ y % 16 < 4 := by omega
  have k2 : ¬ y % 16 < 6 := by omega
  have k3 : ¬ y % 16 = 6 := by omega
  have k4 : y % 16 < 10 := by omega
  clear hy h hx
  go_enter Tryz.func66, Tryz.ntmps66
  go_wp2_with fail
  refine (next_any N D xs w (unhide H) (unhide HX)).mono ?_
  rintro e w1 ⟨he, hc1, ho1⟩
  rw [unhide HY] at he
  subst he
  have hz1 : w1.heap.size = w.heap.size := ho1.size
  go_wp2_with fail
  refine (left_any N D xs.tail w1 hc1).mono ?_
  rintro e w2 ⟨he, hc2, ho2⟩
  rw [unhide HQ] at he
  subst he
  have hz2 : w2.heap.size = w1.heap.size := ho2.size
  have HC := hide hc2
  have HM := hide ((ho1.mv w.heap.size).trans (ho2.mv w.heap.size))
  clear hc1 ho1 hc2 ho2
  go_wp2_with fail
  · exfalso
    first
    | (have h9 : ((d : Int) + 1 ≤ 0 ∨ y % 16 < 4) ∨ ((q : Int) == 0) = true := by assumption
       simp at h9
       omega)
    | (have h9 : (d : Int) + 1 ≤ 0 ∨ ((q : Int) == 0) = true := by assumption
       simp at h9
       omega)
  refine (unhide IH xs.tail w2 (unhide HC) (unhide HX).tail (by omega)).mono ?_
  rintro e w3 ⟨⟨v3, rfl, hv3⟩, hc3, hm3⟩
  have H3 := hide hv3
  obtain ⟨a3, c3, rfl, -⟩ := hv3
  have hz3 := hm3.size
  have HX3 := hide (dTree_cod d _ (unhide HX).tail)
  have hn3 := (dTree_dt d xs.tail).nl.mono (m := 79) (by omega)
  have hn4 := (dTree_dt d (dTree d xs.tail).2).nl.mono (m := 79) (by omega)
  generalize dTree d xs.tail = A at *
  go_wp2_with fail
  refine (unhide IH A.2 w3 hc3 (unhide HX3) (by omega)).mono ?_
  rintro e w4 ⟨⟨v4, rfl, hv4⟩, hc4, hm4⟩
  have H4 := hide hv4
  obtain ⟨a4, c4, rfl, -⟩ := hv4
  have hz4 := hm4.size
  have H34 := hide ((unhide H3).mv hm4 (Nat.le_refl _) hD)
  go_wp2_with fail
  refine (cat_dt (unhide H34) (unhide H4) hn3 hn4 (by omega) (by omega) (by omega)).mono ?_
  rintro e w5 ⟨v5, rfl, hv5, hb5⟩
  have H5 := hide hv5
  obtain ⟨a5, c5, rfl, -⟩ := hv5
  go_wp2
  go_ret
  exact ⟨⟨_, rfl, unhide H5⟩, hc4.keep hb5 (by omega), (unhide HM).trans ((hm3.mono (by omega)).trans ((hm4.mono (by omega)).trans (bmv hb5 D (by omega))))⟩
set_option maxHeartbeats 8000000 in
set_option maxRecDepth 100000 in
theorem l1drawTree_a (N D lo d : Nat) (xs : List Int) (w : World) (h : CdAt N D w xs) (hx : Cod xs) (hD : D < lo) (hlo : lo ≤ w.heap.size) (hd : d ≤ 3) (ih : ∀ (xs : List Int) (w : World), CdAt N D w xs → Cod xs → lo ≤ w.heap.size → Calls Tryz.prog 66 #[.pointer (some ⟨D, 0, none⟩), .int .i64 (d : Nat)] w (DrE N D lo w (dTree d xs))) (hk : 10 ≤ xs.headD 0 % 16 ∧ xs.headD 0 % 16 < 13) (hl : ¬ xs.tail.length = 0) :
    Calls Tryz.prog 66 #[.pointer (some ⟨D, 0, none⟩), .int .i64 ((d : Int) + 1)] w (DrE N D lo w (altT (dTree d xs.tail).1 (dTree d (dTree d xs.tail).2).1, (dTree d (dTree d xs.tail).2).2)) := by
  have H := hide h
  have HX := hide hx
  have hh := hx.head
  have hd0 : (0 : Int) ≤ ((d : Int) + 1) := by omega
  have hd1 : ¬ (d : Int) + 1 ≤ 0 := by omega
  obtain ⟨q, hq⟩ : ∃ q, xs.tail.length = q := ⟨_, rfl⟩
  have HQ := hide hq
  have hl1 : ¬ (q : Int) = 0 := by omega
  have hl2 : ¬ q = 0 := by omega
  clear hq hl
  have IH := hide ih
  have hp : 2 ^ d ≤ 8 := Nat.le_trans (Nat.pow_le_pow_right (by omega) hd) (by decide)
  have hde : (d : Int) + 1 - 1 = (d : Int) := by omega
  clear ih
  obtain ⟨y, hy⟩ : ∃ y, xs.headD 0 = y := ⟨_, rfl⟩
  rw [hy] at hh hk
  have HY := hide hy
  have k1 : ¬ y % 16 < 4 := by omega
  have k2 : ¬ y % 16 < 6 := by omega
  have k3 : ¬ y % 16 = 6 := by omega
  have k4 : ¬ y % 16 < 10 := by omega
  have k5 : y % 16 < 13 := by omega
  clear hy h hx
  go_enter Tryz.func66, Tryz.ntmps66
  go_wp2_with fail
  refine (next_any N D xs w (unhide H) (unhide HX)).mono ?_
  rintro e w1 ⟨he, hc1, ho1⟩
  rw [unhide HY] at he
  subst he
  have hz1 : w1.heap.size = w.heap.size := ho1.size
  go_wp2_with fail
  refine (left_any N D xs.tail w1 hc1).mono ?_
  rintro e w2 ⟨he, hc2, ho2⟩
  rw [unhide HQ] at he
  subst he
  have hz2 : w2.heap.size = w1.heap.size := ho2.size
  have HC := hide hc2
  have HM := hide ((ho1.mv w.heap.size).trans (ho2.mv w.heap.size))
  clear hc1 ho1 hc2 ho2
  go_wp2_with fail
  · exfalso
    first
    | (have h9 : ((d : Int) + 1 ≤ 0 ∨ y % 16 < 4) ∨ ((q : Int) == 0) = true := by assumption
       simp at h9
       omega)
    | (have h9 : (d : Int) + 1 ≤ 0 ∨ ((q : Int) == 0) = true := by assumption
       simp at h9
       omega)
  refine (unhide IH xs.tail w2 (unhide HC) (unhide HX).tail (by omega)).mono ?_
  rintro e w3 ⟨⟨v3, rfl, hv3⟩, hc3, hm3⟩
  have H3 := hide hv3
  obtain ⟨a3, c3, rfl, -⟩ := hv3
  have hz3 := hm3.size
  have HX3 := hide (dTree_cod d _ (unhide HX).tail)
  have hn3 := (dTree_dt d xs.tail).nl.mono (m := 79) (by omega)
  have hn4 := (dTree_dt d (dTree d xs.tail).2).nl.mono (m := 79) (by omega)
  generalize dTree d xs.tail = A at *
  go_wp2_with fail
  refine (unhide IH A.2 w3 hc3 (unhide HX3) (by omega)).mono ?_
  rintro e w4 ⟨⟨v4, rfl, hv4⟩, hc4, hm4⟩
  have H4 := hide hv4
  obtain ⟨a4, c4, rfl, -⟩ := hv4
  have hz4 := hm4.size
  have H34 := hide ((unhide H3).mv hm4 (Nat.le_refl _) hD)
  go_wp2_with fail
  refine (alt_dt (unhide H34) (unhide H4) hn3 hn4 (by omega) (by omega) (by omega)).mono ?_
  rintro e w5 ⟨v5, rfl, hv5, hb5⟩
  have H5 := hide hv5
  obtain ⟨a5, c5, rfl, -⟩ := hv5
  go_wp2
  go_ret
  exact ⟨⟨_, rfl, unhide H5⟩, hc4.keep hb5 (by omega), (unhide HM).trans ((hm3.mono (by omega)).trans ((hm4.mono (by omega)).trans (bmv hb5 D (by omega))))⟩
set_option maxHeartbeats 8000000 in
set_option maxRecDepth 100000 in
theorem l1drawTree_r (N D lo d : Nat) (xs : List Int) (w : World) (h : CdAt N D w xs) (hx : Cod xs) (hD : D < lo) (hlo : lo ≤ w.heap.size) (hd : d ≤ 3) (ih : ∀ (xs : List Int) (w : World), CdAt N D w xs → Cod xs → lo ≤ w.heap.size → Calls Tryz.prog 66 #[.pointer (some ⟨D, 0, none⟩), .int .i64 (d : Nat)] w (DrE N D lo w (dTree d xs))) (hk : 13 ≤ xs.headD 0 % 16) (hl : ¬ xs.tail.length = 0) :
    Calls Tryz.prog 66 #[.pointer (some ⟨D, 0, none⟩), .int .i64 ((d : Int) + 1)] w (DrE N D lo w (dRep (dTree d xs.tail).1 (dTree d xs.tail).2)) := by
  have H := hide h
  have HX := hide hx
  have hh := hx.head
  have hd0 : (0 : Int) ≤ ((d : Int) + 1) := by omega
  have hd1 : ¬ (d : Int) + 1 ≤ 0 := by omega
  obtain ⟨q, hq⟩ : ∃ q, xs.tail.length = q := ⟨_, rfl⟩
  have HQ := hide hq
  have hl1 : ¬ (q : Int) = 0 := by omega
  have hl2 : ¬ q = 0 := by omega
  clear hq hl
  have IH := hide ih
  have hp : 2 ^ d ≤ 8 := Nat.le_trans (Nat.pow_le_pow_right (by omega) hd) (by decide)
  have hde : (d : Int) + 1 - 1 = (d : Int) := by omega
  clear ih
  obtain ⟨y, hy⟩ : ∃ y, xs.headD 0 = y := ⟨_, rfl⟩
  rw [hy] at hh hk
  have HY := hide hy
  have k1 : ¬ y % 16 < 4 := by omega
  have k2 : ¬ y % 16 < 6 := by omega
  have k3 : ¬ y % 16 = 6 := by omega
  have k4 : ¬ y % 16 < 10 := by omega
  have k5 : ¬ y % 16 < 13 := by omega
  clear hy h hx
  go_enter Tryz.func66, Tryz.ntmps66
  go_wp2_with fail
  refine (next_any N D xs w (unhide H) (unhide HX)).mono ?_
  rintro e w1 ⟨he, hc1, ho1⟩
  rw [unhide HY] at he
  subst he
  have hz1 : w1.heap.size = w.heap.size := ho1.size
  go_wp2_with fail
  refine (left_any N D xs.tail w1 hc1).mono ?_
  rintro e w2 ⟨he, hc2, ho2⟩
  rw [unhide HQ] at he
  subst he
  have hz2 : w2.heap.size = w1.heap.size := ho2.size
  have HC := hide hc2
  have HM := hide ((ho1.mv w.heap.size).trans (ho2.mv w.heap.size))
  clear hc1 ho1 hc2 ho2
  go_wp2_with fail
  · exfalso
    first
    | (have h9 : ((d : Int) + 1 ≤ 0 ∨ y % 16 < 4) ∨ ((q : Int) == 0) = true := by assumption
       simp at h9
       omega)
    | (have h9 : (d : Int) + 1 ≤ 0 ∨ ((q : Int) == 0) = true := by assumption
       simp at h9
       omega)
  refine (unhide IH xs.tail w2 (unhide HC) (unhide HX).tail (by omega)).mono ?_
  rintro e w3 ⟨⟨v3, rfl, hv3⟩, hc3, hm3⟩
  have H3 := hide hv3
  obtain ⟨a3, c3, rfl, -⟩ := hv3
  have hz3 := hm3.size
  have HX3 := hide (dTree_cod d _ (unhide HX).tail)
  have hn3 := (dTree_dt d xs.tail).mono (m := 79) (by omega)
  generalize dTree d xs.tail = A at *
  go_wp2_with fail
  refine (l1drawRep_any N D lo 79 _ A.1 A.2 w3 hc3 (unhide HX3) hD (by omega) (unhide H3) hn3 (by omega)).mono ?_
  rintro e w4 ⟨⟨v4, rfl, hv4⟩, hc4, hm4⟩
  have H4 := hide hv4
  obtain ⟨a4, c4, rfl, -⟩ := hv4
  go_wp2
  go_ret
  exact ⟨⟨_, rfl, unhide H4⟩, hc4, (unhide HM).trans ((hm3.mono (by omega)).trans (hm4.mono (by omega)))⟩
theorem l1drawTree_any (N D lo : Nat) (hD : D < lo) : ∀ (d : Nat), d ≤ 4 → ∀ (xs : List Int) (w : World), CdAt N D w xs → Cod xs → lo ≤ w.heap.size → Calls Tryz.prog 66 #[.pointer (some ⟨D, 0, none⟩), .int .i64 (d : Nat)] w (DrE N D lo w (dTree d xs))
  | 0, _, xs, w, h, hx, hlo => l1drawTree_s0 N D lo xs w h hx hD hlo
  | d + 1, hd, xs, w, h, hx, hlo => by
    have ih := l1drawTree_any N D lo hD d (by omega)
    have hh := hx.head
    rw [show (((d + 1 : Nat) : Int)) = (d : Int) + 1 from rfl]
    unfold dTree
    by_cases h1 : xs.headD 0 % 16 < 4
    · rw [if_pos (Or.inl h1)]; exact l1drawTree_s1 N D lo d xs w h hx hD hlo h1
    by_cases h2 : xs.tail.length = 0
    · rw [if_pos (Or.inr h2)]; exact l1drawTree_s2 N D lo d xs w h hx hD hlo h1 h2
    rw [if_neg (fun q => q.elim h1 h2)]
    by_cases h3 : xs.headD 0 % 16 < 6
    · rw [if_pos h3]; exact l1drawTree_w N D lo d xs w h hx hD hlo ⟨by omega, h3⟩ h2
    rw [if_neg h3]
    by_cases h4 : xs.headD 0 % 16 = 6
    · rw [if_pos h4]; exact l1drawTree_e N D lo d xs w h hx hD hlo h4 h2
    rw [if_neg h4]
    by_cases h5 : xs.headD 0 % 16 < 10
    · rw [if_pos h5]; exact l1drawTree_c N D lo d xs w h hx hD hlo (by omega) ih ⟨by omega, h5⟩ h2
    rw [if_neg h5]
    by_cases h6 : xs.headD 0 % 16 < 13
    · rw [if_pos h6]; exact l1drawTree_a N D lo d xs w h hx hD hlo (by omega) ih ⟨by omega, h6⟩ h2
    rw [if_neg h6]
    exact l1drawTree_r N D lo d xs w h hx hD hlo (by omega) ih (by omega) h2
theorem ElsAt.put3 {lo B : Nat} {w : World} {v : Value} {xs : List El} {u0 u1 u2 : Value} (h : ElsAt (B + 1) w.heap.size w v xs) (hB : lo ≤ B + 1) : ElsAt lo (((w.setCell ⟨B, 0, none⟩ u0).setCell ⟨B, 1, none⟩ u1).setCell ⟨B, 2, none⟩ u2).heap.size (((w.setCell ⟨B, 0, none⟩ u0).setCell ⟨B, 1, none⟩ u1).setCell ⟨B, 2, none⟩ u2) v xs :=
  (h.same ((((Same.refl _ _ _).setCell (Or.inl (Nat.lt_succ_self _)) _).setCell (Or.inl (Nat.lt_succ_self _)) _).setCell (Or.inl (Nat.lt_succ_self _)) _)).mono hB (by simp only [sz_put]; exact Nat.le_refl _)
def DrP (N D lo : Nat) (w : World) (l r : Bool) (R : List El × List Int) (e : Ending) (w' : World) : Prop := (∃ v, e = .returned (.agg #[.bool l, .bool r, v]) ∧ ElsAt lo w'.heap.size w' v R.1) ∧ CdAt N D w' R.2 ∧ Mv w.heap.size D w w'
set_option maxHeartbeats 16000000 in
set_option maxRecDepth 100000 in
theorem l1drawGood_any (N D lo : Nat) (xs : List Int) (w : World) (h : CdAt N D w xs) (hx : Cod xs) (hD : D < lo) (hlo : lo ≤ w.heap.size) :
    Calls Tryz.prog 35 #[.pointer (some ⟨D, 0, none⟩)] w (DrP N D lo w (decide (xs.headD 0 % 4 = 1)) (decide (5 < xs.headD 0 % 8)) (dGood xs)) := by
  have H := hide h
  have HX := hide hx
  have hh := hx.head
  obtain ⟨y, hy⟩ : ∃ y, xs.headD 0 = y := ⟨_, rfl⟩
  rw [hy] at hh ⊢
  obtain ⟨R, hR⟩ : ∃ R, dGood xs = R := ⟨_, rfl⟩
  rw [hR]
  have HRR : Hid (dGd 6 (dTree 4 xs.tail).1 (dTree 4 xs.tail).2 = R) := hR
  have HY := hide hy
  have HX1 := hide (dTree_cod 4 _ hx.tail)
  have hD1 := (dTree_dt 4 xs.tail).mono (m := 159) (by omega)
  clear hy h hx hR
  have HP := hide (Bx3.new w 25 (.bool false) (.bool false) (.slice none 0 0))
  have HB0 := hide (below1 w (.cells #[.bool false, .bool false, .slice none 0 0] 25))
  have hzW : (w.alloc (.cells #[.bool false, .bool false, .slice none 0 0] 25)).heap.size = w.heap.size + 1 := sz_alloc _ _
  have HC0 := hide ((unhide H).keep (unhide HB0) (by omega))
  have HV0 := hide (Below.mv (unhide HB0) D)
  go_enter Tryz.func35, Tryz.ntmps35
  go_wp2_with fail
  generalize w.alloc (.cells #[.bool false, .bool false, .slice none 0 0] 25) = W0 at *
  refine (next_any N D xs W0 (unhide HC0) (unhide HX)).mono ?_
  rintro e w1 ⟨he, hc1, ho1⟩
  rw [unhide HY] at he
  subst he
  have hz1 : w1.heap.size = W0.heap.size := ho1.size
  have HC1 := hide hc1
  have HM1 := hide (ho1.mv (w.heap.size + 1))
  clear hc1 ho1
  go_wp2_with fail
  refine (l1drawTree_any N D (w.heap.size + 1) (by omega) 4 (Nat.le_refl _) xs.tail w1 (unhide HC1) (unhide HX).tail (by omega)).mono ?_
  generalize dTree 4 xs.tail = A at *
  rintro e w2 ⟨⟨v2, rfl, hv2⟩, hc2, hm2⟩
  have hz2 := hm2.size
  have HT2 := hide hv2
  obtain ⟨a2, c2, rfl, -⟩ := hv2
  have HC2 := hide hc2
  have HM2 := hide ((unhide HM1).trans (hm2.mono (by omega)))
  clear hc2 hm2
  go_wp2_with fail
  go_loopw [4, 5] (fun tv iv wr => ∃ (m : Nat) (t : List El) (zs : List Int), m ≤ 6 ∧ iv = .int .i64 (m : Nat) ∧ Cod zs ∧ dGd (6 - m) t zs = R ∧ DT (159 + 80 * m) t ∧ ElsAt (w.heap.size + 1) wr.heap.size wr tv t ∧ CdAt N D wr zs ∧ Mv (w.heap.size + 1) D W0 wr) (fun _ iv _ => 6 - (intOf iv).toNat)
  case atStart => exact ⟨0, A.1, A.2, Nat.zero_le _, rfl, unhide HX1, unhide HRR, hD1, unhide HT2, unhide HC2, unhide HM2⟩
  case round =>
    obtain ⟨m, t, zs, hm, rfl, hzs, heq, hdt, hel, hcd, hmv⟩ := hrel
    obtain ⟨w3, rfl⟩ : ∃ w3, w3 = wr := ⟨_, rfl⟩
    have HT3 := hide hel
    obtain ⟨a3, c3, rfl, -⟩ := hel
    have HC3 := hide hcd
    have HM3 := hide hmv
    have HZ := hide hzs
    have HDT := hide hdt
    have hz3 := hmv.size
    clear hcd hmv hdt
    by_cases hlt : m < 6
    · have hlt' : (m : Int) < 6 := by omega
      obtain ⟨q, hq⟩ : ∃ q, zs.length = q := ⟨_, rfl⟩
      have HQ := hide hq
      obtain ⟨z, hz⟩ : ∃ z, zs.headD 0 = z := ⟨_, rfl⟩
      have HZ1 := hide hz
      have hzb := hzs.head
      rw [hz] at hzb
      rw [show 6 - m = 6 - (m + 1) + 1 by omega, dGd, hq, hz] at heq
      have HEQ := hide heq
      clear hq hz heq hzs
      by_cases hq0 : q = 0
      · have e1 : R = (t, zs) := by have h9 := unhide HEQ; rw [if_pos hq0] at h9; exact h9.symm
        subst e1
        have hq1 : ¬ 0 < (q : Int) := by omega
        go_wp2_with fail
        refine (left_any N D zs w3 (unhide HC3)).mono ?_
        rintro e w4 ⟨he, hc4, ho4⟩
        rw [unhide HQ] at he
        subst he
        have hz4 : w4.heap.size = w3.heap.size := ho4.size
        have HC4 := hide hc4
        have HM4 := hide ((unhide HM3).trans (ho4.mv _))
        have HT4 := hide ((unhide HT3).mv (ho4.mv w3.heap.size) (Nat.le_refl _) (by omega))
        clear hc4 ho4 HEQ
        have BP := (unhide HP).blk ((unhide HM4).block w.heap.size (by omega) (by omega))
        obtain ⟨p0, p1, p2⟩ := BP.facts
        have z0 := World.rowIs.frozen BP 0
        have z1 := World.rowIs.frozen BP 1
        have z2 := World.rowIs.frozen BP 2
        clear BP
        go_wp2
        refine bodyPost_ret (v := .agg #[.bool (decide (y % 4 = 1)), .bool (decide (5 < y % 8)), .slice a3 t.length c3]) (by simp [results, Tryz.results35, go_sem, p0, p1, p2]; rfl) rfl ⟨⟨_, rfl, ?_⟩, ?_, ?_⟩
        · exact (unhide HT4).put3 (by omega)
        · exact (unhide HC4).keep (bput (bput (bput (Below.refl w.heap.size w4) (Nat.le_refl _) _) (Nat.le_refl _) _) (Nat.le_refl _) _) (by omega)
        · exact (unhide HV0).trans (((unhide HM4).mono (by omega)).trans (Below.mv (bput (bput (bput (Below.refl w.heap.size w4) (Nat.le_refl _) _) (Nat.le_refl _) _) (Nat.le_refl _) _) D))
      · have hq1 : 0 < (q : Int) := by omega
        go_wp2_with fail
        refine (left_any N D zs w3 (unhide HC3)).mono ?_
        rintro e w4 ⟨he, hc4, ho4⟩
        rw [unhide HQ] at he
        subst he
        have hz4 : w4.heap.size = w3.heap.size := ho4.size
        go_wp2_with fail
        refine (next_any N D zs w4 hc4 (unhide HZ)).mono ?_
        rintro e w5 ⟨he, hc5, ho5⟩
        rw [unhide HZ1] at he
        subst he
        have hz5 : w5.heap.size = w4.heap.size := ho5.size
        have HC5 := hide hc5
        have hM5 := (ho4.mv w3.heap.size).trans (ho5.mv w3.heap.size)
        have HM5 := hide ((unhide HM3).trans (hM5.mono (by omega)))
        have HT5 := hide ((unhide HT3).mv hM5 (Nat.le_refl _) (by omega))
        clear hc4 ho4 hc5 ho5 hM5
        by_cases hz8 : z % 8 < 2
        · have e1 : R = (t, zs.tail) := by have h9 := unhide HEQ; rw [if_neg hq0, if_pos hz8] at h9; exact h9.symm
          subst e1
          clear HEQ
          have BP := (unhide HP).blk ((unhide HM5).block w.heap.size (by omega) (by omega))
          obtain ⟨p0, p1, p2⟩ := BP.facts
          have z0 := World.rowIs.frozen BP 0
          have z1 := World.rowIs.frozen BP 1
          have z2 := World.rowIs.frozen BP 2
          clear BP
          go_wp2
          refine bodyPost_ret (v := .agg #[.bool (decide (y % 4 = 1)), .bool (decide (5 < y % 8)), .slice a3 t.length c3]) (by simp [results, Tryz.results35, go_sem, p0, p1, p2]; rfl) rfl ⟨⟨_, rfl, ?_⟩, ?_, ?_⟩
          · exact (unhide HT5).put3 (by omega)
          · exact (unhide HC5).keep (bput (bput (bput (Below.refl w.heap.size w5) (Nat.le_refl _) _) (Nat.le_refl _) _) (Nat.le_refl _) _) (by omega)
          · exact (unhide HV0).trans (((unhide HM5).mono (by omega)).trans (Below.mv (bput (bput (bput (Below.refl w.heap.size w5) (Nat.le_refl _) _) (Nat.le_refl _) _) (Nat.le_refl _) _) D))
        · have HX5 := hide (unhide HZ).tail
          have hdc := dTree_cod 3 _ (unhide HZ).tail
          have HDC := hide hdc
          have HDB := hide ((dTree_dt 3 zs.tail).mono (m := 79) (by omega))
          clear hdc
          go_wp2_with fail
          refine (l1drawTree_any N D (w.heap.size + 1) (by omega) 3 (by omega) zs.tail w5 (unhide HC5) (unhide HX5) (by omega)).mono ?_
          generalize dTree 3 zs.tail = B at *
          rintro e w6 ⟨⟨v6, rfl, hv6⟩, hc6, hm6⟩
          have hz6 := hm6.size
          have HB6 := hide hv6
          obtain ⟨a6, c6, rfl, -⟩ := hv6
          have HC6 := hide hc6
          have HM6 := hide ((unhide HM5).trans (hm6.mono (by omega)))
          have HT6 := hide ((unhide HT5).mv hm6 (Nat.le_refl _) (by omega))
          have HS1 := hide ((unhide HDT).size _ w6 ((unhide HT6).mono (Nat.zero_le _) (Nat.le_refl _)) (by have := (unhide HDT).len; omega))
          have hs1 := (unhide HDT).szb
          have hs2 := (unhide HDB).szb
          clear hc6 hm6
          go_wp2_with fail
          refine (unhide HS1).mono ?_
          rintro e w7 ⟨rfl, hb7⟩
          have hz7 := hb7.size
          have HC7 := hide ((unhide HC6).keep hb7 (by omega))
          have HM7 := hide ((unhide HM6).trans (bmv hb7 D (by omega)))
          have HT7 := hide ((unhide HT6).below hb7 (Nat.le_refl _))
          have HB7 := hide ((unhide HB6).below hb7 (Nat.le_refl _))
          have HS2 := hide ((unhide HDB).size _ w7 ((unhide HB7).mono (Nat.zero_le _) (Nat.le_refl _)) (by have := (unhide HDB).len; omega))
          clear hb7 HS1
          go_wp2_with fail
          refine (unhide HS2).mono ?_
          rintro e w8 ⟨rfl, hb8⟩
          have hz8' := hb8.size
          have HC8 := hide ((unhide HC7).keep hb8 (by omega))
          have HM8 := hide ((unhide HM7).trans (bmv hb8 D (by omega)))
          have HT8 := hide ((unhide HT7).below hb8 (Nat.le_refl _))
          have HB8 := hide ((unhide HB7).below hb8 (Nat.le_refl _))
          clear hb8 HS2
          by_cases h90 : 90 < szL t + szL B.1
          · have e1 : R = (t, B.2) := by have h9 := unhide HEQ; rw [if_neg hq0, if_neg (by omega), if_pos h90] at h9; exact h9.symm
            subst e1
            clear HEQ
            have BP := (unhide HP).blk ((unhide HM8).block w.heap.size (by omega) (by omega))
            obtain ⟨p0, p1, p2⟩ := BP.facts
            have z0 := World.rowIs.frozen BP 0
            have z1 := World.rowIs.frozen BP 1
            have z2 := World.rowIs.frozen BP 2
            clear BP
            go_wp2
            refine bodyPost_ret (v := .agg #[.bool (decide (y % 4 = 1)), .bool (decide (5 < y % 8)), .slice a3 t.length c3]) (by simp [results, Tryz.results35, go_sem, p0, p1, p2]; rfl) rfl ⟨⟨_, rfl, ?_⟩, ?_, ?_⟩
            · exact (unhide HT8).put3 (by omega)
            · exact (unhide HC8).keep (bput (bput (bput (Below.refl w.heap.size w8) (Nat.le_refl _) _) (Nat.le_refl _) _) (Nat.le_refl _) _) (by omega)
            · exact (unhide HV0).trans (((unhide HM8).mono (by omega)).trans (Below.mv (bput (bput (bput (Below.refl w.heap.size w8) (Nat.le_refl _) _) (Nat.le_refl _) _) (Nat.le_refl _) _) D))
          · have HE9 : Hid (dGd (6 - (m + 1)) (if z % 8 < 6 then catT t B.1 else altT t B.1) B.2 = R) := by have h9 := unhide HEQ; rw [if_neg hq0, if_neg (by omega), if_neg h90] at h9; exact h9
            clear HEQ
            by_cases hz6' : z % 8 < 6
            · have HE10 : Hid (dGd (6 - (m + 1)) (catT t B.1) B.2 = R) := by have h9 := unhide HE9; rw [if_pos hz6'] at h9; exact h9
              clear HE9
              go_wp2_with fail
              refine (cat_dt (unhide HT8) (unhide HB8) (unhide HDT).nl (unhide HDB).nl (by omega) (by omega) (by omega)).mono ?_
              rintro e w9 ⟨v9, rfl, hv9, hb9⟩
              have HT9 := hide hv9
              obtain ⟨a9, c9, rfl, -⟩ := hv9
              have HC9 := hide ((unhide HC8).keep hb9 (by omega))
              have HM9 := hide ((unhide HM8).trans (bmv hb9 D (by omega)))
              clear hb9
              go_wp2
              go_roundw
              case rel => exact ⟨m + 1, _, B.2, by omega, by go_num, unhide HDC, unhide HE10, ((unhide HDT).cat (unhide HDB)).mono (by omega), unhide HT9, unhide HC9, unhide HM9⟩
              case measure => simp [intOf]; omega
            · have HE10 : Hid (dGd (6 - (m + 1)) (altT t B.1) B.2 = R) := by have h9 := unhide HE9; rw [if_neg hz6'] at h9; exact h9
              clear HE9
              go_wp2_with fail
              refine (alt_dt (unhide HT8) (unhide HB8) (unhide HDT).nl (unhide HDB).nl (by omega) (by omega) (by omega)).mono ?_
              rintro e w9 ⟨v9, rfl, hv9, hb9⟩
              have HT9 := hide hv9
              obtain ⟨a9, c9, rfl, -⟩ := hv9
              have HC9 := hide ((unhide HC8).keep hb9 (by omega))
              have HM9 := hide ((unhide HM8).trans (bmv hb9 D (by omega)))
              clear hb9
              go_wp2
              go_roundw
              case rel => exact ⟨m + 1, _, B.2, by omega, by go_num, unhide HDC, unhide HE10, ((unhide HDT).alt (unhide HDB)).mono (by omega), unhide HT9, unhide HC9, unhide HM9⟩
              case measure => simp [intOf]; omega
    · obtain rfl : m = 6 := by omega
      have e1 : R = (t, zs) := heq.symm
      subst e1
      clear heq
      have BP := (unhide HP).blk ((unhide HM3).block w.heap.size (by omega) (by omega))
      obtain ⟨p0, p1, p2⟩ := BP.facts
      have z0 := World.rowIs.frozen BP 0
      have z1 := World.rowIs.frozen BP 1
      have z2 := World.rowIs.frozen BP 2
      clear BP
      go_wp2
      refine bodyPost_ret (v := .agg #[.bool (decide (y % 4 = 1)), .bool (decide (5 < y % 8)), .slice a3 t.length c3]) (by simp [results, Tryz.results35, go_sem, p0, p1, p2]; rfl) rfl ⟨⟨_, rfl, ?_⟩, ?_, ?_⟩
      · exact (unhide HT3).put3 (by omega)
      · exact (unhide HC3).keep (bput (bput (bput (Below.refl w.heap.size w3) (Nat.le_refl _) _) (Nat.le_refl _) _) (Nat.le_refl _) _) (by omega)
      · exact (unhide HV0).trans (((unhide HM3).mono (by omega)).trans (Below.mv (bput (bput (bput (Below.refl w.heap.size w3) (Nat.le_refl _) _) (Nat.le_refl _) _) (Nat.le_refl _) _) D))
end Go.Proofs.YtinhliecfjlocaaGreat
