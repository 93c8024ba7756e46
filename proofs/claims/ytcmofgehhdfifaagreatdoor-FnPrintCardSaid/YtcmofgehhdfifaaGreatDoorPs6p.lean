import Derived.Test.YtcmofgehhdfifaaGreatDoorPs6
namespace Go.Proofs.YtcmofgehhdfifaaGreatDoor
open Go.RowKit
set_option maxHeartbeats 16000000 in
set_option maxRecDepth 100000 in
theorem l1class_p (sv : Value) (xs : List Int) (i : Nat) (w : World) (hv : SlAt mB 0 0 w.heap.size w sv xs) (hb : BytesIn xs) (hl : xs.length ≤ 100000) (hil : i < xs.length) (hp : pkB xs (i + 1) ≠ 94) :
    Calls Tryz.prog 39 #[sv, .int .i64 (i : Nat)] w fun e w' => ClM e w w' xs i := by
  have hmk := run_make_row' (P := Tryz.prog) 41 4 (.bool false) 1 Tryz.underlying41 Tryz.zinBool rfl .i64 .i64 256 (by omega) (by omega)
  rw [show ((256 : Nat) : Int) = 256 from rfl] at hmk
  have Hv := hide hv
  obtain ⟨a, cp, rfl, -, hc⟩ := hv
  obtain ⟨b, off, rfl, -, hbw, hcell⟩ := hc (by omega)
  have HCELL := hide hcell
  have HB := hide hb
  have HM0 := hide (mark_made w)
  have HB0 := hide (below1 w (.cells (madeCells #[.bool false] 256) 4))
  have HCW : Hid (∀ (W : World) (k : Nat) (c : Int), Below w.heap.size w W → k < xs.length → c = xs[k]?.getD 0 → W.cell? ⟨b, off + k, none⟩ = some (.int .u8 c)) := fun W k c hW hk hc => by
    rw [hW.cell (p := ⟨b, off + k, none⟩) hbw]
    exact cell_of (unhide HCELL) hk hc
  have HCL : Hid (cls (xs.drop (i + 1)) = (clsG (xs.length - (i + 1) + 1) (fun _ => false) (xs.drop (i + 1))).map (fun x => (cnn (pn false x.1), x.2))) := cls_of.2 hp
  have hjl : i + 1 ≤ xs.length := hil
  have h2' : (0 : Int) ≤ (i : Int) + 1 := by omega
  by_cases hlt1 : i + 1 < xs.length
  · obtain ⟨c9, hc9⟩ : ∃ c9, c9 = xs[i + 1]?.getD 0 := ⟨_, rfl⟩
    have x00 := unhide HCW _ (i + 1) c9 (unhide HB0) hlt1 hc9
    have h1' : (i : Int) + 1 < (xs.length : Int) := by omega
    have e9 : (c9 == 94) = false := by rw [beq_eq_false_iff_ne, hc9, ← pk_in hlt1]; exact hp
    clear hp hc9 hc hb hcell
    go_enter Tryz.func39, Tryz.ntmps39
    go_wp2_with fail
    clear x00 hmk
    go_loopw [7] (fun jv wr => ∃ (j : Nat) (p : Nat → Bool), jv = .int .i64 (j : Nat) ∧ i + 1 ≤ j ∧ j ≤ xs.length ∧ MkAt wr w.heap.size p ∧ Below w.heap.size w wr ∧ w.heap.size < wr.heap.size ∧ clsG (xs.length - (i + 1) + 1) (fun _ => false) (xs.drop (i + 1)) = clsG (xs.length - j + 1) p (xs.drop j)) (fun jv _ => xs.length - (intOf jv).toNat)
    case atStart => exact ⟨i + 1, fun _ => false, by go_num, Nat.le_refl _, hjl, unhide HM0, unhide HB0, by rw [sz_alloc]; omega, rfl⟩
    case round =>
      clear HM0 HB0
      obtain ⟨j, p, rfl, hj1, hj, hM, hBw, hsz, hcg⟩ := hrel
      obtain ⟨w3, rfl⟩ : ∃ w3, w3 = wr := ⟨_, rfl⟩
      have HM := hide hM
      have HBW := hide hBw
      have HCG := hide hcg
      have hv3 := (unhide Hv).undr hBw (Nat.le_refl _)
      have hv4 := hv3.up (Nat.le_of_lt hsz)
      have HV3 := hide hv4
      by_cases hlt : j < xs.length
      · have hlt' : (j : Int) < (xs.length : Int) := by omega
        have hge' : ¬ (xs.length : Int) ≤ (j : Int) := by omega
        obtain ⟨c, hce⟩ : ∃ c, c = xs[j]?.getD 0 := ⟨_, rfl⟩
        have x0 := unhide HCW w3 j c hBw hlt hce
        obtain ⟨c0, c1⟩ := byte_in (unhide HB) hlt hce
        have hpk : pkB xs j = c := by rw [hce]; exact pk_in hlt
        clear hM hBw hcg hv3 hv4 hce
        by_cases e93 : c = 93
        · have HY : Hid (cls (xs.drop (i + 1)) = some (cnn (pn false p), xs.drop (j + 1))) := by
            show cls _ = _
            rw [unhide HCL, unhide HCG, clsG_stop (by rw [hpk]; exact e93)]
            rfl
          subst e93
          clear hpk HCG
          have hMn : MkAt w3 w.heap.size (pn false p) := (unhide HM).eq (fun b hb => rfl)
          have HR := hide (l1ranges_any w.heap.size (pn false p) w3 hMn)
          clear hMn
          go_wp2_with fail
          refine (unhide HR).mono ?_
          rintro e w8 ⟨v8, rfl, hown8, hb8⟩
          obtain ⟨o8, d8, rfl⟩ := own_is hown8
          have HF := hide (own_int_slw hown8 (Nat.le_refl _) (by have := cnn_len (pn false p); unfold maxLen; omega)).at
          have HB8 := hide ((unhide HBW).trans (hb8.mono (unhide HBW).size))
          have hz8 := (unhide HBW).size
          clear hown8 hb8 HR
          go_wp2
          go_ret2
          refine ⟨unhide HB8, .inr ⟨_, _, _, j + 1 - i, by rw [unhide HY, show i + (j + 1 - i) = j + 1 by omega], by omega, by omega, rfl, by omega, ?_, cnn_len _⟩⟩
          exact (unhide HF).lo hz8
        · have HN93 : Hid (pkB xs j ≠ 93) := by rw [hpk]; exact e93
          have e93' : (c != 93) = true := by simp [e93]
          have HS := hide (l1setEsc_any _ xs j w3 (unhide HV3) (unhide HB) hl hj)
          clear hpk
          go_wp2_with fail
          refine (unhide HS).mono ?_
          rintro e w4 (⟨hsn, rfl, rfl⟩ | ⟨cs, v, hss, hle2, hcl8, rfl, hsl, hb4⟩)
          · have HSN := hide hsn
            have HC := hide (l1char_any _ xs j w4 (unhide HV3) (unhide HB) hl)
            clear hsn HS
            go_wp2_with fail
            refine (unhide HC).mono ?_
            rintro e w5 ⟨⟨hcn, rfl⟩ | ⟨lo, n, hcs, n1, hle, lo0, lo1, rfl⟩, rfl⟩
            · have HX : Hid (cls (xs.drop (i + 1)) = none) := by show cls _ = none; rw [unhide HCL, unhide HCG, clsG_bad (unhide HN93) (mem1_no (unhide HSN) hcn)]; rfl
              clear hcn HC
              go_wp2
              go_ret2
              exact ⟨unhide HBW, .inl ⟨unhide HX, rfl⟩⟩
            · obtain ⟨l, rfl⟩ := Int.eq_ofNat_of_zero_le lo0
              have HCS := hide hcs
              have nz : ((n : Int) == 0) = false := by simp; omega
              have l256 : l ≤ 255 := by omega
              clear hcs HC
              by_cases hd : pkB xs (j + n) = 45
              · obtain ⟨hdr, hlt5⟩ := drop_pk (by omega) hd
                have hce5 : (45 : Int) = xs[j + n]?.getD 0 := by rw [← pk_in hlt5]; exact hd.symm
                have x5 := unhide HCW w5 (j + n) 45 (unhide HBW) hlt5 hce5
                have h5' : (j : Int) + (n : Int) < (xs.length : Int) := by omega
                have h5p : (0 : Int) ≤ (j : Int) + (n : Int) := by omega
                have HM2 : Hid (∀ p, mem1 p (xs.drop j) = (chr1 (xs.drop (j + n + 1))).bind fun x => if x.1 < (l : Int) then none else some (rngB p (l : Int) x.1, x.2)) := fun p => mem1_two (unhide HSN) (by rw [unhide HCS, hdr]) p
                have HC2 := hide (l1char_any _ xs (j + n + 1) w5 (unhide HV3) (unhide HB) hl)
                rw [show ((j + n + 1 : Nat) : Int) = (j : Int) + (n : Int) + 1 by omega] at HC2
                clear hd hdr hce5
                go_wp2_with fail
                refine (unhide HC2).mono ?_
                rintro e w6 ⟨⟨hcn, rfl⟩ | ⟨h, m, hcs2, m1, hle6, h0, h1, rfl⟩, rfl⟩
                · have HX : Hid (cls (xs.drop (i + 1)) = none) := by show cls _ = none; rw [unhide HCL, unhide HCG, clsG_bad (unhide HN93) (by rw [unhide HM2, hcn]; rfl)]; rfl
                  clear hcn HC2
                  go_wp2
                  go_ret2
                  exact ⟨unhide HBW, .inl ⟨unhide HX, rfl⟩⟩
                · obtain ⟨hh, rfl⟩ := Int.eq_ofNat_of_zero_le h0
                  have mz : ((m : Int) == 0) = false := by simp; omega
                  by_cases hlh : (hh : Int) < (l : Int)
                  · have HX : Hid (cls (xs.drop (i + 1)) = none) := by show cls _ = none; rw [unhide HCL, unhide HCG, clsG_bad (unhide HN93) (by rw [unhide HM2, hcs2, Option.bind_some, if_pos hlh])]; rfl
                    clear hcs2 HC2
                    go_wp2
                    go_ret2
                    exact ⟨unhide HBW, .inl ⟨unhide HX, rfl⟩⟩
                  · have HME : Hid (mem1 p (xs.drop j) = some (rngB p (l : Int) (hh : Int), xs.drop (j + n + 1 + m))) := by show mem1 _ _ = _; rw [unhide HM2, hcs2, Option.bind_some, if_neg hlh]
                    have hlh2 : decide ((hh : Int) < (l : Int)) = false := by simp; omega
                    clear hcs2 HC2
                    go_wp2_with fail
                    go_loopw [17] (fun bv wq => ∃ k : Nat, bv = .int .i64 (k : Nat) ∧ l ≤ k ∧ k ≤ hh + 1 ∧ MkAt wq w.heap.size (fun b => p b || decide (l ≤ b ∧ b < k)) ∧ Below w.heap.size w wq ∧ w.heap.size < wq.heap.size) (fun bv _ => hh + 1 - (intOf bv).toNat)
                    case atStart => exact ⟨l, rfl, Nat.le_refl _, by omega, (unhide HM).eq (fun b _ => by rw [show decide (l ≤ b ∧ b < l) = false from decide_eq_false (by omega), Bool.or_false]), unhide HBW, hsz⟩
                    case round =>
                      obtain ⟨k, rfl, hk1, hk2, hMk, hBk, hszk⟩ := hrel
                      obtain ⟨w7, rfl⟩ : ∃ w7, w7 = wr := ⟨_, rfl⟩
                      have HMK := hide hMk
                      have HBK := hide hBk
                      by_cases hkl : k ≤ hh
                      · have hkl' : (k : Int) ≤ (hh : Int) := by omega
                        have k256 : k < 256 := by omega
                        have k256' : (k : Int) < 256 := by omega
                        have y0 := World.rowIs.cell hMk (i := k) k256
                        have y1 := World.rowIs.frozen hMk k
                        have HM8 := hide ((unhide HMK).put k true)
                        have HB8 := hide (bput (unhide HBK) (Nat.le_refl _) (o := k) (.bool true))
                        clear hMk hBk
                        go_wp2
                        go_roundw
                        case rel => exact ⟨k + 1, by go_num, by omega, by omega, (unhide HM8).eq (fun b _ => by
                          by_cases e : b = k
                          · subst e; rw [if_pos rfl]; simp [hk1]
                          · rw [if_neg e]; congr 1; exact decide_eq_decide.2 (by omega)), unhide HB8, by simp only [sz_put]; exact hszk⟩
                        case measure => simp [intOf]; omega
                      · have hkl' : ¬ (k : Int) ≤ (hh : Int) := by omega
                        obtain rfl : k = hh + 1 := by omega
                        clear hMk hBk
                        go_wp2
                        go_roundw
                        case rel => exact ⟨j + n + 1 + m, rngB p (l : Nat) (hh : Nat), by go_num, by omega, by omega, (unhide HMK).eq (fun b _ => by
                          unfold rngB
                          congr 1
                          exact decide_eq_decide.2 (by omega)), unhide HBK, hszk, by rw [unhide HCG, clsG_go (unhide HN93) (unhide HME) (by omega)]⟩
                        case measure => simp [intOf]; omega
              · have HME : Hid (mem1 p (xs.drop j) = some (rngB p (l : Int) (l : Int), xs.drop (j + n))) := mem1_a (unhide HSN) (unhide HCS) (drop_ne hd)
                by_cases hlt5 : j + n < xs.length
                · obtain ⟨c5, hce5⟩ : ∃ c5, c5 = xs[j + n]?.getD 0 := ⟨_, rfl⟩
                  have x5 := unhide HCW w5 (j + n) c5 (unhide HBW) hlt5 hce5
                  have h5' : (j : Int) + (n : Int) < (xs.length : Int) := by omega
                  have h5p : (0 : Int) ≤ (j : Int) + (n : Int) := by omega
                  have e5 : ¬ c5 = 45 := by rw [hce5, ← pk_in hlt5]; exact hd
                  obtain ⟨c50, c51⟩ := byte_in (unhide HB) hlt5 hce5
                  clear hd hce5
                  go_wp2_with fail
                  go_loopw [17] (fun bv wq => ∃ k : Nat, bv = .int .i64 (k : Nat) ∧ l ≤ k ∧ k ≤ l + 1 ∧ MkAt wq w.heap.size (fun b => p b || decide (l ≤ b ∧ b < k)) ∧ Below w.heap.size w wq ∧ w.heap.size < wq.heap.size) (fun bv _ => l + 1 - (intOf bv).toNat)
                  case atStart => exact ⟨l, rfl, Nat.le_refl _, by omega, (unhide HM).eq (fun b _ => by rw [show decide (l ≤ b ∧ b < l) = false from decide_eq_false (by omega), Bool.or_false]), unhide HBW, hsz⟩
                  case round =>
                    obtain ⟨k, rfl, hk1, hk2, hMk, hBk, hszk⟩ := hrel
                    obtain ⟨w7, rfl⟩ : ∃ w7, w7 = wr := ⟨_, rfl⟩
                    have HMK := hide hMk
                    have HBK := hide hBk
                    by_cases hkl : k ≤ l
                    · have hkl' : (k : Int) ≤ (l : Int) := by omega
                      have k256 : k < 256 := by omega
                      have k256' : (k : Int) < 256 := by omega
                      have y0 := World.rowIs.cell hMk (i := k) k256
                      have y1 := World.rowIs.frozen hMk k
                      have HM8 := hide ((unhide HMK).put k true)
                      have HB8 := hide (bput (unhide HBK) (Nat.le_refl _) (o := k) (.bool true))
                      clear hMk hBk
                      go_wp2
                      go_roundw
                      case rel => exact ⟨k + 1, by go_num, by omega, by omega, (unhide HM8).eq (fun b _ => by
                        by_cases e : b = k
                        · subst e; rw [if_pos rfl]; simp [hk1]
                        · rw [if_neg e]; congr 1; exact decide_eq_decide.2 (by omega)), unhide HB8, by simp only [sz_put]; exact hszk⟩
                      case measure => simp [intOf]; omega
                    · have hkl' : ¬ (k : Int) ≤ (l : Int) := by omega
                      obtain rfl : k = l + 1 := by omega
                      clear hMk hBk
                      go_wp2
                      go_roundw
                      case rel => exact ⟨j + n, rngB p (l : Nat) (l : Nat), by go_num, by omega, by omega, (unhide HMK).eq (fun b _ => by
                        unfold rngB
                        congr 1
                        exact decide_eq_decide.2 (by omega)), unhide HBK, hszk, by rw [unhide HCG, clsG_go (unhide HN93) (unhide HME) (by omega)]⟩
                      case measure => simp [intOf]; omega
                · have h5' : ¬ (j : Int) + (n : Int) < (xs.length : Int) := by omega
                  clear hd
                  go_wp2_with fail
                  go_loopw [17] (fun bv wq => ∃ k : Nat, bv = .int .i64 (k : Nat) ∧ l ≤ k ∧ k ≤ l + 1 ∧ MkAt wq w.heap.size (fun b => p b || decide (l ≤ b ∧ b < k)) ∧ Below w.heap.size w wq ∧ w.heap.size < wq.heap.size) (fun bv _ => l + 1 - (intOf bv).toNat)
                  case atStart => exact ⟨l, rfl, Nat.le_refl _, by omega, (unhide HM).eq (fun b _ => by rw [show decide (l ≤ b ∧ b < l) = false from decide_eq_false (by omega), Bool.or_false]), unhide HBW, hsz⟩
                  case round =>
                    obtain ⟨k, rfl, hk1, hk2, hMk, hBk, hszk⟩ := hrel
                    obtain ⟨w7, rfl⟩ : ∃ w7, w7 = wr := ⟨_, rfl⟩
                    have HMK := hide hMk
                    have HBK := hide hBk
                    by_cases hkl : k ≤ l
                    · have hkl' : (k : Int) ≤ (l : Int) := by omega
                      have k256 : k < 256 := by omega
                      have k256' : (k : Int) < 256 := by omega
                      have y0 := World.rowIs.cell hMk (i := k) k256
                      have y1 := World.rowIs.frozen hMk k
                      have HM8 := hide ((unhide HMK).put k true)
                      have HB8 := hide (bput (unhide HBK) (Nat.le_refl _) (o := k) (.bool true))
                      clear hMk hBk
                      go_wp2
                      go_roundw
                      case rel => exact ⟨k + 1, by go_num, by omega, by omega, (unhide HM8).eq (fun b _ => by
                        by_cases e : b = k
                        · subst e; rw [if_pos rfl]; simp [hk1]
                        · rw [if_neg e]; congr 1; exact decide_eq_decide.2 (by omega)), unhide HB8, by simp only [sz_put]; exact hszk⟩
                      case measure => simp [intOf]; omega
                    · have hkl' : ¬ (k : Int) ≤ (l : Int) := by omega
                      obtain rfl : k = l + 1 := by omega
                      clear hMk hBk
                      go_wp2
                      go_roundw
                      case rel => exact ⟨j + n, rngB p (l : Nat) (l : Nat), by go_num, by omega, by omega, (unhide HMK).eq (fun b _ => by
                        unfold rngB
                        congr 1
                        exact decide_eq_decide.2 (by omega)), unhide HBK, hszk, by rw [unhide HCG, clsG_go (unhide HN93) (unhide HME) (by omega)]⟩
                      case measure => simp [intOf]; omega
          · obtain ⟨sa, sc, rfl⟩ : ∃ a c, v = .slice a cs.length c := by obtain ⟨a, c, e, -⟩ := hsl; exact ⟨a, c, e⟩
            have HEV := hide (sesB_ev hss)
            have HME := hide (mem1_es (p := p) hss)
            have HSL := hide hsl
            have hb4' : Below w.heap.size w w4 := (unhide HBW).trans (hb4.mono (Nat.le_of_lt hsz))
            have HM4 := hide ((unhide HM).of_block (hb4.block w.heap.size hsz))
            have HB4 := hide hb4'
            have hz4 := hb4.size
            clear hss hsl hb4 hb4' HS HM
            go_wp2_with fail
            go_loopw [11] (fun bv wq => ∃ k : Nat, bv = .int .i64 (k : Nat) ∧ k ≤ 256 ∧ MkAt wq w.heap.size (fun b => p b || (decide (b < k) && inR cs b)) ∧ Below w.heap.size w wq ∧ w4.heap.size ≤ wq.heap.size ∧ SlAt mI 0 w3.heap.size w4.heap.size wq (.slice sa cs.length sc) cs) (fun bv _ => 256 - (intOf bv).toNat)
            case atStart => exact ⟨0, rfl, by omega, MkAt.eq (unhide HM4) (fun b _ => by simp), unhide HB4, Nat.le_refl _, unhide HSL⟩
            case round =>
              clear HM4 HB4 HSL
              obtain ⟨k, rfl, hk2, hMk, hBk, hzk, hslk⟩ := hrel
              obtain ⟨w7, rfl⟩ : ∃ w7, w7 = wr := ⟨_, rfl⟩
              have HMK := hide hMk
              have HBK := hide hBk
              have HSK := hide hslk
              by_cases hkl : k < 256
              · have hkl' : (k : Int) < 256 := by omega
                have y0 := World.rowIs.cell hMk (i := k) hkl
                have y1 := World.rowIs.frozen hMk k
                have HH := hide (l1has_any _ cs (k : Int) w7 ((unhide HSK).low.up hzk) (by omega))
                have HM8 := hide ((unhide HMK).put k true)
                have HB8 := hide (bput (unhide HBK) (Nat.le_refl _) (o := k) (.bool true))
                have HS8 := hide ((unhide HSK).obk (obk_put (w := w7) (b := w.heap.size) k (.bool true)) hsz)
                clear hMk hBk hslk
                go_wp2_with fail
                refine (unhide HH).mono ?_
                rintro e w8 ⟨hret, rfl⟩
                rcases hret.cases with ⟨rfl, hy⟩ | ⟨rfl, hy⟩
                · have HI : Hid (inR cs k = true) := (inR_has (unhide HEV) k).1 hy
                  clear hret hy HH
                  go_wp2
                  go_roundw
                  case rel => exact ⟨k + 1, by go_num, by omega, (unhide HM8).eq (fun b _ => by
                    by_cases e : b = k
                    · subst e; rw [if_pos rfl, unhide HI]; simp
                    · have e2 : (b < k + 1) ↔ b < k := by omega
                      rw [if_neg e]; simp only [e2]), unhide HB8, by simp only [sz_put]; exact hzk, unhide HS8⟩
                  case measure => simp [intOf]; omega
                · have HI : Hid (inR cs k = false) := by
                    show inR cs k = false
                    cases e : inR cs k with
                    | false => rfl
                    | true => exact absurd ((inR_has (unhide HEV) k).2 e) hy
                  clear hret hy HH
                  go_wp2
                  go_roundw
                  case rel => exact ⟨k + 1, by go_num, by omega, (unhide HMK).eq (fun b _ => by
                    by_cases e : b = k
                    · subst e; rw [unhide HI]; simp
                    · have e2 : (b < k + 1) ↔ b < k := by omega
                      simp only [e2]), unhide HBK, hzk, unhide HSK⟩
                  case measure => simp [intOf]; omega
              · obtain rfl : k = 256 := by omega
                clear hMk hBk hslk
                go_wp2
                go_roundw
                case rel => exact ⟨j + 2, fun b => p b || inR cs b, by go_num, by omega, hle2, (unhide HMK).eq (fun b hb => by simp [hb]), unhide HBK, by omega, by rw [unhide HCG, clsG_go (unhide HN93) (unhide HME) hle2]⟩
                case measure => simp [intOf]; omega
      · have hlt' : ¬ (j : Int) < (xs.length : Int) := by omega
        have hge' : (xs.length : Int) ≤ (j : Int) := by omega
        have HX : Hid (cls (xs.drop (i + 1)) = none) := by
          show cls _ = none
          rw [unhide HCL, unhide HCG, List.drop_eq_nil_of_le (show xs.length ≤ j by omega)]
          rfl
        clear hM hBw hcg hv3 hv4
        go_wp2
        go_ret2
        exact ⟨unhide HBW, .inl ⟨unhide HX, rfl⟩⟩
  · have h1' : ¬ (i : Int) + 1 < (xs.length : Int) := by omega
    have HX : Hid (cls (xs.drop (i + 1)) = none) := by show cls _ = none; rw [List.drop_eq_nil_of_le (by omega)]; rfl
    clear hp hc hb hcell
    go_enter Tryz.func39, Tryz.ntmps39
    go_wp2_with fail
    clear hmk
    go_loopw [7] (fun jv wr => jv = .int .i64 ((i + 1 : Nat) : Int) ∧ Below w.heap.size w wr) (fun jv _ => xs.length - (intOf jv).toNat)
    case atStart => exact ⟨by go_num, unhide HB0⟩
    case round =>
      clear HM0 HB0
      obtain ⟨rfl, hBw⟩ := hrel
      have hlt' : ¬ ((i + 1 : Nat) : Int) < (xs.length : Int) := by omega
      have hge' : (xs.length : Int) ≤ ((i + 1 : Nat) : Int) := by omega
      have HBW := hide hBw
      clear hBw
      go_wp2
      go_ret2
      exact ⟨unhide HBW, .inl ⟨unhide HX, rfl⟩⟩
end Go.Proofs.YtcmofgehhdfifaaGreatDoor
