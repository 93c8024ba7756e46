import Derived.Test.YtcmofgehhdfifaaGreatDoorPk17
import Derived.Deep.RegionHeld3
namespace Go.Proofs.YtcmofgehhdfifaaGreatDoor
open Go.RowKit
set_option maxHeartbeats 16000000 in
set_option maxRecDepth 100000 in
theorem bd_grp_rep (ts : List Tk) (hl : ts.length ≤ 100000) (hw : wl 0 ts = some 0) (pre mid : List Tk) (lo hi : Int) (hts : ts = pre ++ (.inr (.inr (.inl true)) :: (mid ++ [.inr (.inr (.inl false))])) ++ [.inr (.inl (lo, hi))]) (hnb : NoBar ts) (Hp : BdS pre) (hmid : wl 0 mid = some 0) (Hm : BdS mid) (hNt : ∀ t ∈ ts, TokN t) : BdS ts := by
  intro v w hv
  have hv0 := hv
  obtain ⟨a, cp, rfl, hcap, hc⟩ := hv
  rw [List.length_map] at hcap hc hv0 ⊢
  obtain ⟨n, hn⟩ : ∃ n, n = ts.length := ⟨_, rfl⟩
  rw [← hn] at hcap hc hv0 hl ⊢
  have HN := hide hn
  have HV := hide hv0
  have HC := hide hc
  have HW0 := hide hw
  unfold maxLen at hcap
  clear hc hv0 hw hn
  go_enter Tryz.func22, Tryz.ntmps22
  go_wp2_with fail
  go_loop [4, 5, 6] (fun bv dv iv => ∃ (i k : Nat) (B : Int), i ≤ n ∧ iv = .int .i64 (i : Nat) ∧ dv = .int .i64 (k : Nat) ∧ bv = .int .i64 B ∧ BarI ts i B k ∧ k ≤ i ∧ -1 ≤ B ∧ B < (i : Int)) (fun _ _ iv => n - (intOf iv).toNat)
  case atStart => exact ⟨0, 0, -1, Nat.zero_le _, rfl, rfl, rfl, BarI.start ts, Nat.le_refl _, by omega, by omega⟩
  case round =>
    obtain ⟨i, k, B, hin, rfl, rfl, rfl, hB, hk, hB1, hB2⟩ := hrel
    have HBI := hide hB
    clear hB
    by_cases hlt : i < n
    · have hlt' : (i : Int) < (n : Int) := by omega
      have hltt : i < ts.length := by rw [← unhide HN]; exact hlt
      obtain ⟨b, off, rfl, -, -, hel⟩ := unhide HC (by omega)
      obtain ⟨t, ht⟩ : ∃ t, ts[i]? = some t := ⟨ts[i], List.getElem?_eq_getElem hltt⟩
      have c0 : w.cell? ⟨b, off + i * 4, none⟩ = some (.int .i64 (tkE t).kind) := kind_at (fun j hj => hel j (by rw [List.length_map, ← unhide HN] at hj; exact hj)) ht
      have HT := hide ht
      have hwk : ∃ k', wl k [t] = some k' := by
        have e : ts = ts.take (i + 1) ++ ts.drop (i + 1) := (List.take_append_drop _ _).symm
        have h9 := unhide HW0
        rw [e, wl_app, take_snoc ht, wl_snoc (unhide HBI).1] at h9
        cases e9 : wl k [t] with
        | none => rw [e9] at h9; cases h9
        | some k' => exact ⟨k', rfl⟩
      clear hel ht HC hltt
      by_cases e2 : (tkE t).kind = 2
      · have et := tkE_op.1 e2
        rw [e2] at c0
        subst et
        have HB9 := hide ((unhide HBI).go (k' := k + 1) (unhide HT) rfl (fun e => by cases e))
        clear e2 hwk
        go_wp2
        go_round
        case rel => exact ⟨i + 1, k + 1, B, by omega, by go_num, by go_num, rfl, unhide HB9, by omega, hB1, by omega⟩
        case measure => simp [intOf]; omega
      by_cases e3 : (tkE t).kind = 3
      · have et := tkE_cl.1 e3
        rw [e3] at c0
        subst et
        clear e2 e3
        cases k with
        | zero => obtain ⟨k', h⟩ := hwk; cases h
        | succ k =>
          have HB9 := hide ((unhide HBI).go (k' := k) (unhide HT) rfl (fun e => by cases e))
          clear hwk
          go_wp2
          go_round
          case rel => exact ⟨i + 1, k, B, by omega, by go_num, by go_num, rfl, unhide HB9, by omega, hB1, by omega⟩
          case measure => simp [intOf]; omega
      by_cases e4 : (tkE t).kind = 4
      · have et := tkE_bar.1 e4
        rw [e4] at c0
        subst et
        clear e2 e3 e4 hwk
        by_cases k0 : k = 0
        · subst k0
          have HB9 := hide ((unhide HBI).bar (unhide HT))
          go_wp2
          go_round
          case rel => exact ⟨i + 1, 0, (i : Nat), by omega, by go_num, rfl, rfl, unhide HB9, by omega, by omega, by omega⟩
          case measure => simp [intOf]; omega
        · have k1 : ((k : Int) == 0) = false := by simp; omega
          have HB9 := hide ((unhide HBI).go (k' := k) (unhide HT) rfl (fun _ => k0))
          clear k0
          go_wp2
          go_round
          case rel => exact ⟨i + 1, k, B, by omega, by go_num, rfl, rfl, unhide HB9, by omega, hB1, by omega⟩
          case measure => simp [intOf]; omega
      · have hoth : wl k [t] = some k := by
          rcases t with cs | ⟨lo, hi⟩ | (_ | _) | _
          · rfl
          · rfl
          · exact absurd rfl e3
          · exact absurd rfl e2
          · exact absurd rfl e4
        have HB9 := hide ((unhide HBI).go (unhide HT) hoth (fun e => absurd (tkE_bar.2 e) e4))
        obtain ⟨kd, hkd⟩ : ∃ kd, kd = (tkE t).kind := ⟨_, rfl⟩
        rw [← hkd] at e2 e3 e4 c0
        clear hkd hwk hoth
        have e4' : (kd == 4) = false := by simp [e4]
        go_wp2
        go_round
        case rel => exact ⟨i + 1, k, B, by omega, by go_num, rfl, rfl, unhide HB9, by omega, hB1, by omega⟩
        case measure => simp [intOf]; omega
    · obtain rfl : i = n := by omega
      have hBI := unhide HBI
      rw [unhide HN] at hBI
      clear HBI
      have hlt' : ¬ (i : Int) < (i : Int) := by omega
      obtain rfl : B = -1 := hBI.no hnb
      obtain ⟨p, hp⟩ : ∃ p, p = pre.length := ⟨_, rfl⟩
      obtain ⟨M, hM⟩ : ∃ M, M = mid.length := ⟨_, rfl⟩
      obtain ⟨S, hS⟩ : ∃ S, S = p + 1 + M := ⟨_, rfl⟩
      have hiE : i = S + 2 := by rw [unhide HN, hts, hS, hM, hp]; simp; try omega
      obtain ⟨E, hE⟩ : ∃ E, E = S + 1 := ⟨_, rfl⟩
      have eN : (i : Int) - 1 = (E : Int) := by omega
      have e1 : (E : Int) - 1 = (S : Int) := by omega
      have hE1 : (0 : Int) ≤ (E : Int) := by omega
      have hE2 : (E : Int) < (i : Int) := by omega
      have E0 : ((E : Int) == 0) = false := by simp; omega
      have h1i : (0 : Int) < (i : Int) := by omega
      have hni : ((i : Int) == 0) = false := by simp; omega
      have hS1 : (0 : Int) ≤ (S : Int) := by omega
      have hS2 : (S : Int) < (i : Int) := by omega
      have hpS : p ≤ S := by omega
      obtain ⟨b, off, rfl, -, hbw, hel⟩ := unhide HC (by omega)
      have htS : ts[S]? = some (.inr (.inr (.inl false))) := by
        rw [hts, hS, hM, hp]
        simp only [List.append_assoc, List.cons_append]
        rw [List.getElem?_append_right (by omega), show pre.length + 1 + mid.length - pre.length = mid.length + 1 by omega, List.getElem?_cons_succ, List.getElem?_append_right (Nat.le_refl _)]
        simp
      obtain ⟨-, -, -, sv8, c1, c2, -, -, hints⟩ := el_at (unhide HN) hel htS
      have c10 : w.cell? ⟨b, off + S * 4, none⟩ = some (.int .i64 3) := c1
      have htE : ts[E]? = some (.inr (.inl (lo, hi))) := by
        rw [hts, hE, hS, hM, hp, List.getElem?_append_right (by simp; try omega)]
        simp [show pre.length + 1 + mid.length + 1 - (pre.length + (mid.length + 1 + 1)) = 0 by omega]
      obtain ⟨-, -, -, sv9, d0, -, d2, d3, -⟩ := el_at (unhide HN) hel htE
      have d00 : w.cell? ⟨b, off + E * 4, none⟩ = some (.int .i64 5) := d0
      have HE2 : Hid (w.cell? ⟨b, off + E * 4 + 2, none⟩ = some (.int .i64 lo)) := d2
      have HE3 : Hid (w.cell? ⟨b, off + E * 4 + 3, none⟩ = some (.int .i64 hi)) := d3
      obtain ⟨⟨q1, q2⟩, q3, q4⟩ : (0 ≤ lo ∧ lo ≤ 9999) ∧ (-1 ≤ hi ∧ hi ≤ 9999) := hNt (.inr (.inl (lo, hi))) (by rw [hts]; simp)
      have HLO : Hid (In64 lo) := ⟨by omega, by omega⟩
      have HHI : Hid (In64 hi) := ⟨by omega, by omega⟩
      have HKEY := hide (key_1 hts hnb (.inr ⟨mid, rfl, hmid⟩))
      have HVP : Hid (ElsAt 0 w.heap.size w (.slice (some ⟨b, off, none⟩) p cp) (pre.map tkE)) := by
        show ElsAt _ _ _ _ _
        have h9 := unhide HV
        rw [hts, List.append_assoc, List.map_append] at h9
        have h8 := h9.pre
        rw [List.length_map, ← hp] at h8
        exact h8
      have HNP : Hid (∀ t ∈ pre, TokN t) := fun t ht => hNt t (by rw [hts]; simp [ht])
      have HLP : Hid (pre.length ≤ 100000) := by show _ ≤ _; rw [← hp]; omega
      have HP := hide hp
      have HSP := hide Hp
      have hpi : (p : Int) ≤ (i : Int) := by omega
      have hicp : (i : Int) ≤ (cp : Int) := by omega
      obtain ⟨Q, hQ⟩ : ∃ Q, Q = p + 1 := ⟨_, rfl⟩
      obtain ⟨pb, hslc, hpb⟩ := slice_mid b off i cp Q S (by omega) (by omega)
      have HVM : Hid (ElsAt 0 w.heap.size w (.slice (some ⟨b, pb, none⟩) (S - Q) (cp - Q)) (mid.map tkE)) := by
        show ElsAt _ _ _ _ _
        have hcq : cp ≠ Q := by omega
        have h9 := unhide HV
        rw [hts] at h9
        have e5 : (ts.map tkE) = (pre.map tkE ++ [tkE (.inr (.inr (.inl true)))]) ++ mid.map tkE ++ ([tkE (.inr (.inr (.inl false)))] ++ [tkE (.inr (.inl (lo, hi)))]) := by rw [hts]; simp
        rw [← hts, e5] at h9
        have h8 := h9.mid (cap' := cp - (p + 1)) (by rw [List.length_map, ← hM]; unfold maxLen; omega)
        rw [List.length_append, List.length_map, List.length_map, ← hp, ← hM, List.length_singleton] at h8
        rw [hpb hcq, show S - Q = M by omega, hQ]
        exact h8
      have HMID := hide hmid
      have HNM : Hid (∀ t ∈ mid, TokN t) := fun t ht => hNt t (by rw [hts]; simp [ht])
      have HSM := hide Hm
      have HSMW := hide (unhide HSM _ w (unhide HVM))
      have HKT : Hid (∀ s t, p < s → s < S → mid[s - p - 1]? = some t → w.cell? ⟨b, off + s * 4, none⟩ = some (.int .i64 (tkE t).kind)) := fun s t h1 h2 h3 => by
        have h4 : ts[s]? = some t := by
          rw [hts]
          simp only [List.append_assoc, List.cons_append]
          rw [List.getElem?_append_right (by omega), show s - pre.length = (s - p - 1) + 1 by omega, List.getElem?_cons_succ, List.getElem?_append_left (by omega)]
          exact h3
        obtain ⟨-, -, -, sv7, c7, -⟩ := el_at (unhide HN) hel h4
        exact c7
      have HKP : Hid (w.cell? ⟨b, off + p * 4, none⟩ = some (.int .i64 2)) := by
        have h4 : ts[p]? = some (.inr (.inr (.inl true))) := by
          rw [hts, hp]
          simp only [List.append_assoc, List.cons_append]
          rw [List.getElem?_append_right (Nat.le_refl _)]
          simp
        obtain ⟨-, -, -, sv7, c7, -⟩ := el_at (unhide HN) hel h4
        exact c7
      have HM := hide hM
      have ePQ : (p : Int) + 1 = (Q : Int) := by omega
      have hSM1 : S ≤ p + 1 + M := by omega
      have hSM2 : p + 1 + M ≤ S := by omega
      have hSi : S ≤ 100001 := by omega
      have HS := hide hS
      have hMp : M ≤ 100000 := by omega
      clear hBI hel c1 c2 d0 d2 d3 htE hE q1 q2 q3 q4 htS HC hiE hlt hlt' hk hin hts hints hnb Hp Hm hNt hp hmid hQ hM hS hpb
      go_wp2_with fail
      go_loop [13, 15] (fun sv dv => ∃ s D : Nat, sv = .int .i64 (s : Nat) ∧ dv = .int .i64 (D : Nat) ∧ MtI p mid s D) (fun sv _ => (intOf sv).toNat)
      case atStart => exact ⟨S, 1, rfl, rfl, by rw [unhide HS, unhide HM]; exact MtI.start p mid⟩
      case round =>
        obtain ⟨s, D, rfl, rfl, hI⟩ := hrel
        have hlo := hI.lo
        have hhi := hI.hi
        rw [← unhide HM] at hhi
        have hbd := hI.bd
        rw [← unhide HM] at hbd
        have HI := hide hI
        by_cases hsp : s = p
        · have hD : D = 0 := by
            rcases hI.st with ⟨-, h⟩ | ⟨h, -⟩
            · exact h
            · omega
          subst hD
          obtain rfl := hsp
          clear hI hlo hhi hbd
          have hD0 : ¬ (0 : Int) < ((0 : Nat) : Int) := by omega
          by_cases hs0 : (0 : Int) < (s : Int)
          all_goals
            go_wp2_with fail
            refine (unhide HSMW).mono ?_
            rintro e w1 ⟨hb1, ⟨hn1, rfl⟩ | ⟨X, v1, hX, rfl, hg1⟩⟩
            · have HX : Hid (∀ T, ¬ Gr 3 ts T) := fun T h => by
                obtain ⟨X9, h9, -⟩ := (unhide HKEY T).1 h
                exact hn1 X9 (gr_grp0.1 h9)
              have HB1 := hide hb1
              clear hn1 hb1
              go_wp2
              go_ret2
              exact ⟨unhide HB1, .inl ⟨unhide HX, rfl⟩⟩
            · have HGX : Hid (Gr 0 (.inr (.inr (.inl true)) :: (mid ++ [.inr (.inr (.inl false))])) X) := .grp hX
              have HNC := hide (gr_nice hX (unhide HNM))
              have hLX := (gr_len hX).2
              rw [← unhide HM] at hLX
              obtain ⟨o1, d1, rfl⟩ := hg1.form
              obtain ⟨nX, hnX⟩ : ∃ nX, nX = X.l.length := ⟨_, rfl⟩
              have HLX0 : Hid (X.l.length ≤ 300000) := by show _ ≤ _; omega
              rw [← hnX] at hg1 ⊢
              have HNX0 := hide hnX
              have HG1 := hide hg1
              have HB1 := hide hb1
              clear hg1 hb1 hnX hX hLX HSMW hs0 hD0
              have y2 : w1.cell? ⟨b, off + E * 4 + 2, none⟩ = some (.int .i64 lo) := by rw [(unhide HB1).cell (p := ⟨b, off + E * 4 + 2, none⟩) hbw]; exact unhide HE2
              have y3 : w1.cell? ⟨b, off + E * 4 + 3, none⟩ = some (.int .i64 hi) := by rw [(unhide HB1).cell (p := ⟨b, off + E * 4 + 3, none⟩) hbw]; exact unhide HE3
              have hEX := ((unhide HG1).els (unhide HNC)).below (m := w1.heap.size) (w' := w1.drew) ⟨rfl, rfl, rfl, Nat.le_refl _, fun _ _ => rfl⟩ (Nat.le_refl _)
              have HREP := hide (l1rep_w lo hi _ X.l w1.drew hEX (by have := unhide HLX0; omega) (unhide HNC).len)
              have hz7 := (unhide HB1).size
              have HS7 : Hid (∀ W', Below w.heap.size w W' → W'.cell? ⟨b, off + E * 4 + 2, none⟩ = some (.int .i64 lo) ∧ W'.cell? ⟨b, off + E * 4 + 3, none⟩ = some (.int .i64 hi)) := fun W' hb => ⟨by rw [hb.cell (p := ⟨b, off + E * 4 + 2, none⟩) hbw]; exact unhide HE2, by rw [hb.cell (p := ⟨b, off + E * 4 + 3, none⟩) hbw]; exact unhide HE3⟩
              have hwr : IntKind.i64.wrap (E : Int) = (E : Int) := by rw [IntKind.wrap_i64]; omega
              clear hEX
              go_wp2
              go_region_held3 (fun W' => W'.cell? ⟨b, off + E * 4 + 2, none⟩ = some (.int .i64 lo) ∧ W'.cell? ⟨b, off + E * 4 + 3, none⟩ = some (.int .i64 hi)) (first | (with_reducible exact hS7) | go_keep) (first | (go_at_call 45; (with_reducible refine (unhide HREP).mono ?_); rintro e w7 ⟨v7, rfl, hg7, hb7⟩; obtain ⟨o7, d7, rfl⟩ := hg7.form; have HG7 : Hid (GrowE w.heap.size w7 _ (Tr.rep X lo hi).l) := hg7.low hz7; have HB7 : Hid (Below w.heap.size w w7) := (unhide HB1).trans ⟨(hb7.mono hz7).os, (hb7.mono hz7).tape, (hb7.mono hz7).output, (hb7.mono hz7).size, (hb7.mono hz7).block⟩; clear hg7 hb7; obtain ⟨nY, hnY⟩ : ∃ nY, nY = (X.l ++ [(⟨4, [], lo, hi⟩ : El)]).length := ⟨_, rfl⟩; rw [← hnY] at HG7 ⊢; have HNX : Hid (nY = (Tr.rep X lo hi).l.length) := hnY; clear hnY; have hS7 := unhide HS7 w7 (unhide HB7)))
              all_goals
                have HLX : Hid ((Tr.rep X lo hi).l.length ≤ 300001) := by show (X.l ++ [_]).length ≤ _; rw [List.length_append, List.length_singleton]; have := unhide HLX0; omega
                have HNR : Hid (Nice (Tr.rep X lo hi).l) := (unhide HNC).app (Nice.op 4 lo hi (by simp [In64]) (unhide HLO) (unhide HHI))
                clear y2 y3 HREP HS7 hwr
                try clear hS7
                have hz8 := (unhide HB7).size
                by_cases p0 : s = 0
                · have p0' : ((s : Int) == 0) = true := by simp; omega
                  have HT : Hid (Gr 3 ts (Tr.rep X lo hi)) := (unhide HKEY _).2 ⟨_, unhide HGX, .inl ⟨List.eq_nil_of_length_eq_zero (by rw [← unhide HP]; exact p0), rfl⟩⟩
                  clear p0
                  go_wp2
                  go_ret2
                  exact ⟨unhide HB7, .inr ⟨Tr.rep X lo hi, _, unhide HT, rfl, unhide HG7⟩⟩
                · have p0' : ((s : Int) == 0) = false := by simp; omega
                  have HP0 : Hid (pre ≠ []) := fun e => p0 (by rw [unhide HP, e]; rfl)
                  have HSPW := hide (unhide HSP _ w7 ((unhide HVP).below (unhide HB7) (Nat.le_refl _)))
                  clear p0
                  go_wp2_with fail
                  refine (unhide HSPW).mono ?_
                  rintro e w8 ⟨hb8, ⟨hn8, rfl⟩ | ⟨A, v8, hA, rfl, hg8⟩⟩
                  · have HX : Hid (∀ T, ¬ Gr 3 ts T) := fun T h => by
                      obtain ⟨X9, -, ⟨h9, -⟩ | ⟨-, A, hA, -⟩⟩ := (unhide HKEY T).1 h
                      · exact unhide HP0 h9
                      · exact hn8 A hA
                    have HB8 := hide ((unhide HB7).trans (hb8.mono hz8))
                    clear hn8 hb8 HSPW
                    go_wp2
                    go_ret2
                    exact ⟨unhide HB8, .inl ⟨unhide HX, rfl⟩⟩
                  · obtain ⟨o8, d8, rfl⟩ := hg8.form
                    have HB8 := hide ((unhide HB7).trans (hb8.mono hz8))
                    have HT : Hid (Gr 3 ts (.cat A (Tr.rep X lo hi))) := (unhide HKEY _).2 ⟨_, unhide HGX, .inr ⟨unhide HP0, A, hA, rfl⟩⟩
                    have hLA := (gr_len hA).2
                    have hNA := gr_nice hA (unhide HNP)
                    have hEA := hg8.els hNA
                    have hEX := ((unhide HG7).els (unhide HNR)).below hb8 (Nat.le_refl _)
                    have hlX := unhide HLX
                    have hlP := unhide HLP
                    have HCAT := hide (l1cat_w _ _ A.l (Tr.rep X lo hi).l w8 hEA hEX (by omega) (by omega) hNA.len (unhide HNR).len)
                    obtain ⟨nA, hnA⟩ : ∃ nA, nA = A.l.length := ⟨_, rfl⟩
                    rw [← hnA] at HCAT ⊢
                    have hz9 := (unhide HB8).size
                    clear hg8 hb8 hA hLA hNA hEA hEX hlX hlP hnA HSPW
                    go_wp2_with fail
                    refine (unhide HCAT).mono ?_
                    rintro e w9 ⟨v9, rfl, hg9, hb9⟩
                    obtain ⟨o9, d9, rfl⟩ := hg9.form
                    have HG9 := hide (hg9.low hz9)
                    have HB9 := hide ((unhide HB8).trans (hb9.mono hz9))
                    obtain ⟨nC, hnC⟩ : ∃ nC, nC = (A.l ++ (Tr.rep X lo hi).l ++ [(⟨2, [], 0, 0⟩ : El)]).length := ⟨_, rfl⟩
                    rw [← hnC] at HG9 ⊢
                    clear hg9 hb9 hnC HCAT
                    go_wp2
                    go_ret2
                    exact ⟨unhide HB9, .inr ⟨.cat A (Tr.rep X lo hi), _, unhide HT, rfl, unhide HG9⟩⟩
        · have hps : p < s := by omega
          have hD1 : 1 ≤ D := by
            rcases hI.st with ⟨h, -⟩ | ⟨-, h, -⟩
            · omega
            · exact h
          have hs0 : (0 : Int) < (s : Int) := by omega
          have hD0 : (0 : Int) < (D : Int) := by omega
          have hss : (s : Int) - 1 = ((s - 1 : Nat) : Int) := by omega
          have hs2 : ((s - 1 : Nat) : Int) < (i : Int) := by omega
          have hs3 : (0 : Int) ≤ ((s - 1 : Nat) : Int) := by omega
          obtain ⟨z, hz⟩ : ∃ z, z = s - 1 := ⟨_, rfl⟩
          rw [← hz] at hss hs2 hs3
          have HZ := hide hz
          have hzs : z < s := by omega
          by_cases hs1 : s = p + 1
          · obtain ⟨hD, hI2⟩ := hI.op0 (unhide HMID) hs1
            subst hD
            have hzp : z = p := by omega
            have x0 := unhide HKP
            rw [← hzp] at x0
            have HI2 : Hid (MtI p mid z 0) := by rw [hzp]; exact hI2
            clear hI hI2 hz hlo hhi hbd hs1 hsp hps hzp HI HSMW
            go_wp2
            go_round
            case rel => exact ⟨z, 0, rfl, rfl, unhide HI2⟩
            case measure => simp [intOf]; omega
          · have hl5 : s - 1 - p - 1 < mid.length := by rw [← unhide HM]; omega
            obtain ⟨t, ht⟩ : ∃ t, mid[s - 1 - p - 1]? = some t := ⟨mid[s - 1 - p - 1], List.getElem?_eq_getElem hl5⟩
            obtain ⟨-, j1, j2, j3⟩ := hI.step (unhide HMID) (by omega) ht
            rw [← hz] at ht j1 j2 j3
            have x0 := unhide HKT z t (by omega) (by omega) ht
            clear hI hlo hhi hs1 hsp hps HI HSMW hl5 ht hz
            by_cases e3 : (tkE t).kind = 3
            · have HI2 := hide (j1 (tkE_cl.1 e3))
              rw [e3] at x0
              clear j1 j2 j3 e3
              go_wp2
              go_round
              case rel => exact ⟨z, D + 1, rfl, by go_num, unhide HI2⟩
              case measure => simp [intOf]; omega
            by_cases e2 : (tkE t).kind = 2
            · have HI2 := hide (j2 (tkE_op.1 e2))
              rw [e2] at x0
              clear j1 j2 j3 e2 e3
              go_wp2
              go_round
              case rel => exact ⟨z, D - 1, rfl, by go_num, unhide HI2⟩
              case measure => simp [intOf]; omega
            · have HI2 := hide (j3 (fun e => e3 (tkE_cl.2 e)) (fun e => e2 (tkE_op.2 e)))
              obtain ⟨kd, hkd⟩ : ∃ kd, kd = (tkE t).kind := ⟨_, rfl⟩
              rw [← hkd] at e2 e3 x0
              clear hkd j1 j2 j3
              go_wp2
              go_round
              case rel => exact ⟨z, D, rfl, rfl, unhide HI2⟩
              case measure => simp [intOf]; omega
end Go.Proofs.YtcmofgehhdfifaaGreatDoor
