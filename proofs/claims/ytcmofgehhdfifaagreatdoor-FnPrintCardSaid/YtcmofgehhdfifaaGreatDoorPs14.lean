import Derived.Test.YtcmofgehhdfifaaGreatDoorPs12
import Derived.Test.YtcmofgehhdfifaaGreatDoorPk19
import Derived.Test.YtcmofgehhdfifaaGreatDoorPs8
namespace Go.Proofs.YtcmofgehhdfifaaGreatDoor
open Go.RowKit
theorem ovr_deep {ts : List Tk} (h : 100 < mxd 0 ts) : ovr 100 250 0 ts = true := by unfold ovr; rw [decide_eq_true h]; rfl
theorem big_tk (t : Tk) : bigR 250 t = true ↔ 250 < (tkE t).mn ∨ 250 < (tkE t).mx := by
  rcases t with cs | ⟨lo, hi⟩ | (_ | _) | _ <;> simp [bigR, tkE]
theorem ovr_big {ts : List Tk} {i : Nat} {t : Tk} (h : ts[i]? = some t) (hb : 250 < (tkE t).mn ∨ 250 < (tkE t).mx) : ovr 100 250 0 ts = true := by
  unfold ovr
  have : ts.any (bigR 250) = true := List.any_eq_true.2 ⟨t, List.mem_of_getElem? h, (big_tk t).2 hb⟩
  rw [this, Bool.or_true]
theorem ovr_none {ts : List Tk} (h : ¬ 100 < mxd 0 ts) (hb : ∀ t ∈ ts, bigR 250 t = false) : ovr 100 250 0 ts = false := by
  unfold ovr
  have : ts.any (bigR 250) = false := by
    cases e : ts.any (bigR 250) with
    | false => rfl
    | true => obtain ⟨t, h1, h2⟩ := List.any_eq_true.1 e; rw [hb t h1] at h2; cases h2
  rw [this, decide_eq_false h]
  rfl
def NoBig (ts : List Tk) (i : Nat) : Prop := ∀ (j : Nat) (t : Tk), j < i → ts[j]? = some t → bigR 250 t = false
theorem NoBig.go {ts : List Tk} {i : Nat} {t : Tk} (h : NoBig ts i) (ht : ts[i]? = some t) (h1 : ¬ 250 < (tkE t).mn) (h2 : ¬ 250 < (tkE t).mx) : NoBig ts (i + 1) := fun j u hj hu => by
  rcases Nat.lt_or_ge j i with h3 | h3
  · exact h j u h3 hu
  · obtain rfl : j = i := by omega
    rw [ht] at hu
    cases hu
    cases e : bigR 250 t with
    | false => rfl
    | true => rcases (big_tk t).1 e with h9 | h9 <;> contradiction
theorem NoBig.all {ts : List Tk} {i : Nat} (h : NoBig ts i) (hi : ts.length ≤ i) : ∀ t ∈ ts, bigR 250 t = false := fun t ht => by
  obtain ⟨j, hj, e⟩ := List.getElem_of_mem ht
  exact h j t (by omega) (by rw [List.getElem?_eq_getElem hj, e])
theorem prs_no1 {s ys : List Int} (he : s = ys) (h : ∀ ts, ¬ Lxs ys ts []) (h2 : ∀ s', ys = s' ++ [36] → ∀ ts, ¬ Lxs s' ts []) : ∀ T ts b, ¬ Prs s T ts b := fun T ts b hp => by
  rw [he] at hp
  obtain ⟨-, ⟨-, h3⟩ | ⟨-, s', e, h3⟩⟩ := hp
  · exact h ts h3
  · exact h2 s' e ts h3
theorem bt_take {lo n b off k cap : Nat} {w : World} {xs : List Int} (hk : k ≤ xs.length) (hl : xs.length ≤ maxLen) (hb : lo ≤ b) (hbn : b < n) (hc : ∀ i : Nat, i < xs.length → w.cell? ⟨b, off + i, none⟩ = some (mB (xs[i]?.getD 0))) : SlAt mB 0 lo n w (.slice (some ⟨b, off, none⟩) k cap) (xs.take k) := by
  have e : (xs.take k).length = k := by simp; omega
  refine ⟨_, cap, by rw [e], by omega, fun _ => ⟨b, off, rfl, hb, hbn, fun i hi => ?_⟩⟩
  rw [e] at hi
  rw [hc i (by omega), List.getElem?_take, if_pos hi]
theorem bt_drop {lo n b off k m cap : Nat} {w : World} {xs : List Int} (hk : k + m = xs.length) (hl : xs.length ≤ maxLen) (hb : lo ≤ b) (hbn : b < n) (hc : ∀ i : Nat, i < xs.length → w.cell? ⟨b, off + i, none⟩ = some (mB (xs[i]?.getD 0))) : SlAt mB 0 lo n w (.slice (some ⟨b, off + k, none⟩) m cap) (xs.drop k) := by
  have e : (xs.drop k).length = m := by simp; omega
  refine ⟨_, cap, by rw [e], by omega, fun _ => ⟨b, off + k, rfl, hb, hbn, fun i hi => ?_⟩⟩
  rw [e] at hi
  rw [Nat.add_assoc, hc (k + i) (by omega), List.getElem?_drop]
theorem sl_some {lo n b off m cp : Nat} {w : World} {xs : List Int} (h : SlAt mB 0 lo n w (.slice (some ⟨b, off, none⟩) m cp) xs) (h0 : 0 < m) : m = xs.length ∧ xs.length ≤ maxLen ∧ lo ≤ b ∧ b < n ∧ ∀ i : Nat, i < xs.length → w.cell? ⟨b, off + i, none⟩ = some (mB (xs[i]?.getD 0)) := by
  obtain ⟨a9, c9, e9, h1, h2⟩ := h
  injection e9 with q1 q2 q3
  obtain ⟨b', off', ea, h3, h4, h5⟩ := h2 (by omega)
  rw [← q1] at ea
  cases ea
  exact ⟨q2, h1, h3, h4, h5⟩
theorem els_some {lo N n c : Nat} {w : World} {a : Option Addr} {xs : List El} (h : ElsAt lo N w (.slice a n c) xs) (h0 : 0 < n) : ∃ b off, a = some ⟨b, off, none⟩ ∧ ∀ i : Nat, i < xs.length → ElAt lo N w b (off + i * 4) (xs[i]?.getD dE) := by
  obtain ⟨a9, c9, e9, h1, h2⟩ := h
  injection e9 with q1 q2 q3
  obtain ⟨b', off', ea, h3, h4, h5⟩ := h2 (by omega)
  exact ⟨b', off', by rw [q1]; exact ea, h5⟩
theorem bslice_1 (b off n m cp : Nat) (hn : n = m + 1) : ∃ pb : Nat, (∀ W : World, Sem.run Tryz.prog (Instr.slice 22 (.slice (some ⟨b, off, none⟩) n cp) (some (.int .i64 1)) none none) W = .ok (.slice (some ⟨b, pb, none⟩) m (cp - 1)) W) ∧ (cp ≠ 1 → pb = off + 1) := by
  have hnm : n - 1 = m := by omega
  have h0 : (0 : Int) ≤ 1 := by omega
  have h1 : (1 : Int) ≤ (n : Int) := by omega
  by_cases h : cp = 1
  · refine ⟨off, fun W => ?_, fun h' => absurd h h'⟩
    rw [run_slice_l W 22 _ _ _ (by kernel_rfl) .i64 1 h0 h1]
    have hs : Sem.run Tryz.prog (sizeOf (Tryz.prog.elem 22)) W = .ok 1 W := by kernel_rfl
    rw [hs]
    simp [Result.andThen, sliced, h, hnm]
  · refine ⟨off + 1, fun W => ?_, fun _ => rfl⟩
    rw [run_slice_l W 22 _ _ _ (by kernel_rfl) .i64 1 h0 h1]
    have hs : Sem.run Tryz.prog (sizeOf (Tryz.prog.elem 22)) W = .ok 1 W := by kernel_rfl
    rw [hs]
    simp [Result.andThen, sliced, h, hnm, Addr.add]
set_option maxHeartbeats 32000000 in
set_option maxRecDepth 100000 in
theorem specParse_any (tv : Value) (xs : List Int) (w : World) (ht : SlAt mB 0 0 w.heap.size w tv xs) (hb : BytesIn xs) (hcp : ∃ a cap, tv = .slice a xs.length cap ∧ xs.length ≤ cap) :
    Calls Tryz.prog 6 #[tv] w fun e w' => PpR w xs e w' := by
  obtain ⟨a, cp, rfl, hcap, hc⟩ := id ht
  have hlc : xs.length ≤ cp := by obtain ⟨_, _, e, h⟩ := hcp; cases e; exact h
  clear hcp
  by_cases hlen : 2000 < xs.length
  · have hlen' : (2000 : Int) < (xs.length : Int) := by omega
    have HA : Hid (PAns xs false false [] 2) := .inl ⟨hlen, rfl, rfl, rfl, rfl⟩
    clear ht hc hb
    go_enter Tryz.func6, Tryz.ntmps6
    go_wp2
    refine bodyPost_ret (v := .tuple #[.agg #[.bool false, .bool false, .slice none 0 0], .int .i64 2]) (by simp [results, Tryz.results6, go_sem]) rfl ?_
    refine ⟨false, false, _, [], 2, rfl, unhide HA, ElsF.nil2 _ _, ?_⟩
    first | exact below1 w _ | exact bput (bput (bput (below1 w _) (Nat.le_refl _) _) (Nat.le_refl _) _) (Nat.le_refl _) _
  · have hlen' : ¬ (2000 : Int) < (xs.length : Int) := by omega
    have hle : xs.length ≤ 2000 := by omega
    have hb1 := below1 w (.cells #[.bool false, .bool false, .slice none 0 0] 25)
    have rP := Bx3.new w 25 (.bool false) (.bool false) (.slice none 0 0)
    obtain ⟨W, hW⟩ : ∃ W, W = w.alloc (.cells #[.bool false, .bool false, .slice none 0 0] 25) := ⟨_, rfl⟩
    have hzW : W.heap.size = w.heap.size + 1 := by rw [hW, sz_alloc]
    have HWE := hide hW
    rw [← hW] at hb1 rP
    have HBW := hide hb1
    have HRP := hide rP
    have HT0 := hide (ht.below hb1 (Nat.le_refl _))
    obtain ⟨n0, hn0⟩ : ∃ n0, n0 = xs.length := ⟨_, rfl⟩
    rw [← hn0] at hlen' hlc ⊢
    have HN0 := hide hn0
    have HB := hide hb
    clear hW hb1 rP hb ht hn0
    have noc : (pkB xs 0 ≠ 94) → xs.drop (at1 xs) = xs := fun h => by rw [at1, if_neg h]; rfl
    by_cases h0 : n0 = 0
    · obtain ⟨ys, hys⟩ : ∃ ys, ys = xs := ⟨_, rfl⟩
      obtain ⟨m, hm9⟩ : ∃ m : Nat, m = n0 := ⟨_, rfl⟩
      have hp : pkB xs 0 ≠ 94 := by
        have hx : xs = [] := List.eq_nil_of_length_eq_zero (by rw [← unhide HN0]; exact h0)
        rw [hx]; decide
      have hlf : decide (pkB xs 0 = 94) = false := decide_eq_false hp
      have HAT : Hid (xs.drop (at1 xs) = ys) := by show _ = _; rw [hys]; exact noc hp
      have HS : Hid (SlAt mB 0 0 W.heap.size W (.slice a m cp) ys) := by show SlAt _ _ _ _ _ _ _; rw [hys, hm9, unhide HN0]; exact unhide HT0
      have HBY : Hid (BytesIn ys) := by show BytesIn _; rw [hys]; exact unhide HB
      have HLM : Hid (m = ys.length) := by show _ = _; rw [hys, hm9]; exact unhide HN0
      rw [← hm9] at hlen' h0 hlc ⊢
      have h0m : ¬ (0 : Int) < (m : Int) := by omega
      have HLF : Hid (false = decide (pkB xs 0 = 94)) := by show _ = _; rw [hlf]
      have hm2 : m ≤ 2000 := by omega
      clear hlen hc hcap hp noc HT0 hys hm9 HN0 HB hlf h0
      go_enter Tryz.func6, Tryz.ntmps6
      have HLEX := hide (l1lex_any _ ys W (unhide HS) (unhide HBY) (by rw [← unhide HLM]; omega))
      go_wp2_with fail
      rw [← unhide HWE]
      refine (unhide HLEX).mono ?_
      rintro e w1 ⟨hb1, ⟨hn1, rfl⟩ | ⟨ts, v1, hx1, rfl, hv1⟩⟩
      · have HN1 := hide hn1
        have HB1 := hide hb1
        clear hn1 hb1 HLEX
        by_cases hm : m = 0
        · subst hm
          have HA : Hid (PAns xs false false [] 1) := .inr ⟨hle, .inl ⟨prs_no1 (unhide HAT) (unhide HN1) (fun s' e => by have h9 := unhide HLM; rw [e] at h9; simp at h9), rfl, rfl, rfl, rfl⟩⟩
          have hbw1 := (unhide HBW).trans ((unhide HB1).mono (by omega))
          have HBw1 := hide hbw1
          have HR1 := hide (rk (unhide HRP) (unhide HB1) (Nat.le_refl _))
          clear hbw1
          obtain ⟨p0, p1, p2⟩ := Bx3.facts (unhide HR1)
          have f0 := World.rowIs.frozen (unhide HR1) 0
          have f1 := World.rowIs.frozen (unhide HR1) 1
          have f2 := World.rowIs.frozen (unhide HR1) 2
          go_wp2
          refine bodyPost_ret (v := .tuple #[.agg #[.bool false, .bool false, .slice none 0 0], .int .i64 1]) (by simp [results, Tryz.results6, go_sem, p0, p1, p2]) rfl ?_
          exact ⟨false, false, _, [], 1, rfl, unhide HA, ElsF.nil2 _ _, bput (bput (bput (unhide HBw1) (Nat.le_refl _) _) (Nat.le_refl _) _) (Nat.le_refl _) _⟩
        · exact absurd (by omega : m = 0) hm
      · have HBK := hide hb1
        have HPI : Hid (∀ T us b, Prs ys T us b ↔ b = false ∧ us = ts ∧ Gr 3 ts T) := fun T us b => prs_lex hx1
        have HTN := hide (lxs_n (unhide HBY) hx1)
        have HTO := hide (lxs_ok (unhide HBY) hx1)
        have HLT : Hid (ts.length ≤ 2000) := by have h9 := lxs_len hx1; rw [← unhide HLM] at h9; show _ ≤ _; omega
        have HVK := hide hv1
        clear hx1 hb1 hv1 HLEX
        have hbw := (unhide HBW).trans ((unhide HBK).mono (by omega))
        have HBw := hide hbw
        have hzk := (unhide HBK).size
        have HRk := hide (rk (unhide HRP) (unhide HBK) (Nat.le_refl _))
        have hlt := unhide HLT
        have HDEEP := hide (l1deep_any _ ts w1 (unhide HVK) (by omega))
        obtain ⟨a3, c3, rfl, -, -⟩ := id (unhide HVK)
        rw [List.length_map] at HVK HDEEP ⊢
        obtain ⟨n, hn⟩ : ∃ n, n = ts.length := ⟨_, rfl⟩
        rw [← hn] at HVK HDEEP hlt ⊢
        have HN := hide hn
        clear hbw hn
        go_wp2_with fail
        refine (unhide HDEEP).mono ?_
        rintro e w4 ⟨⟨D, rfl, hD⟩, hw4⟩
        obtain rfl : w1 = w4 := hw4.symm
        rcases hD with ⟨hwl, hD⟩ | ⟨hwl, rfl⟩
        · have HBLD := hide (l1build_any _ ts w1 (unhide HVK) (by rw [← unhide HN]; omega) hwl (unhide HTN))
          obtain ⟨d, hd⟩ : ∃ d : Nat, d = mxd 0 ts := ⟨_, rfl⟩
          rw [← hd] at hD
          subst hD
          have HD := hide hd
          have hd0 : ¬ (d : Int) < 0 := by omega
          clear hd hwl HDEEP
          go_wp2_with fail
          refine (unhide HBLD).mono ?_
          rintro e w5 ⟨hb5, ⟨hn5, rfl⟩ | ⟨T, v5, hT, rfl, hg5⟩⟩
          · have HA : Hid (PAns xs false false [] 1) := .inr ⟨hle, .inl ⟨fun T us b hp => hn5 T (((unhide HPI T us b).1 (unhide HAT ▸ hp)).2.2), rfl, rfl, rfl, rfl⟩⟩
            have HR5 := hide (rk (unhide HRk) hb5 (Nat.le_refl _))
            have HB5 := hide ((unhide HBw).trans (hb5.mono (by omega)))
            clear hn5 hb5 HBLD
            obtain ⟨p0, p1, p2⟩ := Bx3.facts (unhide HR5)
            have f0 := World.rowIs.frozen (unhide HR5) 0
            have f1 := World.rowIs.frozen (unhide HR5) 1
            have f2 := World.rowIs.frozen (unhide HR5) 2
            go_wp2
            refine bodyPost_ret (v := .tuple #[.agg #[.bool false, .bool false, .slice none 0 0], .int .i64 1]) (by simp [results, Tryz.results6, go_sem, p0, p1, p2]) rfl ?_
            exact ⟨false, false, _, [], 1, rfl, unhide HA, ElsF.nil2 _ _, bput (bput (bput (unhide HB5) (Nat.le_refl _) _) (Nat.le_refl _) _) (Nat.le_refl _) _⟩
          · have HT := hide hT
            have HPRS : Hid (Prs (xs.drop (at1 xs)) T ts false) := unhide HAT ▸ (unhide HPI T ts false).2 ⟨rfl, rfl, hT⟩
            have HR5 := hide (rk (unhide HRk) hb5 (Nat.le_refl _))
            have HB5 := hide ((unhide HBw).trans (hb5.mono (by omega)))
            have hz5 := hb5.size
            have HNC := hide (gr_nice hT (unhide HTN))
            have hTl := (gr_len hT).2
            rw [← unhide HN] at hTl
            have HV5 := hide ((unhide HVK).below hb5 (Nat.le_refl _))
            obtain ⟨o5, d5, rfl⟩ := hg5.form
            obtain ⟨nT, hnT⟩ : ∃ nT, nT = T.l.length := ⟨_, rfl⟩
            rw [← hnT] at hg5 hTl ⊢
            have HNT := hide hnT
            have HG5 := hide hg5
            clear hT hb5 HBLD hg5 hnT
            by_cases hD1 : 100 < d
            · have hD1' : (100 : Int) < (d : Int) := by omega
              have HA : Hid (PAns xs false false [] 2) := .inr ⟨hle, .inr ⟨T, ts, false, unhide HPRS, .inl ⟨.inl (ovr_deep (by rw [← unhide HD]; exact hD1)), rfl, rfl, rfl, rfl⟩⟩⟩
              obtain ⟨p0, p1, p2⟩ := Bx3.facts (unhide HR5)
              have f0 := World.rowIs.frozen (unhide HR5) 0
              have f1 := World.rowIs.frozen (unhide HR5) 1
              have f2 := World.rowIs.frozen (unhide HR5) 2
              go_wp2
              refine bodyPost_ret (v := .tuple #[.agg #[.bool false, .bool false, .slice none 0 0], .int .i64 2]) (by simp [results, Tryz.results6, go_sem, p0, p1, p2]) rfl ?_
              exact ⟨false, false, _, [], 2, rfl, unhide HA, ElsF.nil2 _ _, bput (bput (bput (unhide HB5) (Nat.le_refl _) _) (Nat.le_refl _) _) (Nat.le_refl _) _⟩
            · have hD1' : ¬ (100 : Int) < (d : Int) := by omega
              go_wp2_with fail
              go_loop [12] (fun iv => ∃ i : Nat, i ≤ n ∧ iv = .int .i64 (i : Nat) ∧ NoBig ts i) (fun iv => n - (intOf iv).toNat)
              case atStart => exact ⟨0, Nat.zero_le _, rfl, fun j t hj => absurd hj (Nat.not_lt_zero _)⟩
              case round =>
                obtain ⟨i, hi, rfl, hnb⟩ := hrel
                have HNB := hide hnb
                clear hnb
                by_cases hlt2 : i < n
                · have hlt2' : (i : Int) < (n : Int) := by omega
                  have h0i : (0 : Int) ≤ (i : Int) := by omega
                  obtain ⟨b, off, ea, hel⟩ := els_some (unhide HV5) (by omega)
                  subst ea
                  obtain ⟨t, ht⟩ : ∃ t, ts[i]? = some t := ⟨ts[i]'(by rw [← unhide HN]; exact hlt2), List.getElem?_eq_getElem _⟩
                  obtain ⟨-, -, -, -, -, -, x2, x3, -⟩ := el_at rfl (fun i hi => hel i (by rw [List.length_map]; exact hi)) ht
                  obtain ⟨mn, hmn⟩ : ∃ mn, mn = (tkE t).mn := ⟨_, rfl⟩
                  obtain ⟨mx, hmx⟩ : ∃ mx, mx = (tkE t).mx := ⟨_, rfl⟩
                  rw [← hmn] at x2
                  rw [← hmx] at x3
                  have HTI := hide ht
                  have HMN := hide hmn
                  have HMX := hide hmx
                  clear hel ht hmn hmx
                  by_cases hg1 : 250 < mn
                  · have HA : Hid (PAns xs false false [] 2) := .inr ⟨hle, .inr ⟨T, ts, false, unhide HPRS, .inl ⟨.inl (ovr_big (unhide HTI) (.inl (by rw [← unhide HMN]; exact hg1))), rfl, rfl, rfl, rfl⟩⟩⟩
                    obtain ⟨p0, p1, p2⟩ := Bx3.facts (unhide HR5)
                    have f0 := World.rowIs.frozen (unhide HR5) 0
                    have f1 := World.rowIs.frozen (unhide HR5) 1
                    have f2 := World.rowIs.frozen (unhide HR5) 2
                    go_wp2
                    refine bodyPost_ret (v := .tuple #[.agg #[.bool false, .bool false, .slice none 0 0], .int .i64 2]) (by simp [results, Tryz.results6, go_sem, p0, p1, p2]) rfl ?_
                    exact ⟨false, false, _, [], 2, rfl, unhide HA, ElsF.nil2 _ _, bput (bput (bput (unhide HB5) (Nat.le_refl _) _) (Nat.le_refl _) _) (Nat.le_refl _) _⟩
                  by_cases hg2 : 250 < mx
                  · have HA : Hid (PAns xs false false [] 2) := .inr ⟨hle, .inr ⟨T, ts, false, unhide HPRS, .inl ⟨.inl (ovr_big (unhide HTI) (.inr (by rw [← unhide HMX]; exact hg2))), rfl, rfl, rfl, rfl⟩⟩⟩
                    obtain ⟨p0, p1, p2⟩ := Bx3.facts (unhide HR5)
                    have f0 := World.rowIs.frozen (unhide HR5) 0
                    have f1 := World.rowIs.frozen (unhide HR5) 1
                    have f2 := World.rowIs.frozen (unhide HR5) 2
                    go_wp2
                    refine bodyPost_ret (v := .tuple #[.agg #[.bool false, .bool false, .slice none 0 0], .int .i64 2]) (by simp [results, Tryz.results6, go_sem, p0, p1, p2]) rfl ?_
                    exact ⟨false, false, _, [], 2, rfl, unhide HA, ElsF.nil2 _ _, bput (bput (bput (unhide HB5) (Nat.le_refl _) _) (Nat.le_refl _) _) (Nat.le_refl _) _⟩
                  · have HNB2 : Hid (NoBig ts (i + 1)) := (unhide HNB).go (unhide HTI) (by rw [← unhide HMN]; exact hg1) (by rw [← unhide HMX]; exact hg2)
                    go_wp2
                    go_round
                    case rel => exact ⟨i + 1, by omega, by go_num, unhide HNB2⟩
                    case measure => simp [intOf]; omega
                · obtain rfl : i = n := by omega
                  have hlt2' : ¬ (i : Int) < (i : Int) := by omega
                  have HALL : Hid (∀ t ∈ ts, bigR 250 t = false) := (unhide HNB).all (by rw [← unhide HN]; exact Nat.le_refl _)
                  have HSZ := hide ((gr_size (unhide HT) (unhide HTO) (unhide HALL)).2 _ w5 ((unhide HG5).els (unhide HNC)) (by rw [← unhide HNT]; omega))
                  obtain ⟨tn, htn⟩ : ∃ tn, tn = T.n := ⟨_, rfl⟩
                  rw [← htn] at HSZ
                  have HTNN := hide htn
                  clear htn
                  go_wp2_with fail
                  refine (unhide HSZ).mono ?_
                  rintro e w6 ⟨rfl, hb6⟩
                  have HR6 := hide (rk (unhide HR5) hb6 (Nat.le_refl _))
                  have HB6 := hide ((unhide HB5).trans (hb6.mono (by omega)))
                  have HBB := hide hb6
                  have hz6 := hb6.size
                  clear hb6 HSZ
                  by_cases h500 : 500 < tn
                  · have HA : Hid (PAns xs false false [] 2) := .inr ⟨hle, .inr ⟨T, ts, false, unhide HPRS, .inl ⟨.inr (by rw [← unhide HTNN]; exact h500), rfl, rfl, rfl, rfl⟩⟩⟩
                    obtain ⟨p0, p1, p2⟩ := Bx3.facts (unhide HR6)
                    have f0 := World.rowIs.frozen (unhide HR6) 0
                    have f1 := World.rowIs.frozen (unhide HR6) 1
                    have f2 := World.rowIs.frozen (unhide HR6) 2
                    go_wp2
                    refine bodyPost_ret (v := .tuple #[.agg #[.bool false, .bool false, .slice none 0 0], .int .i64 2]) (by simp [results, Tryz.results6, go_sem, p0, p1, p2]) rfl ?_
                    exact ⟨false, false, _, [], 2, rfl, unhide HA, ElsF.nil2 _ _, bput (bput (bput (unhide HB6) (Nat.le_refl _) _) (Nat.le_refl _) _) (Nat.le_refl _) _⟩
                  · have HA : Hid (PAns xs false false T.l 0) := .inr ⟨hle, .inr ⟨T, ts, false, unhide HPRS, .inr ⟨ovr_none (by rw [← unhide HD]; exact hD1) (unhide HALL), by rw [← unhide HTNN]; omega, unhide HLF, rfl, rfl, rfl⟩⟩⟩
                    obtain ⟨p0, p1, p2⟩ := Bx3.facts (unhide HR6)
                    have f0 := World.rowIs.frozen (unhide HR6) 0
                    have f1 := World.rowIs.frozen (unhide HR6) 1
                    have f2 := World.rowIs.frozen (unhide HR6) 2
                    go_wp2
                    refine bodyPost_ret (v := .tuple #[.agg #[.bool false, .bool false, .slice o5 nT d5], .int .i64 0]) (by simp [results, Tryz.results6, go_sem, p0, p1, p2]) rfl ?_
                    refine ⟨_, _, _, T.l, 0, rfl, unhide HA, ?_, bput (bput (bput (unhide HB6) (Nat.le_refl _) _) (Nat.le_refl _) _) (Nat.le_refl _) _⟩
                    refine ((unhide HG5).foot.same (fun k hk => ?_)).mono (fun k hk => ⟨Nat.le_trans (by omega) hk.1, by simp only [sz_put]; exact Nat.lt_of_lt_of_le hk.2 hz6⟩)
                    have hk1 : w1.heap.size ≤ k := hk.1
                    rw [Below.heap_setCell _ _ _ _ (by intro e; simp only at e; omega), Below.heap_setCell _ _ _ _ (by intro e; simp only at e; omega), Below.heap_setCell _ _ _ _ (by intro e; simp only at e; omega)]
                    exact (unhide HBB).block k hk.2
        · have HA : Hid (PAns xs false false [] 1) := .inr ⟨hle, .inl ⟨fun T us b hp => hwl ((((unhide HPI T us b).1 (unhide HAT ▸ hp)).2.2).bal), rfl, rfl, rfl, rfl⟩⟩
          clear hwl HDEEP
          obtain ⟨p0, p1, p2⟩ := Bx3.facts (unhide HRk)
          have f0 := World.rowIs.frozen (unhide HRk) 0
          have f1 := World.rowIs.frozen (unhide HRk) 1
          have f2 := World.rowIs.frozen (unhide HRk) 2
          go_wp2
          refine bodyPost_ret (v := .tuple #[.agg #[.bool false, .bool false, .slice none 0 0], .int .i64 1]) (by simp [results, Tryz.results6, go_sem, p0, p1, p2]) rfl ?_
          exact ⟨false, false, _, [], 1, rfl, unhide HA, ElsF.nil2 _ _, bput (bput (bput (unhide HBw) (Nat.le_refl _) _) (Nat.le_refl _) _) (Nat.le_refl _) _⟩
    · obtain ⟨b0, off0, ea, -, hbn0, hel0⟩ := hc (by rw [← unhide HN0]; omega)
      subst ea
      obtain ⟨c, hcx⟩ : ∃ c, c = xs[0]?.getD 0 := ⟨_, rfl⟩
      have hpc : pkB xs 0 = c := by
        unfold pkB
        rw [hcx, List.getElem?_eq_getElem (by rw [← unhide HN0]; omega)]
        rfl
      have x00 : W.cell? ⟨b0, off0, none⟩ = some (.int .u8 c) := by
        have h9 := (unhide HBW).cell (p := ⟨b0, off0, none⟩) hbn0
        rw [h9]
        have h8 := hel0 0 (by rw [← unhide HN0]; omega)
        rw [Nat.add_zero, ← hcx] at h8
        exact h8
      rw [unhide HWE] at x00
      by_cases h94 : c = 94
      · have hp : pkB xs 0 = 94 := by rw [hpc]; exact h94
        have hlf : decide (pkB xs 0 = 94) = true := decide_eq_true hp
        obtain ⟨m, hm9⟩ : ∃ m : Nat, m = n0 - 1 := ⟨_, rfl⟩
        have hn1 : n0 = m + 1 := by omega
        obtain ⟨ys, hys⟩ : ∃ ys, ys = xs.drop 1 := ⟨_, rfl⟩
        have HAT : Hid (xs.drop (at1 xs) = ys) := by show _ = _; rw [hys, at1, if_pos hp]
        have HLM : Hid (m = ys.length) := by show _ = _; rw [hys, List.length_drop, ← unhide HN0]; omega
        have HBY : Hid (BytesIn ys) := fun x hx => unhide HB x (by rw [hys] at hx; exact List.mem_of_mem_drop hx)
        obtain ⟨pb, hslc, hpb⟩ := bslice_1 b0 off0 n0 m cp hn1
        obtain ⟨sc, hsc⟩ : ∃ sc, sc = cp - 1 := ⟨_, rfl⟩
        rw [← hsc] at hslc
        have hmsc : m ≤ sc := by omega
        have HS : Hid (SlAt mB 0 0 W.heap.size W (.slice (some ⟨b0, pb, none⟩) m sc) ys) := by
          show SlAt _ _ _ _ _ _ _
          have hT9 := unhide HT0
          rw [← unhide HN0] at hT9
          obtain ⟨-, hc8, h9a, h9b, hel⟩ := sl_some hT9 (by omega)
          by_cases hm0 : m = 0
          · have hy0 : ys = [] := List.eq_nil_of_length_eq_zero (by rw [← unhide HLM]; exact hm0)
            rw [hy0, hm0]
            exact ⟨_, _, rfl, by unfold maxLen; simp, fun h => absurd h (by simp)⟩
          · have hcp1 : cp ≠ 1 := by omega
            rw [hpb hcp1, hys]
            exact bt_drop (k := 1) (m := m) (by rw [← unhide HN0]; omega) hc8 h9a h9b hel
        subst h94
        have hk0 : (0 : Int) < (n0 : Int) := by omega
        have HLF : Hid (true = decide (pkB xs 0 = 94)) := by show _ = _; rw [hlf]
        have hm2 : m ≤ 2000 := by omega
        clear hlen hc hel0 hcx hpc hp noc HT0 hys hm9 HN0 HB hlf h0 hpb hbn0 hcap hsc hlc hn1
        go_enter Tryz.func6, Tryz.ntmps6
        have HLEX := hide (l1lex_any _ ys W (unhide HS) (unhide HBY) (by rw [← unhide HLM]; omega))
        go_wp2_with fail
        rw [← unhide HWE]
        refine (unhide HLEX).mono ?_
        rintro e w1 ⟨hb1, ⟨hn1, rfl⟩ | ⟨ts, v1, hx1, rfl, hv1⟩⟩
        · have HN1 := hide hn1
          have HB1 := hide hb1
          clear hn1 hb1 HLEX
          by_cases hm : m = 0
          · subst hm
            have HA : Hid (PAns xs false false [] 1) := .inr ⟨hle, .inl ⟨prs_no1 (unhide HAT) (unhide HN1) (fun s' e => by have h9 := unhide HLM; rw [e] at h9; simp at h9), rfl, rfl, rfl, rfl⟩⟩
            have hbw1 := (unhide HBW).trans ((unhide HB1).mono (by omega))
            have HBw1 := hide hbw1
            have HR1 := hide (rk (unhide HRP) (unhide HB1) (Nat.le_refl _))
            clear hbw1
            obtain ⟨p0, p1, p2⟩ := Bx3.facts (unhide HR1)
            have f0 := World.rowIs.frozen (unhide HR1) 0
            have f1 := World.rowIs.frozen (unhide HR1) 1
            have f2 := World.rowIs.frozen (unhide HR1) 2
            go_wp2
            refine bodyPost_ret (v := .tuple #[.agg #[.bool false, .bool false, .slice none 0 0], .int .i64 1]) (by simp [results, Tryz.results6, go_sem, p0, p1, p2]) rfl ?_
            exact ⟨false, false, _, [], 1, rfl, unhide HA, ElsF.nil2 _ _, bput (bput (bput (unhide HBw1) (Nat.le_refl _) _) (Nat.le_refl _) _) (Nat.le_refl _) _⟩
          · obtain ⟨k, hk⟩ : ∃ k, k = m - 1 := ⟨_, rfl⟩
            have hmk : m = k + 1 := by omega
            have hk1 : (m : Int) - 1 = (k : Int) := by omega
            have hk2 : (0 : Int) < (m : Int) := by omega
            have hk3 : (k : Int) < (m : Int) := by omega
            have hk4 : (0 : Int) ≤ (k : Int) := by omega
            obtain ⟨z, y, hy⟩ : ∃ (z : List Int) (y : Int), ys = z ++ [y] := by
              rcases List.eq_nil_or_concat ys with h | ⟨z, y, h⟩
              · have h9 := unhide HLM; rw [h] at h9; exact absurd h9 hm
              · exact ⟨z, y, by rw [h, List.concat_eq_append]⟩
            have hzl : k = z.length := by have h9 := unhide HLM; rw [hy] at h9; simp at h9; omega
            have HS1 := hide ((unhide HS).below (unhide HB1) (Nat.le_refl _))
            obtain ⟨-, hc8, h9a, h9b, hel⟩ := sl_some (unhide HS1) (by omega)
            have x0 : w1.cell? ⟨b0, pb + k, none⟩ = some (.int .u8 y) := by rw [hel k (by rw [← unhide HLM]; omega), hy, hzl]; simp [mB]
            have hkc : (k : Int) ≤ (sc : Int) := by omega
            have hkc1 : k ≤ sc := by omega
            have hkl : k ≤ 2000 := by omega
            by_cases hy36 : y = 36
            · subst hy36
              have HZ := hide hy
              have HTK : Hid (SlAt mB 0 0 w1.heap.size w1 (.slice (some ⟨b0, pb, none⟩) k sc) z) := by
                have h8 := bt_take (cap := sc) (k := k) (by rw [← unhide HLM]; omega) hc8 h9a h9b hel
                rw [hy, hzl, List.take_left] at h8
                rw [hzl]
                exact h8
              have HBZ : Hid (BytesIn z) := fun x hx => unhide HBY x (by rw [hy]; simp [hx])
              have HLX2 := hide (l1lex_any _ z w1 (unhide HTK) (unhide HBZ) (by rw [← hzl]; omega))
              have HZL := hide hzl
              clear hel hy hzl hc8 h9a h9b hk hmk hm
              go_wp2_with fail
              refine (unhide HLX2).mono ?_
              rintro e w2 ⟨hb2, ⟨hn2, rfl⟩ | ⟨ts, v2, hx2, rfl, hv2⟩⟩
              · have HA : Hid (PAns xs false false [] 1) := .inr ⟨hle, .inl ⟨prs_no1 (unhide HAT) (unhide HN1) (fun s' e => by have h9 := e.symm.trans (unhide HZ); have h8 := (List.append_inj' h9 rfl).1; rw [h8]; exact hn2), rfl, rfl, rfl, rfl⟩⟩
                have HB2 := hide ((unhide HB1).trans (hb2.mono (unhide HB1).size))
                have hbw2 := (unhide HBW).trans ((unhide HB2).mono (by omega))
                have HBw2 := hide hbw2
                have HR2 := hide (rk (unhide HRP) (unhide HB2) (Nat.le_refl _))
                clear hn2 hb2 hbw2 HLX2
                obtain ⟨p0, p1, p2⟩ := Bx3.facts (unhide HR2)
                have f0 := World.rowIs.frozen (unhide HR2) 0
                have f1 := World.rowIs.frozen (unhide HR2) 1
                have f2 := World.rowIs.frozen (unhide HR2) 2
                go_wp2
                refine bodyPost_ret (v := .tuple #[.agg #[.bool false, .bool false, .slice none 0 0], .int .i64 1]) (by simp [results, Tryz.results6, go_sem, p0, p1, p2]) rfl ?_
                exact ⟨false, false, _, [], 1, rfl, unhide HA, ElsF.nil2 _ _, bput (bput (bput (unhide HBw2) (Nat.le_refl _) _) (Nat.le_refl _) _) (Nat.le_refl _) _⟩
              · have HBK := hide ((unhide HB1).trans (hb2.mono (unhide HB1).size))
                have HPI : Hid (∀ T us b, Prs ys T us b ↔ b = true ∧ us = ts ∧ Gr 3 ts T) := fun T us b => by rw [unhide HZ]; exact prs_dollar hx2
                have HTN := hide (lxs_n (unhide HBZ) hx2)
                have HTO := hide (lxs_ok (unhide HBZ) hx2)
                have HLT : Hid (ts.length ≤ 2000) := by have h9 := lxs_len hx2; rw [← unhide HZL] at h9; show _ ≤ _; omega
                have HVK := hide hv2
                clear hx2 hb2 hv2 HLX2 HN1 x0 HTK HBZ
                have hbw := (unhide HBW).trans ((unhide HBK).mono (by omega))
                have HBw := hide hbw
                have hzk := (unhide HBK).size
                have HRk := hide (rk (unhide HRP) (unhide HBK) (Nat.le_refl _))
                have hlt := unhide HLT
                have HDEEP := hide (l1deep_any _ ts w2 (unhide HVK) (by omega))
                obtain ⟨a3, c3, rfl, -, -⟩ := id (unhide HVK)
                rw [List.length_map] at HVK HDEEP ⊢
                obtain ⟨n, hn⟩ : ∃ n, n = ts.length := ⟨_, rfl⟩
                rw [← hn] at HVK HDEEP hlt ⊢
                have HN := hide hn
                clear hbw hn
                go_wp2_with fail
                refine (unhide HDEEP).mono ?_
                rintro e w4 ⟨⟨D, rfl, hD⟩, hw4⟩
                obtain rfl : w2 = w4 := hw4.symm
                rcases hD with ⟨hwl, hD⟩ | ⟨hwl, rfl⟩
                · have HBLD := hide (l1build_any _ ts w2 (unhide HVK) (by rw [← unhide HN]; omega) hwl (unhide HTN))
                  obtain ⟨d, hd⟩ : ∃ d : Nat, d = mxd 0 ts := ⟨_, rfl⟩
                  rw [← hd] at hD
                  subst hD
                  have HD := hide hd
                  have hd0 : ¬ (d : Int) < 0 := by omega
                  clear hd hwl HDEEP
                  go_wp2_with fail
                  refine (unhide HBLD).mono ?_
                  rintro e w5 ⟨hb5, ⟨hn5, rfl⟩ | ⟨T, v5, hT, rfl, hg5⟩⟩
                  · have HA : Hid (PAns xs false false [] 1) := .inr ⟨hle, .inl ⟨fun T us b hp => hn5 T (((unhide HPI T us b).1 (unhide HAT ▸ hp)).2.2), rfl, rfl, rfl, rfl⟩⟩
                    have HR5 := hide (rk (unhide HRk) hb5 (Nat.le_refl _))
                    have HB5 := hide ((unhide HBw).trans (hb5.mono (by omega)))
                    clear hn5 hb5 HBLD
                    obtain ⟨p0, p1, p2⟩ := Bx3.facts (unhide HR5)
                    have f0 := World.rowIs.frozen (unhide HR5) 0
                    have f1 := World.rowIs.frozen (unhide HR5) 1
                    have f2 := World.rowIs.frozen (unhide HR5) 2
                    go_wp2
                    refine bodyPost_ret (v := .tuple #[.agg #[.bool false, .bool false, .slice none 0 0], .int .i64 1]) (by simp [results, Tryz.results6, go_sem, p0, p1, p2]) rfl ?_
                    exact ⟨false, false, _, [], 1, rfl, unhide HA, ElsF.nil2 _ _, bput (bput (bput (unhide HB5) (Nat.le_refl _) _) (Nat.le_refl _) _) (Nat.le_refl _) _⟩
                  · have HT := hide hT
                    have HPRS : Hid (Prs (xs.drop (at1 xs)) T ts true) := unhide HAT ▸ (unhide HPI T ts true).2 ⟨rfl, rfl, hT⟩
                    have HR5 := hide (rk (unhide HRk) hb5 (Nat.le_refl _))
                    have HB5 := hide ((unhide HBw).trans (hb5.mono (by omega)))
                    have hz5 := hb5.size
                    have HNC := hide (gr_nice hT (unhide HTN))
                    have hTl := (gr_len hT).2
                    rw [← unhide HN] at hTl
                    have HV5 := hide ((unhide HVK).below hb5 (Nat.le_refl _))
                    obtain ⟨o5, d5, rfl⟩ := hg5.form
                    obtain ⟨nT, hnT⟩ : ∃ nT, nT = T.l.length := ⟨_, rfl⟩
                    rw [← hnT] at hg5 hTl ⊢
                    have HNT := hide hnT
                    have HG5 := hide hg5
                    clear hT hb5 HBLD hg5 hnT
                    by_cases hD1 : 100 < d
                    · have hD1' : (100 : Int) < (d : Int) := by omega
                      have HA : Hid (PAns xs false false [] 2) := .inr ⟨hle, .inr ⟨T, ts, true, unhide HPRS, .inl ⟨.inl (ovr_deep (by rw [← unhide HD]; exact hD1)), rfl, rfl, rfl, rfl⟩⟩⟩
                      obtain ⟨p0, p1, p2⟩ := Bx3.facts (unhide HR5)
                      have f0 := World.rowIs.frozen (unhide HR5) 0
                      have f1 := World.rowIs.frozen (unhide HR5) 1
                      have f2 := World.rowIs.frozen (unhide HR5) 2
                      go_wp2
                      refine bodyPost_ret (v := .tuple #[.agg #[.bool false, .bool false, .slice none 0 0], .int .i64 2]) (by simp [results, Tryz.results6, go_sem, p0, p1, p2]) rfl ?_
                      exact ⟨false, false, _, [], 2, rfl, unhide HA, ElsF.nil2 _ _, bput (bput (bput (unhide HB5) (Nat.le_refl _) _) (Nat.le_refl _) _) (Nat.le_refl _) _⟩
                    · have hD1' : ¬ (100 : Int) < (d : Int) := by omega
                      go_wp2_with fail
                      go_loop [12] (fun iv => ∃ i : Nat, i ≤ n ∧ iv = .int .i64 (i : Nat) ∧ NoBig ts i) (fun iv => n - (intOf iv).toNat)
                      case atStart => exact ⟨0, Nat.zero_le _, rfl, fun j t hj => absurd hj (Nat.not_lt_zero _)⟩
                      case round =>
                        obtain ⟨i, hi, rfl, hnb⟩ := hrel
                        have HNB := hide hnb
                        clear hnb
                        by_cases hlt2 : i < n
                        · have hlt2' : (i : Int) < (n : Int) := by omega
                          have h0i : (0 : Int) ≤ (i : Int) := by omega
                          obtain ⟨b, off, ea, hel⟩ := els_some (unhide HV5) (by omega)
                          subst ea
                          obtain ⟨t, ht⟩ : ∃ t, ts[i]? = some t := ⟨ts[i]'(by rw [← unhide HN]; exact hlt2), List.getElem?_eq_getElem _⟩
                          obtain ⟨-, -, -, -, -, -, x2, x3, -⟩ := el_at rfl (fun i hi => hel i (by rw [List.length_map]; exact hi)) ht
                          obtain ⟨mn, hmn⟩ : ∃ mn, mn = (tkE t).mn := ⟨_, rfl⟩
                          obtain ⟨mx, hmx⟩ : ∃ mx, mx = (tkE t).mx := ⟨_, rfl⟩
                          rw [← hmn] at x2
                          rw [← hmx] at x3
                          have HTI := hide ht
                          have HMN := hide hmn
                          have HMX := hide hmx
                          clear hel ht hmn hmx
                          by_cases hg1 : 250 < mn
                          · have HA : Hid (PAns xs false false [] 2) := .inr ⟨hle, .inr ⟨T, ts, true, unhide HPRS, .inl ⟨.inl (ovr_big (unhide HTI) (.inl (by rw [← unhide HMN]; exact hg1))), rfl, rfl, rfl, rfl⟩⟩⟩
                            obtain ⟨p0, p1, p2⟩ := Bx3.facts (unhide HR5)
                            have f0 := World.rowIs.frozen (unhide HR5) 0
                            have f1 := World.rowIs.frozen (unhide HR5) 1
                            have f2 := World.rowIs.frozen (unhide HR5) 2
                            go_wp2
                            refine bodyPost_ret (v := .tuple #[.agg #[.bool false, .bool false, .slice none 0 0], .int .i64 2]) (by simp [results, Tryz.results6, go_sem, p0, p1, p2]) rfl ?_
                            exact ⟨false, false, _, [], 2, rfl, unhide HA, ElsF.nil2 _ _, bput (bput (bput (unhide HB5) (Nat.le_refl _) _) (Nat.le_refl _) _) (Nat.le_refl _) _⟩
                          by_cases hg2 : 250 < mx
                          · have HA : Hid (PAns xs false false [] 2) := .inr ⟨hle, .inr ⟨T, ts, true, unhide HPRS, .inl ⟨.inl (ovr_big (unhide HTI) (.inr (by rw [← unhide HMX]; exact hg2))), rfl, rfl, rfl, rfl⟩⟩⟩
                            obtain ⟨p0, p1, p2⟩ := Bx3.facts (unhide HR5)
                            have f0 := World.rowIs.frozen (unhide HR5) 0
                            have f1 := World.rowIs.frozen (unhide HR5) 1
                            have f2 := World.rowIs.frozen (unhide HR5) 2
                            go_wp2
                            refine bodyPost_ret (v := .tuple #[.agg #[.bool false, .bool false, .slice none 0 0], .int .i64 2]) (by simp [results, Tryz.results6, go_sem, p0, p1, p2]) rfl ?_
                            exact ⟨false, false, _, [], 2, rfl, unhide HA, ElsF.nil2 _ _, bput (bput (bput (unhide HB5) (Nat.le_refl _) _) (Nat.le_refl _) _) (Nat.le_refl _) _⟩
                          · have HNB2 : Hid (NoBig ts (i + 1)) := (unhide HNB).go (unhide HTI) (by rw [← unhide HMN]; exact hg1) (by rw [← unhide HMX]; exact hg2)
                            go_wp2
                            go_round
                            case rel => exact ⟨i + 1, by omega, by go_num, unhide HNB2⟩
                            case measure => simp [intOf]; omega
                        · obtain rfl : i = n := by omega
                          have hlt2' : ¬ (i : Int) < (i : Int) := by omega
                          have HALL : Hid (∀ t ∈ ts, bigR 250 t = false) := (unhide HNB).all (by rw [← unhide HN]; exact Nat.le_refl _)
                          have HSZ := hide ((gr_size (unhide HT) (unhide HTO) (unhide HALL)).2 _ w5 ((unhide HG5).els (unhide HNC)) (by rw [← unhide HNT]; omega))
                          obtain ⟨tn, htn⟩ : ∃ tn, tn = T.n := ⟨_, rfl⟩
                          rw [← htn] at HSZ
                          have HTNN := hide htn
                          clear htn
                          go_wp2_with fail
                          refine (unhide HSZ).mono ?_
                          rintro e w6 ⟨rfl, hb6⟩
                          have HR6 := hide (rk (unhide HR5) hb6 (Nat.le_refl _))
                          have HB6 := hide ((unhide HB5).trans (hb6.mono (by omega)))
                          have HBB := hide hb6
                          have hz6 := hb6.size
                          clear hb6 HSZ
                          by_cases h500 : 500 < tn
                          · have HA : Hid (PAns xs false false [] 2) := .inr ⟨hle, .inr ⟨T, ts, true, unhide HPRS, .inl ⟨.inr (by rw [← unhide HTNN]; exact h500), rfl, rfl, rfl, rfl⟩⟩⟩
                            obtain ⟨p0, p1, p2⟩ := Bx3.facts (unhide HR6)
                            have f0 := World.rowIs.frozen (unhide HR6) 0
                            have f1 := World.rowIs.frozen (unhide HR6) 1
                            have f2 := World.rowIs.frozen (unhide HR6) 2
                            go_wp2
                            refine bodyPost_ret (v := .tuple #[.agg #[.bool false, .bool false, .slice none 0 0], .int .i64 2]) (by simp [results, Tryz.results6, go_sem, p0, p1, p2]) rfl ?_
                            exact ⟨false, false, _, [], 2, rfl, unhide HA, ElsF.nil2 _ _, bput (bput (bput (unhide HB6) (Nat.le_refl _) _) (Nat.le_refl _) _) (Nat.le_refl _) _⟩
                          · have HA : Hid (PAns xs true true T.l 0) := .inr ⟨hle, .inr ⟨T, ts, true, unhide HPRS, .inr ⟨ovr_none (by rw [← unhide HD]; exact hD1) (unhide HALL), by rw [← unhide HTNN]; omega, unhide HLF, rfl, rfl, rfl⟩⟩⟩
                            obtain ⟨p0, p1, p2⟩ := Bx3.facts (unhide HR6)
                            have f0 := World.rowIs.frozen (unhide HR6) 0
                            have f1 := World.rowIs.frozen (unhide HR6) 1
                            have f2 := World.rowIs.frozen (unhide HR6) 2
                            go_wp2
                            refine bodyPost_ret (v := .tuple #[.agg #[.bool true, .bool true, .slice o5 nT d5], .int .i64 0]) (by simp [results, Tryz.results6, go_sem, p0, p1, p2]) rfl ?_
                            refine ⟨_, _, _, T.l, 0, rfl, unhide HA, ?_, bput (bput (bput (unhide HB6) (Nat.le_refl _) _) (Nat.le_refl _) _) (Nat.le_refl _) _⟩
                            refine ((unhide HG5).foot.same (fun k hk => ?_)).mono (fun k hk => ⟨Nat.le_trans (by omega) hk.1, by simp only [sz_put]; exact Nat.lt_of_lt_of_le hk.2 hz6⟩)
                            have hk1 : w2.heap.size ≤ k := hk.1
                            rw [Below.heap_setCell _ _ _ _ (by intro e; simp only at e; omega), Below.heap_setCell _ _ _ _ (by intro e; simp only at e; omega), Below.heap_setCell _ _ _ _ (by intro e; simp only at e; omega)]
                            exact (unhide HBB).block k hk.2
                · have HA : Hid (PAns xs false false [] 1) := .inr ⟨hle, .inl ⟨fun T us b hp => hwl ((((unhide HPI T us b).1 (unhide HAT ▸ hp)).2.2).bal), rfl, rfl, rfl, rfl⟩⟩
                  clear hwl HDEEP
                  obtain ⟨p0, p1, p2⟩ := Bx3.facts (unhide HRk)
                  have f0 := World.rowIs.frozen (unhide HRk) 0
                  have f1 := World.rowIs.frozen (unhide HRk) 1
                  have f2 := World.rowIs.frozen (unhide HRk) 2
                  go_wp2
                  refine bodyPost_ret (v := .tuple #[.agg #[.bool false, .bool false, .slice none 0 0], .int .i64 1]) (by simp [results, Tryz.results6, go_sem, p0, p1, p2]) rfl ?_
                  exact ⟨false, false, _, [], 1, rfl, unhide HA, ElsF.nil2 _ _, bput (bput (bput (unhide HBw) (Nat.le_refl _) _) (Nat.le_refl _) _) (Nat.le_refl _) _⟩
            · have hy3 : (y == 36) = false := by simp [hy36]
              have HA : Hid (PAns xs false false [] 1) := .inr ⟨hle, .inl ⟨prs_no1 (unhide HAT) (unhide HN1) (fun s' e => absurd (by have h9 := e.symm.trans hy; have h8 := (List.append_inj' h9 rfl).2; simpa using h8.symm) hy36), rfl, rfl, rfl, rfl⟩⟩
              clear hel hy hzl hc8 h9a h9b hk hmk hm
              have hbw1 := (unhide HBW).trans ((unhide HB1).mono (by omega))
              have HBw1 := hide hbw1
              have HR1 := hide (rk (unhide HRP) (unhide HB1) (Nat.le_refl _))
              clear hbw1
              obtain ⟨p0, p1, p2⟩ := Bx3.facts (unhide HR1)
              have f0 := World.rowIs.frozen (unhide HR1) 0
              have f1 := World.rowIs.frozen (unhide HR1) 1
              have f2 := World.rowIs.frozen (unhide HR1) 2
              go_wp2
              refine bodyPost_ret (v := .tuple #[.agg #[.bool false, .bool false, .slice none 0 0], .int .i64 1]) (by simp [results, Tryz.results6, go_sem, p0, p1, p2]) rfl ?_
              exact ⟨false, false, _, [], 1, rfl, unhide HA, ElsF.nil2 _ _, bput (bput (bput (unhide HBw1) (Nat.le_refl _) _) (Nat.le_refl _) _) (Nat.le_refl _) _⟩
        · have HBK := hide hb1
          have HPI : Hid (∀ T us b, Prs ys T us b ↔ b = false ∧ us = ts ∧ Gr 3 ts T) := fun T us b => prs_lex hx1
          have HTN := hide (lxs_n (unhide HBY) hx1)
          have HTO := hide (lxs_ok (unhide HBY) hx1)
          have HLT : Hid (ts.length ≤ 2000) := by have h9 := lxs_len hx1; rw [← unhide HLM] at h9; show _ ≤ _; omega
          have HVK := hide hv1
          clear hx1 hb1 hv1 HLEX
          have hbw := (unhide HBW).trans ((unhide HBK).mono (by omega))
          have HBw := hide hbw
          have hzk := (unhide HBK).size
          have HRk := hide (rk (unhide HRP) (unhide HBK) (Nat.le_refl _))
          have hlt := unhide HLT
          have HDEEP := hide (l1deep_any _ ts w1 (unhide HVK) (by omega))
          obtain ⟨a3, c3, rfl, -, -⟩ := id (unhide HVK)
          rw [List.length_map] at HVK HDEEP ⊢
          obtain ⟨n, hn⟩ : ∃ n, n = ts.length := ⟨_, rfl⟩
          rw [← hn] at HVK HDEEP hlt ⊢
          have HN := hide hn
          clear hbw hn
          go_wp2_with fail
          refine (unhide HDEEP).mono ?_
          rintro e w4 ⟨⟨D, rfl, hD⟩, hw4⟩
          obtain rfl : w1 = w4 := hw4.symm
          rcases hD with ⟨hwl, hD⟩ | ⟨hwl, rfl⟩
          · have HBLD := hide (l1build_any _ ts w1 (unhide HVK) (by rw [← unhide HN]; omega) hwl (unhide HTN))
            obtain ⟨d, hd⟩ : ∃ d : Nat, d = mxd 0 ts := ⟨_, rfl⟩
            rw [← hd] at hD
            subst hD
            have HD := hide hd
            have hd0 : ¬ (d : Int) < 0 := by omega
            clear hd hwl HDEEP
            go_wp2_with fail
            refine (unhide HBLD).mono ?_
            rintro e w5 ⟨hb5, ⟨hn5, rfl⟩ | ⟨T, v5, hT, rfl, hg5⟩⟩
            · have HA : Hid (PAns xs false false [] 1) := .inr ⟨hle, .inl ⟨fun T us b hp => hn5 T (((unhide HPI T us b).1 (unhide HAT ▸ hp)).2.2), rfl, rfl, rfl, rfl⟩⟩
              have HR5 := hide (rk (unhide HRk) hb5 (Nat.le_refl _))
              have HB5 := hide ((unhide HBw).trans (hb5.mono (by omega)))
              clear hn5 hb5 HBLD
              obtain ⟨p0, p1, p2⟩ := Bx3.facts (unhide HR5)
              have f0 := World.rowIs.frozen (unhide HR5) 0
              have f1 := World.rowIs.frozen (unhide HR5) 1
              have f2 := World.rowIs.frozen (unhide HR5) 2
              go_wp2
              refine bodyPost_ret (v := .tuple #[.agg #[.bool false, .bool false, .slice none 0 0], .int .i64 1]) (by simp [results, Tryz.results6, go_sem, p0, p1, p2]) rfl ?_
              exact ⟨false, false, _, [], 1, rfl, unhide HA, ElsF.nil2 _ _, bput (bput (bput (unhide HB5) (Nat.le_refl _) _) (Nat.le_refl _) _) (Nat.le_refl _) _⟩
            · have HT := hide hT
              have HPRS : Hid (Prs (xs.drop (at1 xs)) T ts false) := unhide HAT ▸ (unhide HPI T ts false).2 ⟨rfl, rfl, hT⟩
              have HR5 := hide (rk (unhide HRk) hb5 (Nat.le_refl _))
              have HB5 := hide ((unhide HBw).trans (hb5.mono (by omega)))
              have hz5 := hb5.size
              have HNC := hide (gr_nice hT (unhide HTN))
              have hTl := (gr_len hT).2
              rw [← unhide HN] at hTl
              have HV5 := hide ((unhide HVK).below hb5 (Nat.le_refl _))
              obtain ⟨o5, d5, rfl⟩ := hg5.form
              obtain ⟨nT, hnT⟩ : ∃ nT, nT = T.l.length := ⟨_, rfl⟩
              rw [← hnT] at hg5 hTl ⊢
              have HNT := hide hnT
              have HG5 := hide hg5
              clear hT hb5 HBLD hg5 hnT
              by_cases hD1 : 100 < d
              · have hD1' : (100 : Int) < (d : Int) := by omega
                have HA : Hid (PAns xs false false [] 2) := .inr ⟨hle, .inr ⟨T, ts, false, unhide HPRS, .inl ⟨.inl (ovr_deep (by rw [← unhide HD]; exact hD1)), rfl, rfl, rfl, rfl⟩⟩⟩
                obtain ⟨p0, p1, p2⟩ := Bx3.facts (unhide HR5)
                have f0 := World.rowIs.frozen (unhide HR5) 0
                have f1 := World.rowIs.frozen (unhide HR5) 1
                have f2 := World.rowIs.frozen (unhide HR5) 2
                go_wp2
                refine bodyPost_ret (v := .tuple #[.agg #[.bool false, .bool false, .slice none 0 0], .int .i64 2]) (by simp [results, Tryz.results6, go_sem, p0, p1, p2]) rfl ?_
                exact ⟨false, false, _, [], 2, rfl, unhide HA, ElsF.nil2 _ _, bput (bput (bput (unhide HB5) (Nat.le_refl _) _) (Nat.le_refl _) _) (Nat.le_refl _) _⟩
              · have hD1' : ¬ (100 : Int) < (d : Int) := by omega
                go_wp2_with fail
                go_loop [12] (fun iv => ∃ i : Nat, i ≤ n ∧ iv = .int .i64 (i : Nat) ∧ NoBig ts i) (fun iv => n - (intOf iv).toNat)
                case atStart => exact ⟨0, Nat.zero_le _, rfl, fun j t hj => absurd hj (Nat.not_lt_zero _)⟩
                case round =>
                  obtain ⟨i, hi, rfl, hnb⟩ := hrel
                  have HNB := hide hnb
                  clear hnb
                  by_cases hlt2 : i < n
                  · have hlt2' : (i : Int) < (n : Int) := by omega
                    have h0i : (0 : Int) ≤ (i : Int) := by omega
                    obtain ⟨b, off, ea, hel⟩ := els_some (unhide HV5) (by omega)
                    subst ea
                    obtain ⟨t, ht⟩ : ∃ t, ts[i]? = some t := ⟨ts[i]'(by rw [← unhide HN]; exact hlt2), List.getElem?_eq_getElem _⟩
                    obtain ⟨-, -, -, -, -, -, x2, x3, -⟩ := el_at rfl (fun i hi => hel i (by rw [List.length_map]; exact hi)) ht
                    obtain ⟨mn, hmn⟩ : ∃ mn, mn = (tkE t).mn := ⟨_, rfl⟩
                    obtain ⟨mx, hmx⟩ : ∃ mx, mx = (tkE t).mx := ⟨_, rfl⟩
                    rw [← hmn] at x2
                    rw [← hmx] at x3
                    have HTI := hide ht
                    have HMN := hide hmn
                    have HMX := hide hmx
                    clear hel ht hmn hmx
                    by_cases hg1 : 250 < mn
                    · have HA : Hid (PAns xs false false [] 2) := .inr ⟨hle, .inr ⟨T, ts, false, unhide HPRS, .inl ⟨.inl (ovr_big (unhide HTI) (.inl (by rw [← unhide HMN]; exact hg1))), rfl, rfl, rfl, rfl⟩⟩⟩
                      obtain ⟨p0, p1, p2⟩ := Bx3.facts (unhide HR5)
                      have f0 := World.rowIs.frozen (unhide HR5) 0
                      have f1 := World.rowIs.frozen (unhide HR5) 1
                      have f2 := World.rowIs.frozen (unhide HR5) 2
                      go_wp2
                      refine bodyPost_ret (v := .tuple #[.agg #[.bool false, .bool false, .slice none 0 0], .int .i64 2]) (by simp [results, Tryz.results6, go_sem, p0, p1, p2]) rfl ?_
                      exact ⟨false, false, _, [], 2, rfl, unhide HA, ElsF.nil2 _ _, bput (bput (bput (unhide HB5) (Nat.le_refl _) _) (Nat.le_refl _) _) (Nat.le_refl _) _⟩
                    by_cases hg2 : 250 < mx
                    · have HA : Hid (PAns xs false false [] 2) := .inr ⟨hle, .inr ⟨T, ts, false, unhide HPRS, .inl ⟨.inl (ovr_big (unhide HTI) (.inr (by rw [← unhide HMX]; exact hg2))), rfl, rfl, rfl, rfl⟩⟩⟩
                      obtain ⟨p0, p1, p2⟩ := Bx3.facts (unhide HR5)
                      have f0 := World.rowIs.frozen (unhide HR5) 0
                      have f1 := World.rowIs.frozen (unhide HR5) 1
                      have f2 := World.rowIs.frozen (unhide HR5) 2
                      go_wp2
                      refine bodyPost_ret (v := .tuple #[.agg #[.bool false, .bool false, .slice none 0 0], .int .i64 2]) (by simp [results, Tryz.results6, go_sem, p0, p1, p2]) rfl ?_
                      exact ⟨false, false, _, [], 2, rfl, unhide HA, ElsF.nil2 _ _, bput (bput (bput (unhide HB5) (Nat.le_refl _) _) (Nat.le_refl _) _) (Nat.le_refl _) _⟩
                    · have HNB2 : Hid (NoBig ts (i + 1)) := (unhide HNB).go (unhide HTI) (by rw [← unhide HMN]; exact hg1) (by rw [← unhide HMX]; exact hg2)
                      go_wp2
                      go_round
                      case rel => exact ⟨i + 1, by omega, by go_num, unhide HNB2⟩
                      case measure => simp [intOf]; omega
                  · obtain rfl : i = n := by omega
                    have hlt2' : ¬ (i : Int) < (i : Int) := by omega
                    have HALL : Hid (∀ t ∈ ts, bigR 250 t = false) := (unhide HNB).all (by rw [← unhide HN]; exact Nat.le_refl _)
                    have HSZ := hide ((gr_size (unhide HT) (unhide HTO) (unhide HALL)).2 _ w5 ((unhide HG5).els (unhide HNC)) (by rw [← unhide HNT]; omega))
                    obtain ⟨tn, htn⟩ : ∃ tn, tn = T.n := ⟨_, rfl⟩
                    rw [← htn] at HSZ
                    have HTNN := hide htn
                    clear htn
                    go_wp2_with fail
                    refine (unhide HSZ).mono ?_
                    rintro e w6 ⟨rfl, hb6⟩
                    have HR6 := hide (rk (unhide HR5) hb6 (Nat.le_refl _))
                    have HB6 := hide ((unhide HB5).trans (hb6.mono (by omega)))
                    have HBB := hide hb6
                    have hz6 := hb6.size
                    clear hb6 HSZ
                    by_cases h500 : 500 < tn
                    · have HA : Hid (PAns xs false false [] 2) := .inr ⟨hle, .inr ⟨T, ts, false, unhide HPRS, .inl ⟨.inr (by rw [← unhide HTNN]; exact h500), rfl, rfl, rfl, rfl⟩⟩⟩
                      obtain ⟨p0, p1, p2⟩ := Bx3.facts (unhide HR6)
                      have f0 := World.rowIs.frozen (unhide HR6) 0
                      have f1 := World.rowIs.frozen (unhide HR6) 1
                      have f2 := World.rowIs.frozen (unhide HR6) 2
                      go_wp2
                      refine bodyPost_ret (v := .tuple #[.agg #[.bool false, .bool false, .slice none 0 0], .int .i64 2]) (by simp [results, Tryz.results6, go_sem, p0, p1, p2]) rfl ?_
                      exact ⟨false, false, _, [], 2, rfl, unhide HA, ElsF.nil2 _ _, bput (bput (bput (unhide HB6) (Nat.le_refl _) _) (Nat.le_refl _) _) (Nat.le_refl _) _⟩
                    · have HA : Hid (PAns xs true false T.l 0) := .inr ⟨hle, .inr ⟨T, ts, false, unhide HPRS, .inr ⟨ovr_none (by rw [← unhide HD]; exact hD1) (unhide HALL), by rw [← unhide HTNN]; omega, unhide HLF, rfl, rfl, rfl⟩⟩⟩
                      obtain ⟨p0, p1, p2⟩ := Bx3.facts (unhide HR6)
                      have f0 := World.rowIs.frozen (unhide HR6) 0
                      have f1 := World.rowIs.frozen (unhide HR6) 1
                      have f2 := World.rowIs.frozen (unhide HR6) 2
                      go_wp2
                      refine bodyPost_ret (v := .tuple #[.agg #[.bool true, .bool false, .slice o5 nT d5], .int .i64 0]) (by simp [results, Tryz.results6, go_sem, p0, p1, p2]) rfl ?_
                      refine ⟨_, _, _, T.l, 0, rfl, unhide HA, ?_, bput (bput (bput (unhide HB6) (Nat.le_refl _) _) (Nat.le_refl _) _) (Nat.le_refl _) _⟩
                      refine ((unhide HG5).foot.same (fun k hk => ?_)).mono (fun k hk => ⟨Nat.le_trans (by omega) hk.1, by simp only [sz_put]; exact Nat.lt_of_lt_of_le hk.2 hz6⟩)
                      have hk1 : w1.heap.size ≤ k := hk.1
                      rw [Below.heap_setCell _ _ _ _ (by intro e; simp only at e; omega), Below.heap_setCell _ _ _ _ (by intro e; simp only at e; omega), Below.heap_setCell _ _ _ _ (by intro e; simp only at e; omega)]
                      exact (unhide HBB).block k hk.2
          · have HA : Hid (PAns xs false false [] 1) := .inr ⟨hle, .inl ⟨fun T us b hp => hwl ((((unhide HPI T us b).1 (unhide HAT ▸ hp)).2.2).bal), rfl, rfl, rfl, rfl⟩⟩
            clear hwl HDEEP
            obtain ⟨p0, p1, p2⟩ := Bx3.facts (unhide HRk)
            have f0 := World.rowIs.frozen (unhide HRk) 0
            have f1 := World.rowIs.frozen (unhide HRk) 1
            have f2 := World.rowIs.frozen (unhide HRk) 2
            go_wp2
            refine bodyPost_ret (v := .tuple #[.agg #[.bool false, .bool false, .slice none 0 0], .int .i64 1]) (by simp [results, Tryz.results6, go_sem, p0, p1, p2]) rfl ?_
            exact ⟨false, false, _, [], 1, rfl, unhide HA, ElsF.nil2 _ _, bput (bput (bput (unhide HBw) (Nat.le_refl _) _) (Nat.le_refl _) _) (Nat.le_refl _) _⟩
      · have hp : pkB xs 0 ≠ 94 := by rw [hpc]; exact h94
        have hlf : decide (pkB xs 0 = 94) = false := decide_eq_false hp
        obtain ⟨ys, hys⟩ : ∃ ys, ys = xs := ⟨_, rfl⟩
        obtain ⟨m, hm9⟩ : ∃ m : Nat, m = n0 := ⟨_, rfl⟩
        have HAT : Hid (xs.drop (at1 xs) = ys) := by show _ = _; rw [hys]; exact noc hp
        have HS : Hid (SlAt mB 0 0 W.heap.size W (.slice (some ⟨b0, off0, none⟩) m cp) ys) := by show SlAt _ _ _ _ _ _ _; rw [hys, hm9, unhide HN0]; exact unhide HT0
        have HBY : Hid (BytesIn ys) := by show BytesIn _; rw [hys]; exact unhide HB
        have HLM : Hid (m = ys.length) := by show _ = _; rw [hys, hm9]; exact unhide HN0
        rw [← hm9] at hlen' h0 hlc ⊢
        have h0m : (0 : Int) < (m : Int) := by omega
        have h94' : (c == 94) = false := by simp [h94]
        have HLF : Hid (false = decide (pkB xs 0 = 94)) := by show _ = _; rw [hlf]
        have hm2 : m ≤ 2000 := by omega
        clear hlen hc hel0 hcx hpc hp noc HT0 hys hm9 HN0 HB hlf h0 hbn0 hcap
        go_enter Tryz.func6, Tryz.ntmps6
        have HLEX := hide (l1lex_any _ ys W (unhide HS) (unhide HBY) (by rw [← unhide HLM]; omega))
        go_wp2_with fail
        rw [← unhide HWE]
        refine (unhide HLEX).mono ?_
        rintro e w1 ⟨hb1, ⟨hn1, rfl⟩ | ⟨ts, v1, hx1, rfl, hv1⟩⟩
        · have HN1 := hide hn1
          have HB1 := hide hb1
          clear hn1 hb1 HLEX
          by_cases hm : m = 0
          · exact absurd hm (by omega)
          · obtain ⟨k, hk⟩ : ∃ k, k = m - 1 := ⟨_, rfl⟩
            have hmk : m = k + 1 := by omega
            have hk1 : (m : Int) - 1 = (k : Int) := by omega
            have hk2 : (0 : Int) < (m : Int) := by omega
            have hk3 : (k : Int) < (m : Int) := by omega
            have hk4 : (0 : Int) ≤ (k : Int) := by omega
            obtain ⟨z, y, hy⟩ : ∃ (z : List Int) (y : Int), ys = z ++ [y] := by
              rcases List.eq_nil_or_concat ys with h | ⟨z, y, h⟩
              · have h9 := unhide HLM; rw [h] at h9; exact absurd h9 hm
              · exact ⟨z, y, by rw [h, List.concat_eq_append]⟩
            have hzl : k = z.length := by have h9 := unhide HLM; rw [hy] at h9; simp at h9; omega
            have HS1 := hide ((unhide HS).below (unhide HB1) (Nat.le_refl _))
            obtain ⟨-, hc8, h9a, h9b, hel⟩ := sl_some (unhide HS1) (by omega)
            have x0 : w1.cell? ⟨b0, off0 + k, none⟩ = some (.int .u8 y) := by rw [hel k (by rw [← unhide HLM]; omega), hy, hzl]; simp [mB]
            have hkc : (k : Int) ≤ (cp : Int) := by omega
            have hkc1 : k ≤ cp := by omega
            have hkl : k ≤ 2000 := by omega
            by_cases hy36 : y = 36
            · subst hy36
              have HZ := hide hy
              have HTK : Hid (SlAt mB 0 0 w1.heap.size w1 (.slice (some ⟨b0, off0, none⟩) k cp) z) := by
                have h8 := bt_take (cap := cp) (k := k) (by rw [← unhide HLM]; omega) hc8 h9a h9b hel
                rw [hy, hzl, List.take_left] at h8
                rw [hzl]
                exact h8
              have HBZ : Hid (BytesIn z) := fun x hx => unhide HBY x (by rw [hy]; simp [hx])
              have HLX2 := hide (l1lex_any _ z w1 (unhide HTK) (unhide HBZ) (by rw [← hzl]; omega))
              have HZL := hide hzl
              clear hel hy hzl hc8 h9a h9b hk hmk hm
              go_wp2_with fail
              refine (unhide HLX2).mono ?_
              rintro e w2 ⟨hb2, ⟨hn2, rfl⟩ | ⟨ts, v2, hx2, rfl, hv2⟩⟩
              · have HA : Hid (PAns xs false false [] 1) := .inr ⟨hle, .inl ⟨prs_no1 (unhide HAT) (unhide HN1) (fun s' e => by have h9 := e.symm.trans (unhide HZ); have h8 := (List.append_inj' h9 rfl).1; rw [h8]; exact hn2), rfl, rfl, rfl, rfl⟩⟩
                have HB2 := hide ((unhide HB1).trans (hb2.mono (unhide HB1).size))
                have hbw2 := (unhide HBW).trans ((unhide HB2).mono (by omega))
                have HBw2 := hide hbw2
                have HR2 := hide (rk (unhide HRP) (unhide HB2) (Nat.le_refl _))
                clear hn2 hb2 hbw2 HLX2
                obtain ⟨p0, p1, p2⟩ := Bx3.facts (unhide HR2)
                have f0 := World.rowIs.frozen (unhide HR2) 0
                have f1 := World.rowIs.frozen (unhide HR2) 1
                have f2 := World.rowIs.frozen (unhide HR2) 2
                go_wp2
                refine bodyPost_ret (v := .tuple #[.agg #[.bool false, .bool false, .slice none 0 0], .int .i64 1]) (by simp [results, Tryz.results6, go_sem, p0, p1, p2]) rfl ?_
                exact ⟨false, false, _, [], 1, rfl, unhide HA, ElsF.nil2 _ _, bput (bput (bput (unhide HBw2) (Nat.le_refl _) _) (Nat.le_refl _) _) (Nat.le_refl _) _⟩
              · have HBK := hide ((unhide HB1).trans (hb2.mono (unhide HB1).size))
                have HPI : Hid (∀ T us b, Prs ys T us b ↔ b = true ∧ us = ts ∧ Gr 3 ts T) := fun T us b => by rw [unhide HZ]; exact prs_dollar hx2
                have HTN := hide (lxs_n (unhide HBZ) hx2)
                have HTO := hide (lxs_ok (unhide HBZ) hx2)
                have HLT : Hid (ts.length ≤ 2000) := by have h9 := lxs_len hx2; rw [← unhide HZL] at h9; show _ ≤ _; omega
                have HVK := hide hv2
                clear hx2 hb2 hv2 HLX2 HN1 x0 HTK HBZ
                have hbw := (unhide HBW).trans ((unhide HBK).mono (by omega))
                have HBw := hide hbw
                have hzk := (unhide HBK).size
                have HRk := hide (rk (unhide HRP) (unhide HBK) (Nat.le_refl _))
                have hlt := unhide HLT
                have HDEEP := hide (l1deep_any _ ts w2 (unhide HVK) (by omega))
                obtain ⟨a3, c3, rfl, -, -⟩ := id (unhide HVK)
                rw [List.length_map] at HVK HDEEP ⊢
                obtain ⟨n, hn⟩ : ∃ n, n = ts.length := ⟨_, rfl⟩
                rw [← hn] at HVK HDEEP hlt ⊢
                have HN := hide hn
                clear hbw hn
                go_wp2_with fail
                refine (unhide HDEEP).mono ?_
                rintro e w4 ⟨⟨D, rfl, hD⟩, hw4⟩
                obtain rfl : w2 = w4 := hw4.symm
                rcases hD with ⟨hwl, hD⟩ | ⟨hwl, rfl⟩
                · have HBLD := hide (l1build_any _ ts w2 (unhide HVK) (by rw [← unhide HN]; omega) hwl (unhide HTN))
                  obtain ⟨d, hd⟩ : ∃ d : Nat, d = mxd 0 ts := ⟨_, rfl⟩
                  rw [← hd] at hD
                  subst hD
                  have HD := hide hd
                  have hd0 : ¬ (d : Int) < 0 := by omega
                  clear hd hwl HDEEP
                  go_wp2_with fail
                  refine (unhide HBLD).mono ?_
                  rintro e w5 ⟨hb5, ⟨hn5, rfl⟩ | ⟨T, v5, hT, rfl, hg5⟩⟩
                  · have HA : Hid (PAns xs false false [] 1) := .inr ⟨hle, .inl ⟨fun T us b hp => hn5 T (((unhide HPI T us b).1 (unhide HAT ▸ hp)).2.2), rfl, rfl, rfl, rfl⟩⟩
                    have HR5 := hide (rk (unhide HRk) hb5 (Nat.le_refl _))
                    have HB5 := hide ((unhide HBw).trans (hb5.mono (by omega)))
                    clear hn5 hb5 HBLD
                    obtain ⟨p0, p1, p2⟩ := Bx3.facts (unhide HR5)
                    have f0 := World.rowIs.frozen (unhide HR5) 0
                    have f1 := World.rowIs.frozen (unhide HR5) 1
                    have f2 := World.rowIs.frozen (unhide HR5) 2
                    go_wp2
                    refine bodyPost_ret (v := .tuple #[.agg #[.bool false, .bool false, .slice none 0 0], .int .i64 1]) (by simp [results, Tryz.results6, go_sem, p0, p1, p2]) rfl ?_
                    exact ⟨false, false, _, [], 1, rfl, unhide HA, ElsF.nil2 _ _, bput (bput (bput (unhide HB5) (Nat.le_refl _) _) (Nat.le_refl _) _) (Nat.le_refl _) _⟩
                  · have HT := hide hT
                    have HPRS : Hid (Prs (xs.drop (at1 xs)) T ts true) := unhide HAT ▸ (unhide HPI T ts true).2 ⟨rfl, rfl, hT⟩
                    have HR5 := hide (rk (unhide HRk) hb5 (Nat.le_refl _))
                    have HB5 := hide ((unhide HBw).trans (hb5.mono (by omega)))
                    have hz5 := hb5.size
                    have HNC := hide (gr_nice hT (unhide HTN))
                    have hTl := (gr_len hT).2
                    rw [← unhide HN] at hTl
                    have HV5 := hide ((unhide HVK).below hb5 (Nat.le_refl _))
                    obtain ⟨o5, d5, rfl⟩ := hg5.form
                    obtain ⟨nT, hnT⟩ : ∃ nT, nT = T.l.length := ⟨_, rfl⟩
                    rw [← hnT] at hg5 hTl ⊢
                    have HNT := hide hnT
                    have HG5 := hide hg5
                    clear hT hb5 HBLD hg5 hnT
                    by_cases hD1 : 100 < d
                    · have hD1' : (100 : Int) < (d : Int) := by omega
                      have HA : Hid (PAns xs false false [] 2) := .inr ⟨hle, .inr ⟨T, ts, true, unhide HPRS, .inl ⟨.inl (ovr_deep (by rw [← unhide HD]; exact hD1)), rfl, rfl, rfl, rfl⟩⟩⟩
                      obtain ⟨p0, p1, p2⟩ := Bx3.facts (unhide HR5)
                      have f0 := World.rowIs.frozen (unhide HR5) 0
                      have f1 := World.rowIs.frozen (unhide HR5) 1
                      have f2 := World.rowIs.frozen (unhide HR5) 2
                      go_wp2
                      refine bodyPost_ret (v := .tuple #[.agg #[.bool false, .bool false, .slice none 0 0], .int .i64 2]) (by simp [results, Tryz.results6, go_sem, p0, p1, p2]) rfl ?_
                      exact ⟨false, false, _, [], 2, rfl, unhide HA, ElsF.nil2 _ _, bput (bput (bput (unhide HB5) (Nat.le_refl _) _) (Nat.le_refl _) _) (Nat.le_refl _) _⟩
                    · have hD1' : ¬ (100 : Int) < (d : Int) := by omega
                      go_wp2_with fail
                      go_loop [12] (fun iv => ∃ i : Nat, i ≤ n ∧ iv = .int .i64 (i : Nat) ∧ NoBig ts i) (fun iv => n - (intOf iv).toNat)
                      case atStart => exact ⟨0, Nat.zero_le _, rfl, fun j t hj => absurd hj (Nat.not_lt_zero _)⟩
                      case round =>
                        obtain ⟨i, hi, rfl, hnb⟩ := hrel
                        have HNB := hide hnb
                        clear hnb
                        by_cases hlt2 : i < n
                        · have hlt2' : (i : Int) < (n : Int) := by omega
                          have h0i : (0 : Int) ≤ (i : Int) := by omega
                          obtain ⟨b, off, ea, hel⟩ := els_some (unhide HV5) (by omega)
                          subst ea
                          obtain ⟨t, ht⟩ : ∃ t, ts[i]? = some t := ⟨ts[i]'(by rw [← unhide HN]; exact hlt2), List.getElem?_eq_getElem _⟩
                          obtain ⟨-, -, -, -, -, -, x2, x3, -⟩ := el_at rfl (fun i hi => hel i (by rw [List.length_map]; exact hi)) ht
                          obtain ⟨mn, hmn⟩ : ∃ mn, mn = (tkE t).mn := ⟨_, rfl⟩
                          obtain ⟨mx, hmx⟩ : ∃ mx, mx = (tkE t).mx := ⟨_, rfl⟩
                          rw [← hmn] at x2
                          rw [← hmx] at x3
                          have HTI := hide ht
                          have HMN := hide hmn
                          have HMX := hide hmx
                          clear hel ht hmn hmx
                          by_cases hg1 : 250 < mn
                          · have HA : Hid (PAns xs false false [] 2) := .inr ⟨hle, .inr ⟨T, ts, true, unhide HPRS, .inl ⟨.inl (ovr_big (unhide HTI) (.inl (by rw [← unhide HMN]; exact hg1))), rfl, rfl, rfl, rfl⟩⟩⟩
                            obtain ⟨p0, p1, p2⟩ := Bx3.facts (unhide HR5)
                            have f0 := World.rowIs.frozen (unhide HR5) 0
                            have f1 := World.rowIs.frozen (unhide HR5) 1
                            have f2 := World.rowIs.frozen (unhide HR5) 2
                            go_wp2
                            refine bodyPost_ret (v := .tuple #[.agg #[.bool false, .bool false, .slice none 0 0], .int .i64 2]) (by simp [results, Tryz.results6, go_sem, p0, p1, p2]) rfl ?_
                            exact ⟨false, false, _, [], 2, rfl, unhide HA, ElsF.nil2 _ _, bput (bput (bput (unhide HB5) (Nat.le_refl _) _) (Nat.le_refl _) _) (Nat.le_refl _) _⟩
                          by_cases hg2 : 250 < mx
                          · have HA : Hid (PAns xs false false [] 2) := .inr ⟨hle, .inr ⟨T, ts, true, unhide HPRS, .inl ⟨.inl (ovr_big (unhide HTI) (.inr (by rw [← unhide HMX]; exact hg2))), rfl, rfl, rfl, rfl⟩⟩⟩
                            obtain ⟨p0, p1, p2⟩ := Bx3.facts (unhide HR5)
                            have f0 := World.rowIs.frozen (unhide HR5) 0
                            have f1 := World.rowIs.frozen (unhide HR5) 1
                            have f2 := World.rowIs.frozen (unhide HR5) 2
                            go_wp2
                            refine bodyPost_ret (v := .tuple #[.agg #[.bool false, .bool false, .slice none 0 0], .int .i64 2]) (by simp [results, Tryz.results6, go_sem, p0, p1, p2]) rfl ?_
                            exact ⟨false, false, _, [], 2, rfl, unhide HA, ElsF.nil2 _ _, bput (bput (bput (unhide HB5) (Nat.le_refl _) _) (Nat.le_refl _) _) (Nat.le_refl _) _⟩
                          · have HNB2 : Hid (NoBig ts (i + 1)) := (unhide HNB).go (unhide HTI) (by rw [← unhide HMN]; exact hg1) (by rw [← unhide HMX]; exact hg2)
                            go_wp2
                            go_round
                            case rel => exact ⟨i + 1, by omega, by go_num, unhide HNB2⟩
                            case measure => simp [intOf]; omega
                        · obtain rfl : i = n := by omega
                          have hlt2' : ¬ (i : Int) < (i : Int) := by omega
                          have HALL : Hid (∀ t ∈ ts, bigR 250 t = false) := (unhide HNB).all (by rw [← unhide HN]; exact Nat.le_refl _)
                          have HSZ := hide ((gr_size (unhide HT) (unhide HTO) (unhide HALL)).2 _ w5 ((unhide HG5).els (unhide HNC)) (by rw [← unhide HNT]; omega))
                          obtain ⟨tn, htn⟩ : ∃ tn, tn = T.n := ⟨_, rfl⟩
                          rw [← htn] at HSZ
                          have HTNN := hide htn
                          clear htn
                          go_wp2_with fail
                          refine (unhide HSZ).mono ?_
                          rintro e w6 ⟨rfl, hb6⟩
                          have HR6 := hide (rk (unhide HR5) hb6 (Nat.le_refl _))
                          have HB6 := hide ((unhide HB5).trans (hb6.mono (by omega)))
                          have HBB := hide hb6
                          have hz6 := hb6.size
                          clear hb6 HSZ
                          by_cases h500 : 500 < tn
                          · have HA : Hid (PAns xs false false [] 2) := .inr ⟨hle, .inr ⟨T, ts, true, unhide HPRS, .inl ⟨.inr (by rw [← unhide HTNN]; exact h500), rfl, rfl, rfl, rfl⟩⟩⟩
                            obtain ⟨p0, p1, p2⟩ := Bx3.facts (unhide HR6)
                            have f0 := World.rowIs.frozen (unhide HR6) 0
                            have f1 := World.rowIs.frozen (unhide HR6) 1
                            have f2 := World.rowIs.frozen (unhide HR6) 2
                            go_wp2
                            refine bodyPost_ret (v := .tuple #[.agg #[.bool false, .bool false, .slice none 0 0], .int .i64 2]) (by simp [results, Tryz.results6, go_sem, p0, p1, p2]) rfl ?_
                            exact ⟨false, false, _, [], 2, rfl, unhide HA, ElsF.nil2 _ _, bput (bput (bput (unhide HB6) (Nat.le_refl _) _) (Nat.le_refl _) _) (Nat.le_refl _) _⟩
                          · have HA : Hid (PAns xs false true T.l 0) := .inr ⟨hle, .inr ⟨T, ts, true, unhide HPRS, .inr ⟨ovr_none (by rw [← unhide HD]; exact hD1) (unhide HALL), by rw [← unhide HTNN]; omega, unhide HLF, rfl, rfl, rfl⟩⟩⟩
                            obtain ⟨p0, p1, p2⟩ := Bx3.facts (unhide HR6)
                            have f0 := World.rowIs.frozen (unhide HR6) 0
                            have f1 := World.rowIs.frozen (unhide HR6) 1
                            have f2 := World.rowIs.frozen (unhide HR6) 2
                            go_wp2
                            refine bodyPost_ret (v := .tuple #[.agg #[.bool false, .bool true, .slice o5 nT d5], .int .i64 0]) (by simp [results, Tryz.results6, go_sem, p0, p1, p2]) rfl ?_
                            refine ⟨_, _, _, T.l, 0, rfl, unhide HA, ?_, bput (bput (bput (unhide HB6) (Nat.le_refl _) _) (Nat.le_refl _) _) (Nat.le_refl _) _⟩
                            refine ((unhide HG5).foot.same (fun k hk => ?_)).mono (fun k hk => ⟨Nat.le_trans (by omega) hk.1, by simp only [sz_put]; exact Nat.lt_of_lt_of_le hk.2 hz6⟩)
                            have hk1 : w2.heap.size ≤ k := hk.1
                            rw [Below.heap_setCell _ _ _ _ (by intro e; simp only at e; omega), Below.heap_setCell _ _ _ _ (by intro e; simp only at e; omega), Below.heap_setCell _ _ _ _ (by intro e; simp only at e; omega)]
                            exact (unhide HBB).block k hk.2
                · have HA : Hid (PAns xs false false [] 1) := .inr ⟨hle, .inl ⟨fun T us b hp => hwl ((((unhide HPI T us b).1 (unhide HAT ▸ hp)).2.2).bal), rfl, rfl, rfl, rfl⟩⟩
                  clear hwl HDEEP
                  obtain ⟨p0, p1, p2⟩ := Bx3.facts (unhide HRk)
                  have f0 := World.rowIs.frozen (unhide HRk) 0
                  have f1 := World.rowIs.frozen (unhide HRk) 1
                  have f2 := World.rowIs.frozen (unhide HRk) 2
                  go_wp2
                  refine bodyPost_ret (v := .tuple #[.agg #[.bool false, .bool false, .slice none 0 0], .int .i64 1]) (by simp [results, Tryz.results6, go_sem, p0, p1, p2]) rfl ?_
                  exact ⟨false, false, _, [], 1, rfl, unhide HA, ElsF.nil2 _ _, bput (bput (bput (unhide HBw) (Nat.le_refl _) _) (Nat.le_refl _) _) (Nat.le_refl _) _⟩
            · have hy3 : (y == 36) = false := by simp [hy36]
              have HA : Hid (PAns xs false false [] 1) := .inr ⟨hle, .inl ⟨prs_no1 (unhide HAT) (unhide HN1) (fun s' e => absurd (by have h9 := e.symm.trans hy; have h8 := (List.append_inj' h9 rfl).2; simpa using h8.symm) hy36), rfl, rfl, rfl, rfl⟩⟩
              clear hel hy hzl hc8 h9a h9b hk hmk hm
              have hbw1 := (unhide HBW).trans ((unhide HB1).mono (by omega))
              have HBw1 := hide hbw1
              have HR1 := hide (rk (unhide HRP) (unhide HB1) (Nat.le_refl _))
              clear hbw1
              obtain ⟨p0, p1, p2⟩ := Bx3.facts (unhide HR1)
              have f0 := World.rowIs.frozen (unhide HR1) 0
              have f1 := World.rowIs.frozen (unhide HR1) 1
              have f2 := World.rowIs.frozen (unhide HR1) 2
              go_wp2
              refine bodyPost_ret (v := .tuple #[.agg #[.bool false, .bool false, .slice none 0 0], .int .i64 1]) (by simp [results, Tryz.results6, go_sem, p0, p1, p2]) rfl ?_
              exact ⟨false, false, _, [], 1, rfl, unhide HA, ElsF.nil2 _ _, bput (bput (bput (unhide HBw1) (Nat.le_refl _) _) (Nat.le_refl _) _) (Nat.le_refl _) _⟩
        · have HBK := hide hb1
          have HPI : Hid (∀ T us b, Prs ys T us b ↔ b = false ∧ us = ts ∧ Gr 3 ts T) := fun T us b => prs_lex hx1
          have HTN := hide (lxs_n (unhide HBY) hx1)
          have HTO := hide (lxs_ok (unhide HBY) hx1)
          have HLT : Hid (ts.length ≤ 2000) := by have h9 := lxs_len hx1; rw [← unhide HLM] at h9; show _ ≤ _; omega
          have HVK := hide hv1
          clear hx1 hb1 hv1 HLEX
          have hbw := (unhide HBW).trans ((unhide HBK).mono (by omega))
          have HBw := hide hbw
          have hzk := (unhide HBK).size
          have HRk := hide (rk (unhide HRP) (unhide HBK) (Nat.le_refl _))
          have hlt := unhide HLT
          have HDEEP := hide (l1deep_any _ ts w1 (unhide HVK) (by omega))
          obtain ⟨a3, c3, rfl, -, -⟩ := id (unhide HVK)
          rw [List.length_map] at HVK HDEEP ⊢
          obtain ⟨n, hn⟩ : ∃ n, n = ts.length := ⟨_, rfl⟩
          rw [← hn] at HVK HDEEP hlt ⊢
          have HN := hide hn
          clear hbw hn
          go_wp2_with fail
          refine (unhide HDEEP).mono ?_
          rintro e w4 ⟨⟨D, rfl, hD⟩, hw4⟩
          obtain rfl : w1 = w4 := hw4.symm
          rcases hD with ⟨hwl, hD⟩ | ⟨hwl, rfl⟩
          · have HBLD := hide (l1build_any _ ts w1 (unhide HVK) (by rw [← unhide HN]; omega) hwl (unhide HTN))
            obtain ⟨d, hd⟩ : ∃ d : Nat, d = mxd 0 ts := ⟨_, rfl⟩
            rw [← hd] at hD
            subst hD
            have HD := hide hd
            have hd0 : ¬ (d : Int) < 0 := by omega
            clear hd hwl HDEEP
            go_wp2_with fail
            refine (unhide HBLD).mono ?_
            rintro e w5 ⟨hb5, ⟨hn5, rfl⟩ | ⟨T, v5, hT, rfl, hg5⟩⟩
            · have HA : Hid (PAns xs false false [] 1) := .inr ⟨hle, .inl ⟨fun T us b hp => hn5 T (((unhide HPI T us b).1 (unhide HAT ▸ hp)).2.2), rfl, rfl, rfl, rfl⟩⟩
              have HR5 := hide (rk (unhide HRk) hb5 (Nat.le_refl _))
              have HB5 := hide ((unhide HBw).trans (hb5.mono (by omega)))
              clear hn5 hb5 HBLD
              obtain ⟨p0, p1, p2⟩ := Bx3.facts (unhide HR5)
              have f0 := World.rowIs.frozen (unhide HR5) 0
              have f1 := World.rowIs.frozen (unhide HR5) 1
              have f2 := World.rowIs.frozen (unhide HR5) 2
              go_wp2
              refine bodyPost_ret (v := .tuple #[.agg #[.bool false, .bool false, .slice none 0 0], .int .i64 1]) (by simp [results, Tryz.results6, go_sem, p0, p1, p2]) rfl ?_
              exact ⟨false, false, _, [], 1, rfl, unhide HA, ElsF.nil2 _ _, bput (bput (bput (unhide HB5) (Nat.le_refl _) _) (Nat.le_refl _) _) (Nat.le_refl _) _⟩
            · have HT := hide hT
              have HPRS : Hid (Prs (xs.drop (at1 xs)) T ts false) := unhide HAT ▸ (unhide HPI T ts false).2 ⟨rfl, rfl, hT⟩
              have HR5 := hide (rk (unhide HRk) hb5 (Nat.le_refl _))
              have HB5 := hide ((unhide HBw).trans (hb5.mono (by omega)))
              have hz5 := hb5.size
              have HNC := hide (gr_nice hT (unhide HTN))
              have hTl := (gr_len hT).2
              rw [← unhide HN] at hTl
              have HV5 := hide ((unhide HVK).below hb5 (Nat.le_refl _))
              obtain ⟨o5, d5, rfl⟩ := hg5.form
              obtain ⟨nT, hnT⟩ : ∃ nT, nT = T.l.length := ⟨_, rfl⟩
              rw [← hnT] at hg5 hTl ⊢
              have HNT := hide hnT
              have HG5 := hide hg5
              clear hT hb5 HBLD hg5 hnT
              by_cases hD1 : 100 < d
              · have hD1' : (100 : Int) < (d : Int) := by omega
                have HA : Hid (PAns xs false false [] 2) := .inr ⟨hle, .inr ⟨T, ts, false, unhide HPRS, .inl ⟨.inl (ovr_deep (by rw [← unhide HD]; exact hD1)), rfl, rfl, rfl, rfl⟩⟩⟩
                obtain ⟨p0, p1, p2⟩ := Bx3.facts (unhide HR5)
                have f0 := World.rowIs.frozen (unhide HR5) 0
                have f1 := World.rowIs.frozen (unhide HR5) 1
                have f2 := World.rowIs.frozen (unhide HR5) 2
                go_wp2
                refine bodyPost_ret (v := .tuple #[.agg #[.bool false, .bool false, .slice none 0 0], .int .i64 2]) (by simp [results, Tryz.results6, go_sem, p0, p1, p2]) rfl ?_
                exact ⟨false, false, _, [], 2, rfl, unhide HA, ElsF.nil2 _ _, bput (bput (bput (unhide HB5) (Nat.le_refl _) _) (Nat.le_refl _) _) (Nat.le_refl _) _⟩
              · have hD1' : ¬ (100 : Int) < (d : Int) := by omega
                go_wp2_with fail
                go_loop [12] (fun iv => ∃ i : Nat, i ≤ n ∧ iv = .int .i64 (i : Nat) ∧ NoBig ts i) (fun iv => n - (intOf iv).toNat)
                case atStart => exact ⟨0, Nat.zero_le _, rfl, fun j t hj => absurd hj (Nat.not_lt_zero _)⟩
                case round =>
                  obtain ⟨i, hi, rfl, hnb⟩ := hrel
                  have HNB := hide hnb
                  clear hnb
                  by_cases hlt2 : i < n
                  · have hlt2' : (i : Int) < (n : Int) := by omega
                    have h0i : (0 : Int) ≤ (i : Int) := by omega
                    obtain ⟨b, off, ea, hel⟩ := els_some (unhide HV5) (by omega)
                    subst ea
                    obtain ⟨t, ht⟩ : ∃ t, ts[i]? = some t := ⟨ts[i]'(by rw [← unhide HN]; exact hlt2), List.getElem?_eq_getElem _⟩
                    obtain ⟨-, -, -, -, -, -, x2, x3, -⟩ := el_at rfl (fun i hi => hel i (by rw [List.length_map]; exact hi)) ht
                    obtain ⟨mn, hmn⟩ : ∃ mn, mn = (tkE t).mn := ⟨_, rfl⟩
                    obtain ⟨mx, hmx⟩ : ∃ mx, mx = (tkE t).mx := ⟨_, rfl⟩
                    rw [← hmn] at x2
                    rw [← hmx] at x3
                    have HTI := hide ht
                    have HMN := hide hmn
                    have HMX := hide hmx
                    clear hel ht hmn hmx
                    by_cases hg1 : 250 < mn
                    · have HA : Hid (PAns xs false false [] 2) := .inr ⟨hle, .inr ⟨T, ts, false, unhide HPRS, .inl ⟨.inl (ovr_big (unhide HTI) (.inl (by rw [← unhide HMN]; exact hg1))), rfl, rfl, rfl, rfl⟩⟩⟩
                      obtain ⟨p0, p1, p2⟩ := Bx3.facts (unhide HR5)
                      have f0 := World.rowIs.frozen (unhide HR5) 0
                      have f1 := World.rowIs.frozen (unhide HR5) 1
                      have f2 := World.rowIs.frozen (unhide HR5) 2
                      go_wp2
                      refine bodyPost_ret (v := .tuple #[.agg #[.bool false, .bool false, .slice none 0 0], .int .i64 2]) (by simp [results, Tryz.results6, go_sem, p0, p1, p2]) rfl ?_
                      exact ⟨false, false, _, [], 2, rfl, unhide HA, ElsF.nil2 _ _, bput (bput (bput (unhide HB5) (Nat.le_refl _) _) (Nat.le_refl _) _) (Nat.le_refl _) _⟩
                    by_cases hg2 : 250 < mx
                    · have HA : Hid (PAns xs false false [] 2) := .inr ⟨hle, .inr ⟨T, ts, false, unhide HPRS, .inl ⟨.inl (ovr_big (unhide HTI) (.inr (by rw [← unhide HMX]; exact hg2))), rfl, rfl, rfl, rfl⟩⟩⟩
                      obtain ⟨p0, p1, p2⟩ := Bx3.facts (unhide HR5)
                      have f0 := World.rowIs.frozen (unhide HR5) 0
                      have f1 := World.rowIs.frozen (unhide HR5) 1
                      have f2 := World.rowIs.frozen (unhide HR5) 2
                      go_wp2
                      refine bodyPost_ret (v := .tuple #[.agg #[.bool false, .bool false, .slice none 0 0], .int .i64 2]) (by simp [results, Tryz.results6, go_sem, p0, p1, p2]) rfl ?_
                      exact ⟨false, false, _, [], 2, rfl, unhide HA, ElsF.nil2 _ _, bput (bput (bput (unhide HB5) (Nat.le_refl _) _) (Nat.le_refl _) _) (Nat.le_refl _) _⟩
                    · have HNB2 : Hid (NoBig ts (i + 1)) := (unhide HNB).go (unhide HTI) (by rw [← unhide HMN]; exact hg1) (by rw [← unhide HMX]; exact hg2)
                      go_wp2
                      go_round
                      case rel => exact ⟨i + 1, by omega, by go_num, unhide HNB2⟩
                      case measure => simp [intOf]; omega
                  · obtain rfl : i = n := by omega
                    have hlt2' : ¬ (i : Int) < (i : Int) := by omega
                    have HALL : Hid (∀ t ∈ ts, bigR 250 t = false) := (unhide HNB).all (by rw [← unhide HN]; exact Nat.le_refl _)
                    have HSZ := hide ((gr_size (unhide HT) (unhide HTO) (unhide HALL)).2 _ w5 ((unhide HG5).els (unhide HNC)) (by rw [← unhide HNT]; omega))
                    obtain ⟨tn, htn⟩ : ∃ tn, tn = T.n := ⟨_, rfl⟩
                    rw [← htn] at HSZ
                    have HTNN := hide htn
                    clear htn
                    go_wp2_with fail
                    refine (unhide HSZ).mono ?_
                    rintro e w6 ⟨rfl, hb6⟩
                    have HR6 := hide (rk (unhide HR5) hb6 (Nat.le_refl _))
                    have HB6 := hide ((unhide HB5).trans (hb6.mono (by omega)))
                    have HBB := hide hb6
                    have hz6 := hb6.size
                    clear hb6 HSZ
                    by_cases h500 : 500 < tn
                    · have HA : Hid (PAns xs false false [] 2) := .inr ⟨hle, .inr ⟨T, ts, false, unhide HPRS, .inl ⟨.inr (by rw [← unhide HTNN]; exact h500), rfl, rfl, rfl, rfl⟩⟩⟩
                      obtain ⟨p0, p1, p2⟩ := Bx3.facts (unhide HR6)
                      have f0 := World.rowIs.frozen (unhide HR6) 0
                      have f1 := World.rowIs.frozen (unhide HR6) 1
                      have f2 := World.rowIs.frozen (unhide HR6) 2
                      go_wp2
                      refine bodyPost_ret (v := .tuple #[.agg #[.bool false, .bool false, .slice none 0 0], .int .i64 2]) (by simp [results, Tryz.results6, go_sem, p0, p1, p2]) rfl ?_
                      exact ⟨false, false, _, [], 2, rfl, unhide HA, ElsF.nil2 _ _, bput (bput (bput (unhide HB6) (Nat.le_refl _) _) (Nat.le_refl _) _) (Nat.le_refl _) _⟩
                    · have HA : Hid (PAns xs false false T.l 0) := .inr ⟨hle, .inr ⟨T, ts, false, unhide HPRS, .inr ⟨ovr_none (by rw [← unhide HD]; exact hD1) (unhide HALL), by rw [← unhide HTNN]; omega, unhide HLF, rfl, rfl, rfl⟩⟩⟩
                      obtain ⟨p0, p1, p2⟩ := Bx3.facts (unhide HR6)
                      have f0 := World.rowIs.frozen (unhide HR6) 0
                      have f1 := World.rowIs.frozen (unhide HR6) 1
                      have f2 := World.rowIs.frozen (unhide HR6) 2
                      go_wp2
                      refine bodyPost_ret (v := .tuple #[.agg #[.bool false, .bool false, .slice o5 nT d5], .int .i64 0]) (by simp [results, Tryz.results6, go_sem, p0, p1, p2]) rfl ?_
                      refine ⟨_, _, _, T.l, 0, rfl, unhide HA, ?_, bput (bput (bput (unhide HB6) (Nat.le_refl _) _) (Nat.le_refl _) _) (Nat.le_refl _) _⟩
                      refine ((unhide HG5).foot.same (fun k hk => ?_)).mono (fun k hk => ⟨Nat.le_trans (by omega) hk.1, by simp only [sz_put]; exact Nat.lt_of_lt_of_le hk.2 hz6⟩)
                      have hk1 : w1.heap.size ≤ k := hk.1
                      rw [Below.heap_setCell _ _ _ _ (by intro e; simp only at e; omega), Below.heap_setCell _ _ _ _ (by intro e; simp only at e; omega), Below.heap_setCell _ _ _ _ (by intro e; simp only at e; omega)]
                      exact (unhide HBB).block k hk.2
          · have HA : Hid (PAns xs false false [] 1) := .inr ⟨hle, .inl ⟨fun T us b hp => hwl ((((unhide HPI T us b).1 (unhide HAT ▸ hp)).2.2).bal), rfl, rfl, rfl, rfl⟩⟩
            clear hwl HDEEP
            obtain ⟨p0, p1, p2⟩ := Bx3.facts (unhide HRk)
            have f0 := World.rowIs.frozen (unhide HRk) 0
            have f1 := World.rowIs.frozen (unhide HRk) 1
            have f2 := World.rowIs.frozen (unhide HRk) 2
            go_wp2
            refine bodyPost_ret (v := .tuple #[.agg #[.bool false, .bool false, .slice none 0 0], .int .i64 1]) (by simp [results, Tryz.results6, go_sem, p0, p1, p2]) rfl ?_
            exact ⟨false, false, _, [], 1, rfl, unhide HA, ElsF.nil2 _ _, bput (bput (bput (unhide HBw) (Nat.le_refl _) _) (Nat.le_refl _) _) (Nat.le_refl _) _⟩
end Go.Proofs.YtcmofgehhdfifaaGreatDoor
