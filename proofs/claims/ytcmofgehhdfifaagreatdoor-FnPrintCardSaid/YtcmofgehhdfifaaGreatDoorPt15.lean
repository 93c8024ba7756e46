import Derived.Test.YtcmofgehhdfifaaGreatDoorPk14
namespace Go.Proofs.YtcmofgehhdfifaaGreatDoor
open Go.RowKit
theorem item_none {s : List Int} (h : Ev (fun n => rdAtom n s) none) : Ev (fun n => rdItem n s) none := Ev.bind0 h (fun n => rdItem_s n s)
theorem item_some {s : List Int} {T : Tr} {ts : List Tk} {r : List Int} (h : Ev (fun n => rdAtom n s) (some (T, ts, r))) : Ev (fun n => rdItem n s) (rdRep T ts r) := Ev.bind (k := fun _ x => rdRep x.1 x.2.1 x.2.2) h (Ev.const (fun _ => rfl)) (fun n => rdItem_s n s)
theorem rdRep_no {T : Tr} {ts : List Tk} {s : List Int} (h : repHd s = false) : rdRep T ts s = some (T, ts, s) := by unfold rdRep; rw [if_neg (by rw [h]; simp)]
theorem rdRep_yes {T : Tr} {ts : List Tk} {s r : List Int} {lo hi : Int} (h : repHd s = true) (hx : lx s = some (.inr (.inl (lo, hi)), r)) : rdRep T ts s = some (.rep T lo hi, ts ++ [.inr (.inl (lo, hi))], r) := by unfold rdRep; rw [if_pos h, hx]
theorem rdRep_bad {T : Tr} {ts : List Tk} {s : List Int} (h : repHd s = true) (hx : lx s = none) : rdRep T ts s = none := by unfold rdRep; rw [if_pos h, hx]
theorem repHd_pk {xs : List Int} {i : Nat} (h1 : pkB xs i ≠ 42) (h2 : pkB xs i ≠ 43) (h3 : pkB xs i ≠ 63) (h4 : pkB xs i ≠ 123) : repHd (xs.drop i) = false := by
  cases hs : xs.drop i with
  | nil => rfl
  | cons c r =>
    have a := drop_ne h1 r
    have b := drop_ne h2 r
    have e := drop_ne h3 r
    have f := drop_ne h4 r
    rw [hs] at a b e f
    simp [repHd]
    simp at a b e f
    exact ⟨⟨⟨a, b⟩, e⟩, f⟩
theorem numV_pos {ds : List Int} (h : ∀ c ∈ ds, 48 ≤ c) : 0 ≤ numV ds := by
  unfold numV
  have key : ∀ (ds : List Int) (a : Int), (∀ c ∈ ds, 48 ≤ c) → 0 ≤ a → 0 ≤ ds.foldl (fun v c => v * 10 + (c - 48)) a := by
    intro ds
    induction ds with
    | nil => intro a _ h; exact h
    | cons c r ih =>
      intro a h h0
      have := h c (by simp)
      exact ih _ (fun c hc => h c (by simp [hc])) (by show 0 ≤ a * 10 + (c - 48); omega)
  exact key ds 0 h (by omega)
theorem num1_pos {s r : List Int} {v : Int} (h : num1 s = some (v, r)) : 0 ≤ v := by
  unfold num1 at h
  split at h
  · cases h
  · cases h
    apply numV_pos
    intro c hc
    have : isD c = true := List.all_eq_true.1 (List.all_takeWhile) c hc
    simp [isD] at this
    omega
theorem brc_bd {s r : List Int} {lo hi : Int} (h : brc s = some ((lo, hi), r)) : 0 ≤ lo ∧ (hi = -1 ∨ lo ≤ hi) := by
  unfold brc at h
  cases hn : num1 s with
  | none => rw [hn] at h; cases h
  | some y =>
    rw [hn, Option.bind_some] at h
    obtain ⟨v, t⟩ := y
    have hv := num1_pos hn
    simp only at h
    match t, h with
    | c :: t', h =>
      rw [brc2] at h
      by_cases h1 : c = 125
      · rw [if_pos h1] at h; cases h; exact ⟨hv, .inr (Int.le_refl _)⟩
      rw [if_neg h1] at h
      by_cases h2 : c = 44
      · rw [if_pos h2] at h
        match t', h with
        | b :: t2, h =>
          rw [brc3] at h
          by_cases h3 : b = 125
          · rw [if_pos h3] at h; cases h; exact ⟨hv, .inl rfl⟩
          rw [if_neg h3] at h
          cases hn2 : num1 (b :: t2) with
          | none => rw [hn2] at h; cases h
          | some z =>
            rw [hn2, Option.bind_some] at h
            obtain ⟨u, t3⟩ := z
            simp only at h
            by_cases h4 : u < v
            · rw [if_pos h4] at h; cases h
            · rw [if_neg h4] at h
              match t3, h with
              | d :: t4, h =>
                simp only at h
                by_cases h5 : d = 125
                · rw [if_pos h5] at h; cases h; exact ⟨hv, .inr (by omega)⟩
                · rw [if_neg h5] at h; cases h
      · rw [if_neg h2] at h; cases h
theorem item_ret {w w' : World} {N q : Nat} {tv : Value} {xs : List Int} {at' d : Nat} {ov : Bool} {Y : TypeId} {x : Value} {T : Tr} {ts : List Tk} {at2 at3 : Nat} {lo hi : Int} (hG : Gw q w w') (hev : Ev (fun n => rdAtom n (xs.drop at')) (some (T, ts, xs.drop at2))) (hwl : wl 0 ts = some 0) (hnd : (ov || ovr 100 250 d ts) = false → NdV (.iface Y x) T) (hd : 100 < d → ov = true)
    (hh : repHd (xs.drop at2) = true) (hx : lx (xs.drop at2) = some (.inr (.inl (lo, hi)), xs.drop at3)) (hle : at3 ≤ xs.length) (hge : at' + 1 ≤ at3) (hR : Rdr w' N q tv xs at3 d ((ov || ovr 100 250 d ts) || (decide (250 < lo) || decide (250 < hi)))) (h0 : 0 ≤ lo) (h1 : hi = -1 ∨ lo ≤ hi) : NdR rdItem 1 (.returned (rV (.iface Y x) lo hi)) w w' N q tv xs at' d ov := by
  have hd' : 100 < d → (ov || ovr 100 250 d ts) = true := fun h => by rw [hd h]; rfl
  have e : (ov || ovr 100 250 d (ts ++ [.inr (.inl (lo, hi))])) = ((ov || ovr 100 250 d ts) || (decide (250 < lo) || decide (250 < hi))) := by
    rw [ovr_app hwl, ← Bool.or_assoc, ov_rep hd']
  refine ⟨hG, .inr ⟨rV (.iface Y x) lo hi, .rep T lo hi, ts ++ [.inr (.inl (lo, hi))], at3, ?_, hle, hge, wl_cat hwl rfl, rfl, ⟨_, _, rfl⟩, ?_, fun hf => ?_⟩⟩
  · rw [← rdRep_yes (T := T) (ts := ts) hh hx]
    exact item_some hev
  · rw [e]; exact hR
  · rw [e] at hf
    simp only [Bool.or_eq_false_iff, decide_eq_false_iff_not] at hf
    exact NdV.rep (hnd (by simp [hf.1])) h0 (by omega) (by omega)
set_option maxHeartbeats 8000000 in
set_option maxRecDepth 100000 in
theorem readItem_any (w : World) (N q : Nat) (tv : Value) (xs : List Int) (at' d : Nat) (ov : Bool) (h : Rdr w N q tv xs at' d ov) (hb : ∀ x ∈ xs, 0 ≤ x ∧ x ≤ 255) (ha : at' ≤ xs.length) (hl : xs.length ≤ 100000) (hd : d ≤ at') (ho : 100 < d → ov = true) (m : Nat) (hA : AltH N q tv xs m) (hm : xs.length - at' ≤ m) :
    Calls Tryz.prog 88 #[.pointer (some ⟨q, 0, none⟩)] w fun e w' => NdR rdItem 1 e w w' N q tv xs at' d ov := by
  have HP := hide (readAtom_any w N q tv xs at' d ov h hb ha hl hd ho m hA hm)
  have HB := hide hb
  have HO := hide ho
  clear h hb hA ho
  go_enter Tryz.func88, Tryz.ntmps88
  go_wp2_with fail
  refine (unhide HP).mono ?_
  rintro e w1 ⟨hG1, ⟨hno, z, rfl⟩ | ⟨u, T, ts, at2, hev, hle2, hge2, hwl, rfl, ⟨Y, x, rfl⟩, hR1, hnd⟩⟩
  · have HX := hide (item_none hno)
    have HG1 := hide hG1
    clear hno hG1
    go_wp2
    exact ⟨rfl, unhide HG1, .inl ⟨unhide HX, _, rfl⟩⟩
  · obtain ⟨o1, ho1⟩ : ∃ o1, o1 = (ov || ovr 100 250 d ts) := ⟨_, rfl⟩
    rw [← ho1] at hR1
    have HO1 := hide ho1
    have HG1 := hide hG1
    have HEV := hide hev
    have HWL := hide hwl
    have HND := hide hnd
    have HGE := hide hge2
    have HT1 := hide (take_any w1 N q tv xs at2 d o1 42 hR1 (unhide HB) hle2 hl)
    have HR1 := hide hR1
    clear HP ho1 hG1 hev hwl hnd hge2 hR1
    go_wp2_with fail
    refine (unhide HT1).mono ?_
    rintro e w2 (⟨hno1, rfl, n2, rfl⟩ | ⟨hye, rfl, hR2, hob2⟩)
    rotate_left
    · obtain ⟨hdr, hlt⟩ := drop_pk (by omega) hye
      have HF := hide (item_ret (lo := 0) (hi := -1) ((unhide HG1).trans hob2.gw) (unhide HEV) (unhide HWL) (unhide HND) (unhide HO) (at3 := at2 + 1) (by rw [hdr]; rfl) (by rw [hdr]; simp [lx]) hlt (by have := unhide HGE; omega) (by rw [← unhide HO1]; simpa using hR2) (by omega) (.inl rfl))
      clear hdr hlt hye hR2 hob2 HT1
      go_wp2
      go_ret
      exact unhide HF
    have HR2 := hide ((unhide HR1).drewN n2)
    have HG2 := hide ((unhide HG1).trans (obk_drewN q w1 n2).gw)
    have HT2 := hide (take_any _ N q tv xs at2 d o1 43 (unhide HR2) (unhide HB) hle2 hl)
    have HNO1 := hide hno1
    clear HT1 HR1 HG1 hno1
    go_wp2_with fail
    refine (unhide HT2).mono ?_
    rintro e w3 (⟨hno2, rfl, n3, rfl⟩ | ⟨hye, rfl, hR3, hob3⟩)
    rotate_left
    · obtain ⟨hdr, hlt⟩ := drop_pk (by omega) hye
      have HF := hide (item_ret (lo := 1) (hi := -1) ((unhide HG2).trans hob3.gw) (unhide HEV) (unhide HWL) (unhide HND) (unhide HO) (at3 := at2 + 1) (by rw [hdr]; rfl) (by rw [hdr]; simp [lx]) hlt (by have := unhide HGE; omega) (by rw [← unhide HO1]; simpa using hR3) (by omega) (.inl rfl))
      clear hdr hlt hye hR3 hob3 HT2
      go_wp2
      go_ret
      exact unhide HF
    have HR3 := hide ((unhide HR2).drewN n3)
    have HG3 := hide ((unhide HG2).trans (obk_drewN q _ n3).gw)
    rw [drew2]
    rw [drew2] at HR3 HG3
    obtain ⟨n23, hn23⟩ : ∃ k, k = n2 + n3 := ⟨_, rfl⟩
    rw [← hn23] at HR3 HG3 ⊢
    have HT3 := hide (take_any _ N q tv xs at2 d o1 63 (unhide HR3) (unhide HB) hle2 hl)
    have HNO2 := hide hno2
    clear HT2 HR2 HG2 hno2 hn23
    go_wp2_with fail
    refine (unhide HT3).mono ?_
    rintro e w4 (⟨hno3, rfl, n4, rfl⟩ | ⟨hye, rfl, hR4, hob4⟩)
    rotate_left
    · obtain ⟨hdr, hlt⟩ := drop_pk (by omega) hye
      have HF := hide (item_ret (lo := 0) (hi := 1) ((unhide HG3).trans hob4.gw) (unhide HEV) (unhide HWL) (unhide HND) (unhide HO) (at3 := at2 + 1) (by rw [hdr]; rfl) (by rw [hdr]; simp [lx]) hlt (by have := unhide HGE; omega) (by rw [← unhide HO1]; simpa using hR4) (by omega) (.inr (by omega)))
      clear hdr hlt hye hR4 hob4 HT3
      go_wp2
      go_ret
      exact unhide HF
    have HR4 := hide ((unhide HR3).drewN n4)
    have HG4 := hide ((unhide HG3).trans (obk_drewN q _ n4).gw)
    rw [drew2]
    rw [drew2] at HR4 HG4
    obtain ⟨n34, hn34⟩ : ∃ k, k = n23 + n4 := ⟨_, rfl⟩
    rw [← hn34] at HR4 HG4 ⊢
    have HT4 := hide (take_any _ N q tv xs at2 d o1 123 (unhide HR4) (unhide HB) hle2 hl)
    have HNO3 := hide hno3
    clear HT3 HR3 HG3 hno3 hn34
    go_wp2_with fail
    refine (unhide HT4).mono ?_
    rintro e w5 (⟨hno4, rfl, n5, rfl⟩ | ⟨hye, rfl, hR5, hob5⟩)
    · have HX : Hid (Ev (fun n => rdItem n (xs.drop at')) (some (T, ts, xs.drop at2))) := by
        rw [← rdRep_no (T := T) (ts := ts) (repHd_pk (unhide HNO1) (unhide HNO2) (unhide HNO3) hno4)]
        exact item_some (unhide HEV)
      have HR5 := hide ((unhide HR4).drewN n5)
      have HG5 := hide ((unhide HG4).trans (obk_drewN q _ n5).gw)
      clear HT4 hno4
      go_wp2
      go_ret
      refine ⟨?_, .inr ⟨_, T, ts, at2, unhide HX, hle2, unhide HGE, unhide HWL, rfl, ⟨_, _, rfl⟩, ?_, unhide HND⟩⟩
      · first | exact unhide HG5 | (rw [drew2] at HG5; exact unhide HG5)
      · rw [← unhide HO1]; first | exact unhide HR5 | (rw [drew2] at HR5; exact unhide HR5)
    · obtain ⟨hdr, hlt⟩ := drop_pk (by omega) hye
      have HDR := hide hdr
      have HG5 := hide ((unhide HG4).trans hob5.gw)
      have HN := hide (readBounds_any w5 N q tv xs (at2 + 1) d o1 hR5 (unhide HB) hlt hl)
      clear hdr hye hR5 hob5 HT4 HR4 HG4 hlt
      go_wp2_with fail
      refine (unhide HN).mono ?_
      rintro e w6 ⟨hob6, ⟨hbn, z, rfl⟩ | ⟨lo, hi, at3, hbs, hle3, rfl, hR6⟩⟩
      · have HX : Hid (Ev (fun n => rdItem n (xs.drop at')) none) := by
          rw [← rdRep_bad (T := T) (ts := ts) (s := xs.drop at2) (by rw [unhide HDR]; rfl) (by rw [unhide HDR]; simp [lx, hbn])]
          exact item_some (unhide HEV)
        have HG6 := hide ((unhide HG5).trans hob6.gw)
        clear hbn hob6 HN
        go_wp2
        exact ⟨rfl, unhide HG6, .inl ⟨unhide HX, _, rfl⟩⟩
      · obtain ⟨b0, b1⟩ := brc_bd hbs
        have hlx : lx (xs.drop at2) = some (.inr (.inl (lo, hi)), xs.drop at3) := by rw [unhide HDR]; simp [lx, hbs]
        have HF := hide (item_ret ((unhide HG5).trans hob6.gw) (unhide HEV) (unhide HWL) (unhide HND) (unhide HO) (by rw [unhide HDR]; rfl) hlx hle3 (by have := unhide HGE; have := lx_le hlx hle3; omega) (by rw [← unhide HO1]; exact hR6) b0 b1)
        clear hlx b0 b1 hbs hR6 hob6 HN
        go_wp2
        go_ret
        exact unhide HF
end Go.Proofs.YtcmofgehhdfifaaGreatDoor
