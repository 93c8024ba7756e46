import Derived.Test.YtjjmgegbeccjoaaPk26
namespace Go.Proofs.Ytjjmgegbeccjoaa
open Go.RowKit

theorem atom_grp {r : List Int} {x : Option (Tr × List Tk × List Int)} (h : Ev (fun n => rdGrp n r) x) : Ev (fun n => rdAtom n (40 :: r)) x := h.step id (fun n => by show rdAtom (n + 1) (40 :: r) = rdGrp n r; rw [rdAtom_c, if_pos rfl]; rfl)
theorem atom_set {c : Int} {r : List Int} (h : c ≠ 40) : Ev (fun n => rdAtom n (c :: r)) (rdSet (c :: r)) := Ev.const (fun n => by rw [rdAtom_c, if_neg h])
/-- A set is answered. -/
theorem atom_ret {w w' : World} {N q : Nat} {tv : Value} {xs : List Int} {at' d : Nat} {ov : Bool} {c : Int} {g : Nat → Nat} {cs : List Int} {at2 : Nat} (hG : Gw q w w') (hR : Rdr w' N q tv xs at2 d ov) (hD : xs.drop at' = c :: xs.drop (at' + 1)) (hc : c ≠ 40) (hx : lx (c :: xs.drop (at' + 1)) = some (.inl cs, xs.drop at2)) (hle : at2 ≤ xs.length) (hge : at' + 1 ≤ at2) (hd : 100 < d → ov = true) (hW : WordsOf cs g) (hC : Canon cs) : NdR rdAtom 1 (.returned (sV g)) w w' N q tv xs at' d ov := by
  refine ⟨hG, .inr ⟨sV g, .s cs, [.inl cs], at2, ?_, hle, hge, rfl, rfl, ⟨_, _, rfl⟩, ?_, fun _ => NdV.s hW hC⟩⟩
  · rw [hD, ← rdSet_some hx]
    exact atom_set hc
  · rw [ov_set hd]; exact hR
theorem lx_le {xs : List Int} {i j : Nat} {t : Tk} (h : lx (xs.drop i) = some (t, xs.drop j)) (hj : j ≤ xs.length) : i + 1 ≤ j := by
  obtain ⟨p, h1, h2, -⟩ := lx_loc _ _ _ h
  have := congrArg List.length h1
  rw [List.length_append, List.length_drop, List.length_drop] at this
  omega

set_option maxHeartbeats 8000000 in
set_option maxRecDepth 100000 in
theorem readAtom_any (w : World) (N q : Nat) (tv : Value) (xs : List Int) (at' d : Nat) (ov : Bool) (h : Rdr w N q tv xs at' d ov) (hb : ∀ x ∈ xs, 0 ≤ x ∧ x ≤ 255) (ha : at' ≤ xs.length) (hl : xs.length ≤ 100000) (hd : d ≤ at') (ho : 100 < d → ov = true) (m : Nat) (hA : AltH N q tv xs m) (hm : xs.length - at' ≤ m) :
    Calls Try.prog 54 #[.pointer (some ⟨q, 0, none⟩)] w fun e w' => NdR rdAtom 1 e w w' N q tv xs at' d ov := by
  have HP := hide (next_any w N q tv xs at' d ov h hb ha hl)
  have HB := hide hb
  have HA := hide hA
  have HO := hide ho
  clear h hb hA ho
  go_enter Try.func54, Try.ntmps54
  go_wp2_with fail
  refine (unhide HP).mono ?_
  rintro e w1 (⟨hat, rfl, n1, rfl⟩ | ⟨hlt, rfl, hR1, hob⟩)
  · have HX : Hid (Ev (fun n => rdAtom n (xs.drop at')) none) := by
      rw [List.drop_eq_nil_of_le (by omega)]
      exact Ev.const (fun n => rfl)
    clear hat
    go_wp2
    exact ⟨rfl, (obk_drewN q w n1).gw, .inl ⟨unhide HX, _, rfl⟩⟩
  · have hG1 : Gw q w w1 := hob.gw
    obtain ⟨c, hce⟩ : ∃ c, c = xs[at']?.getD 0 := ⟨_, rfl⟩
    have hc9 := unhide HB (xs[at']?.getD 0) (by rw [List.getElem?_eq_getElem hlt]; exact List.getElem_mem hlt)
    have HD := hide (drop_at hlt)
    rw [← hce] at hc9 HD ⊢
    obtain ⟨c0, c1⟩ := hc9
    have HR1 := hide hR1
    have HG1 := hide hG1
    have hle1 : at' + 1 ≤ xs.length := hlt
    clear HP hob hce hlt hR1 hG1
    by_cases e1 : c = 40
    · subst e1
      have HE := hide (readGroup_any w1 N q tv xs (at' + 1) d ov (unhide HR1) (unhide HB) hle1 hl (by omega) m (unhide HA) (by omega))
      clear HR1
      go_wp2_with fail
      refine (unhide HE).mono ?_
      rintro e w2 ⟨hG2, ⟨hno, z, rfl⟩ | ⟨u, T, ts, at2, hev, hle2, hge2, hwl, rfl, ⟨Y, x, rfl⟩, hR2, hnd⟩⟩
      · have HX : Hid (Ev (fun n => rdAtom n (xs.drop at')) none) := by rw [unhide HD]; exact atom_grp hno
        have HG2 := hide ((unhide HG1).trans hG2)
        clear hno hG2
        go_wp2
        exact ⟨rfl, unhide HG2, .inl ⟨unhide HX, _, rfl⟩⟩
      · have HX : Hid (Ev (fun n => rdAtom n (xs.drop at')) (some (T, ts, xs.drop at2))) := by rw [unhide HD]; exact atom_grp hev
        have HG2 := hide ((unhide HG1).trans hG2)
        have HR2 := hide hR2
        have HND := hide hnd
        have HWL := hide hwl
        have HGE := hide hge2
        clear hG2 hR2 hnd hwl hev hge2
        go_wp2
        go_ret
        exact ⟨unhide HG2, .inr ⟨_, T, ts, at2, unhide HX, hle2, by have := unhide HGE; omega, unhide HWL, rfl, ⟨_, _, rfl⟩, unhide HR2, unhide HND⟩⟩
    by_cases e2 : c = 46
    · subst e2
      go_wp2_with fail
      refine (allBut_any w1).mono ?_
      rintro e w2 ⟨⟨g, rfl, hg⟩, hb2⟩
      have HF := hide (atom_ret ((unhide HG1).trans (gw_of hb2 (Nat.le_refl _))) ((unhide HR1).keep hb2 (Nat.le_refl _)) (unhide HD) (by omega) (lx_dot _) hle1 (Nat.le_refl _) (unhide HO) hg canon_dot)
      clear hb2 hg
      unfold ws4
      go_wp2
      go_ret
      exact unhide HF
    by_cases e3 : c = 91
    · subst e3
      have HE := hide (readClass_any w1 N q tv xs (at' + 1) d ov (unhide HR1) (unhide HB) hle1 hl)
      clear HR1
      go_wp2_with fail
      refine (unhide HE).mono ?_
      rintro e w2 ⟨hG2, ⟨hno, z, rfl⟩ | ⟨g, cs, at2, rfl, hcl, hle2, hR2, hW, hC⟩⟩
      · have HX : Hid (Ev (fun n => rdAtom n (xs.drop at')) none) := by
          rw [unhide HD, ← rdSet_none (s := 91 :: xs.drop (at' + 1)) (by rw [lx_cls, hno]; rfl)]
          exact atom_set (by omega)
        have HG2 := hide ((unhide HG1).trans hG2)
        clear hno hG2
        go_wp2
        exact ⟨rfl, unhide HG2, .inl ⟨unhide HX, _, rfl⟩⟩
      · have hlx : lx (91 :: xs.drop (at' + 1)) = some (.inl cs, xs.drop at2) := by rw [lx_cls, hcl]; rfl
        have HF := hide (atom_ret ((unhide HG1).trans hG2) hR2 (unhide HD) (by omega) hlx hle2 (lx_le (t := .inl cs) (by rw [unhide HD]; exact hlx) hle2) (unhide HO) hW hC)
        clear hG2 hcl hR2 hW hC hlx
        unfold ws4
        go_wp2
        go_ret
        exact unhide HF
    by_cases e4 : c = 92
    · subst e4
      have HE := hide (readEscape_any w1 N q tv xs (at' + 1) d ov (unhide HR1) (unhide HB) hle1 hl)
      clear HR1
      go_wp2_with fail
      refine (unhide HE).mono ?_
      rintro e w2 ⟨hG2, ⟨hn1, hn2, z, rfl⟩ | ⟨g, lo, at2, rfl, hf, hle2, hR2, hcase⟩⟩
      · have HX : Hid (Ev (fun n => rdAtom n (xs.drop at')) none) := by
          rw [unhide HD, ← rdSet_none (s := 92 :: xs.drop (at' + 1)) (by rw [lx_esc, hn1]; simp only; rw [hn2]; rfl)]
          exact atom_set (by omega)
        have HG2 := hide ((unhide HG1).trans hG2)
        clear hn1 hn2 hG2
        go_wp2
        exact ⟨rfl, unhide HG2, .inl ⟨unhide HX, _, rfl⟩⟩
      · obtain ⟨cs, hlx, hW, hC⟩ : ∃ cs, lx (92 :: xs.drop (at' + 1)) = some (.inl cs, xs.drop at2) ∧ WordsOf cs g ∧ Canon cs := by
          rcases hcase with ⟨-, cs, hs, hbt⟩ | ⟨hs, hc, l0, l1, hbt⟩
          · exact ⟨cs, by rw [lx_esc, hs], words_inR (canon_sesc hs) hf hbt, canon_sesc hs⟩
          · exact ⟨[lo, lo], by rw [lx_esc, hs]; simp only; rw [hc]; rfl, words_one hf hbt, canon_pair l0 l1⟩
        have hb3 := below1 w2 (.cells #[.int .u64 (g 0 : Nat), .int .u64 (g 1 : Nat), .int .u64 (g 2 : Nat), .int .u64 (g 3 : Nat)] 98)
        have HF := hide (atom_ret (((unhide HG1).trans hG2).trans (gw_of hb3 (Nat.le_refl _))) (hR2.keep hb3 (Nat.le_refl _)) (unhide HD) (by omega) hlx hle2 (lx_le (t := .inl cs) (by rw [unhide HD]; exact hlx) hle2) (unhide HO) hW hC)
        clear hG2 hcase hR2 hW hC hlx hf hb3
        unfold ws4
        go_wp2
        go_ret
        exact unhide HF
    have HS := hide (isSpecial_any c w1 c0 c1)
    have HF := hide (fail_any w1 N q tv xs (at' + 1) d ov (unhide HR1))
    go_wp2_with fail
    refine (unhide HS).mono ?_
    rintro e w2 ⟨hret, rfl⟩
    rcases hret.cases with ⟨rfl, hy⟩ | ⟨rfl, hy⟩
    · have HX : Hid (Ev (fun n => rdAtom n (xs.drop at')) none) := by
        rw [unhide HD, ← rdSet_spc (r := xs.drop (at' + 1)) hy e1 e2 e3 e4]
        exact atom_set e1
      clear hy hret
      go_wp2_with fail
      refine (unhide HF).mono ?_
      rintro e w3 ⟨rfl, rfl⟩
      go_wp2
      exact ⟨rfl, unhide HG1, .inl ⟨unhide HX, _, rfl⟩⟩
    · have HLX := hide (lx_chr (r := xs.drop (at' + 1)) hy)
      clear hy hret
      go_wp2_with fail
      refine (single_any c w2 c0 c1).mono ?_
      rintro e w3 ⟨⟨g, rfl, hf, hbt⟩, hb3⟩
      have HF := hide (atom_ret ((unhide HG1).trans (gw_of hb3 (Nat.le_refl _))) ((unhide HR1).keep hb3 (Nat.le_refl _)) (unhide HD) e1 (unhide HLX) hle1 (Nat.le_refl _) (unhide HO) (words_one hf hbt) (canon_pair c0 c1))
      clear hb3 hf hbt
      unfold ws4
      go_wp2
      go_ret
      exact unhide HF


theorem item_none {s : List Int} (h : Ev (fun n => rdAtom n s) none) : Ev (fun n => rdItem n s) none := Ev.bind0 h (fun n => rdItem_s n s)
theorem item_some {s : List Int} {T : Tr} {ts : List Tk} {r : List Int} (h : Ev (fun n => rdAtom n s) (some (T, ts, r))) : Ev (fun n => rdItem n s) (rdRep T ts r) := Ev.bind (k := fun _ x => rdRep x.1 x.2.1 x.2.2) h (Ev.const (fun _ => rfl)) (fun n => rdItem_s n s)
theorem rdRep_no {T : Tr} {ts : List Tk} {s : List Int} (h : repHd s = false) : rdRep T ts s = some (T, ts, s) := by unfold rdRep; rw [if_neg (by rw [h]; simp)]
theorem rdRep_yes {T : Tr} {ts : List Tk} {s r : List Int} {lo hi : Int} (h : repHd s = true) (hx : lx s = some (.inr (.inl (lo, hi)), r)) : rdRep T ts s = some (.rep T lo hi, ts ++ [.inr (.inl (lo, hi))], r) := by unfold rdRep; rw [if_pos h, hx]
theorem rdRep_bad {T : Tr} {ts : List Tk} {s : List Int} (h : repHd s = true) (hx : lx s = none) : rdRep T ts s = none := by unfold rdRep; rw [if_pos h, hx]
theorem repHd_pk {xs : List Int} {i : Nat} (h1 : pkB xs i ≠ 42) (h2 : pkB xs i ≠ 43) (h3 : pkB xs i ≠ 63) (h4 : pkB xs i ≠ 123) : repHd (xs.drop i) = false := by
  cases hs : xs.drop i with
  | nil => rfl
  | cons c r =>
    have a := drop_ne h1 r
    have b := drop_ne h2 r
    have e := drop_ne h3 r
    have f := drop_ne h4 r
    rw [hs] at a b e f
    simp [repHd]
    simp at a b e f
    exact ⟨⟨⟨a, b⟩, e⟩, f⟩
theorem numV_pos {ds : List Int} (h : ∀ c ∈ ds, 48 ≤ c) : 0 ≤ numV ds := by
  unfold numV
  have key : ∀ (ds : List Int) (a : Int), (∀ c ∈ ds, 48 ≤ c) → 0 ≤ a → 0 ≤ ds.foldl (fun v c => v * 10 + (c - 48)) a := by
    intro ds
    induction ds with
    | nil => intro a _ h; exact h
    | cons c r ih =>
      intro a h h0
      have := h c (by simp)
      exact ih _ (fun c hc => h c (by simp [hc])) (by show 0 ≤ a * 10 + (c - 48); omega)
  exact key ds 0 h (by omega)
theorem num1_pos {s r : List Int} {v : Int} (h : num1 s = some (v, r)) : 0 ≤ v := by
  unfold num1 at h
  split at h
  · cases h
  · cases h
    apply numV_pos
    intro c hc
    have : isD c = true := List.all_eq_true.1 (List.all_takeWhile) c hc
    simp [isD] at this
    omega
theorem brc_bd {s r : List Int} {lo hi : Int} (h : brc s = some ((lo, hi), r)) : 0 ≤ lo ∧ (hi = -1 ∨ lo ≤ hi) := by
  unfold brc at h
  cases hn : num1 s with
  | none => rw [hn] at h; cases h
  | some y =>
    rw [hn, Option.bind_some] at h
    obtain ⟨v, t⟩ := y
    have hv := num1_pos hn
    simp only at h
    match t, h with
    | c :: t', h =>
      rw [brc2] at h
      by_cases h1 : c = 125
      · rw [if_pos h1] at h; cases h; exact ⟨hv, .inr (Int.le_refl _)⟩
      rw [if_neg h1] at h
      by_cases h2 : c = 44
      · rw [if_pos h2] at h
        match t', h with
        | b :: t2, h =>
          rw [brc3] at h
          by_cases h3 : b = 125
          · rw [if_pos h3] at h; cases h; exact ⟨hv, .inl rfl⟩
          rw [if_neg h3] at h
          cases hn2 : num1 (b :: t2) with
          | none => rw [hn2] at h; cases h
          | some z =>
            rw [hn2, Option.bind_some] at h
            obtain ⟨u, t3⟩ := z
            simp only at h
            by_cases h4 : u < v
            · rw [if_pos h4] at h; cases h
            · rw [if_neg h4] at h
              match t3, h with
              | d :: t4, h =>
                simp only at h
                by_cases h5 : d = 125
                · rw [if_pos h5] at h; cases h; exact ⟨hv, .inr (by omega)⟩
                · rw [if_neg h5] at h; cases h
      · rw [if_neg h2] at h; cases h
/-- A repetition is answered. -/
theorem item_ret {w w' : World} {N q : Nat} {tv : Value} {xs : List Int} {at' d : Nat} {ov : Bool} {Y : TypeId} {x : Value} {T : Tr} {ts : List Tk} {at2 at3 : Nat} {lo hi : Int} (hG : Gw q w w') (hev : Ev (fun n => rdAtom n (xs.drop at')) (some (T, ts, xs.drop at2))) (hwl : wl 0 ts = some 0) (hnd : (ov || ovr 100 250 d ts) = false → NdV (.iface Y x) T) (hd : 100 < d → ov = true)
    (hh : repHd (xs.drop at2) = true) (hx : lx (xs.drop at2) = some (.inr (.inl (lo, hi)), xs.drop at3)) (hle : at3 ≤ xs.length) (hge : at' + 1 ≤ at3) (hR : Rdr w' N q tv xs at3 d ((ov || ovr 100 250 d ts) || (decide (250 < lo) || decide (250 < hi)))) (h0 : 0 ≤ lo) (h1 : hi = -1 ∨ lo ≤ hi) : NdR rdItem 1 (.returned (rV (.iface Y x) lo hi)) w w' N q tv xs at' d ov := by
  have hd' : 100 < d → (ov || ovr 100 250 d ts) = true := fun h => by rw [hd h]; rfl
  have e : (ov || ovr 100 250 d (ts ++ [.inr (.inl (lo, hi))])) = ((ov || ovr 100 250 d ts) || (decide (250 < lo) || decide (250 < hi))) := by
    rw [ovr_app hwl, ← Bool.or_assoc, ov_rep hd']
  refine ⟨hG, .inr ⟨rV (.iface Y x) lo hi, .rep T lo hi, ts ++ [.inr (.inl (lo, hi))], at3, ?_, hle, hge, wl_cat hwl rfl, rfl, ⟨_, _, rfl⟩, ?_, fun hf => ?_⟩⟩
  · rw [← rdRep_yes (T := T) (ts := ts) hh hx]
    exact item_some hev
  · rw [e]; exact hR
  · rw [e] at hf
    simp only [Bool.or_eq_false_iff, decide_eq_false_iff_not] at hf
    exact NdV.rep (hnd (by simp [hf.1])) h0 (by omega) (by omega)

set_option maxHeartbeats 8000000 in
set_option maxRecDepth 100000 in
theorem readItem_any (w : World) (N q : Nat) (tv : Value) (xs : List Int) (at' d : Nat) (ov : Bool) (h : Rdr w N q tv xs at' d ov) (hb : ∀ x ∈ xs, 0 ≤ x ∧ x ≤ 255) (ha : at' ≤ xs.length) (hl : xs.length ≤ 100000) (hd : d ≤ at') (ho : 100 < d → ov = true) (m : Nat) (hA : AltH N q tv xs m) (hm : xs.length - at' ≤ m) :
    Calls Try.prog 52 #[.pointer (some ⟨q, 0, none⟩)] w fun e w' => NdR rdItem 1 e w w' N q tv xs at' d ov := by
  have HP := hide (readAtom_any w N q tv xs at' d ov h hb ha hl hd ho m hA hm)
  have HB := hide hb
  have HO := hide ho
  clear h hb hA ho
  go_enter Try.func52, Try.ntmps52
  go_wp2_with fail
  refine (unhide HP).mono ?_
  rintro e w1 ⟨hG1, ⟨hno, z, rfl⟩ | ⟨u, T, ts, at2, hev, hle2, hge2, hwl, rfl, ⟨Y, x, rfl⟩, hR1, hnd⟩⟩
  · have HX := hide (item_none hno)
    have HG1 := hide hG1
    clear hno hG1
    go_wp2
    exact ⟨rfl, unhide HG1, .inl ⟨unhide HX, _, rfl⟩⟩
  · obtain ⟨o1, ho1⟩ : ∃ o1, o1 = (ov || ovr 100 250 d ts) := ⟨_, rfl⟩
    rw [← ho1] at hR1
    have HO1 := hide ho1
    have HG1 := hide hG1
    have HEV := hide hev
    have HWL := hide hwl
    have HND := hide hnd
    have HGE := hide hge2
    have HT1 := hide (take_any w1 N q tv xs at2 d o1 42 hR1 (unhide HB) hle2 hl)
    have HR1 := hide hR1
    clear HP ho1 hG1 hev hwl hnd hge2 hR1
    go_wp2_with fail
    refine (unhide HT1).mono ?_
    rintro e w2 (⟨hno1, rfl, n2, rfl⟩ | ⟨hye, rfl, hR2, hob2⟩)
    rotate_left
    · obtain ⟨hdr, hlt⟩ := drop_pk (by omega) hye
      have HF := hide (item_ret (lo := 0) (hi := -1) ((unhide HG1).trans hob2.gw) (unhide HEV) (unhide HWL) (unhide HND) (unhide HO) (at3 := at2 + 1) (by rw [hdr]; rfl) (by rw [hdr]; simp [lx]) hlt (by have := unhide HGE; omega) (by rw [← unhide HO1]; simpa using hR2) (by omega) (.inl rfl))
      clear hdr hlt hye hR2 hob2 HT1
      go_wp2
      go_ret
      exact unhide HF
    have HR2 := hide ((unhide HR1).drewN n2)
    have HG2 := hide ((unhide HG1).trans (obk_drewN q w1 n2).gw)
    have HT2 := hide (take_any _ N q tv xs at2 d o1 43 (unhide HR2) (unhide HB) hle2 hl)
    have HNO1 := hide hno1
    clear HT1 HR1 HG1 hno1
    go_wp2_with fail
    refine (unhide HT2).mono ?_
    rintro e w3 (⟨hno2, rfl, n3, rfl⟩ | ⟨hye, rfl, hR3, hob3⟩)
    rotate_left
    · obtain ⟨hdr, hlt⟩ := drop_pk (by omega) hye
      have HF := hide (item_ret (lo := 1) (hi := -1) ((unhide HG2).trans hob3.gw) (unhide HEV) (unhide HWL) (unhide HND) (unhide HO) (at3 := at2 + 1) (by rw [hdr]; rfl) (by rw [hdr]; simp [lx]) hlt (by have := unhide HGE; omega) (by rw [← unhide HO1]; simpa using hR3) (by omega) (.inl rfl))
      clear hdr hlt hye hR3 hob3 HT2
      go_wp2
      go_ret
      exact unhide HF
    have HR3 := hide ((unhide HR2).drewN n3)
    have HG3 := hide ((unhide HG2).trans (obk_drewN q _ n3).gw)
    rw [drew2]
    rw [drew2] at HR3 HG3
    obtain ⟨n23, hn23⟩ : ∃ k, k = n2 + n3 := ⟨_, rfl⟩
    rw [← hn23] at HR3 HG3 ⊢
    have HT3 := hide (take_any _ N q tv xs at2 d o1 63 (unhide HR3) (unhide HB) hle2 hl)
    have HNO2 := hide hno2
    clear HT2 HR2 HG2 hno2 hn23
    go_wp2_with fail
    refine (unhide HT3).mono ?_
    rintro e w4 (⟨hno3, rfl, n4, rfl⟩ | ⟨hye, rfl, hR4, hob4⟩)
    rotate_left
    · obtain ⟨hdr, hlt⟩ := drop_pk (by omega) hye
      have HF := hide (item_ret (lo := 0) (hi := 1) ((unhide HG3).trans hob4.gw) (unhide HEV) (unhide HWL) (unhide HND) (unhide HO) (at3 := at2 + 1) (by rw [hdr]; rfl) (by rw [hdr]; simp [lx]) hlt (by have := unhide HGE; omega) (by rw [← unhide HO1]; simpa using hR4) (by omega) (.inr (by omega)))
      clear hdr hlt hye hR4 hob4 HT3
      go_wp2
      go_ret
      exact unhide HF
    have HR4 := hide ((unhide HR3).drewN n4)
    have HG4 := hide ((unhide HG3).trans (obk_drewN q _ n4).gw)
    rw [drew2]
    rw [drew2] at HR4 HG4
    obtain ⟨n34, hn34⟩ : ∃ k, k = n23 + n4 := ⟨_, rfl⟩
    rw [← hn34] at HR4 HG4 ⊢
    have HT4 := hide (take_any _ N q tv xs at2 d o1 123 (unhide HR4) (unhide HB) hle2 hl)
    have HNO3 := hide hno3
    clear HT3 HR3 HG3 hno3 hn34
    go_wp2_with fail
    refine (unhide HT4).mono ?_
    rintro e w5 (⟨hno4, rfl, n5, rfl⟩ | ⟨hye, rfl, hR5, hob5⟩)
    · have HX : Hid (Ev (fun n => rdItem n (xs.drop at')) (some (T, ts, xs.drop at2))) := by
        rw [← rdRep_no (T := T) (ts := ts) (repHd_pk (unhide HNO1) (unhide HNO2) (unhide HNO3) hno4)]
        exact item_some (unhide HEV)
      have HR5 := hide ((unhide HR4).drewN n5)
      have HG5 := hide ((unhide HG4).trans (obk_drewN q _ n5).gw)
      clear HT4 hno4
      go_wp2
      go_ret
      refine ⟨?_, .inr ⟨_, T, ts, at2, unhide HX, hle2, unhide HGE, unhide HWL, rfl, ⟨_, _, rfl⟩, ?_, unhide HND⟩⟩
      · first | exact unhide HG5 | (rw [drew2] at HG5; exact unhide HG5)
      · rw [← unhide HO1]; first | exact unhide HR5 | (rw [drew2] at HR5; exact unhide HR5)
    · obtain ⟨hdr, hlt⟩ := drop_pk (by omega) hye
      have HDR := hide hdr
      have HG5 := hide ((unhide HG4).trans hob5.gw)
      have HN := hide (readBounds_any w5 N q tv xs (at2 + 1) d o1 hR5 (unhide HB) hlt hl)
      clear hdr hye hR5 hob5 HT4 HR4 HG4 hlt
      go_wp2_with fail
      refine (unhide HN).mono ?_
      rintro e w6 ⟨hob6, ⟨hbn, z, rfl⟩ | ⟨lo, hi, at3, hbs, hle3, rfl, hR6⟩⟩
      · have HX : Hid (Ev (fun n => rdItem n (xs.drop at')) none) := by
          rw [← rdRep_bad (T := T) (ts := ts) (s := xs.drop at2) (by rw [unhide HDR]; rfl) (by rw [unhide HDR]; simp [lx, hbn])]
          exact item_some (unhide HEV)
        have HG6 := hide ((unhide HG5).trans hob6.gw)
        clear hbn hob6 HN
        go_wp2
        exact ⟨rfl, unhide HG6, .inl ⟨unhide HX, _, rfl⟩⟩
      · obtain ⟨b0, b1⟩ := brc_bd hbs
        have hlx : lx (xs.drop at2) = some (.inr (.inl (lo, hi)), xs.drop at3) := by rw [unhide HDR]; simp [lx, hbs]
        have HF := hide (item_ret ((unhide HG5).trans hob6.gw) (unhide HEV) (unhide HWL) (unhide HND) (unhide HO) (by rw [unhide HDR]; rfl) hlx hle3 (by have := unhide HGE; have := lx_le hlx hle3; omega) (by rw [← unhide HO1]; exact hR6) b0 b1)
        clear hlx b0 b1 hbs hR6 hob6 HN
        go_wp2
        go_ret
        exact unhide HF

end Go.Proofs.Ytjjmgegbeccjoaa
