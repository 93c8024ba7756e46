import Derived.Test.YtcmofgehhdfifaaGreatDoorPk13
namespace Go.Proofs.YtcmofgehhdfifaaGreatDoor
open Go.RowKit
theorem grp_none {s : List Int} (h : Ev (fun n => rdAlt n s) none) : Ev (fun n => rdGrp n s) none := by
  obtain ⟨N, h⟩ := h
  exact ⟨N, fun n hn => by show (rdAlt n s).bind rdCl = none; rw [show rdAlt n s = none from h n hn]; rfl⟩
theorem grp_some {s : List Int} {T : Tr} {ts : List Tk} {r : List Int} (h : Ev (fun n => rdAlt n s) (some (T, ts, r))) : Ev (fun n => rdGrp n s) (rdCl (T, ts, r)) := by
  obtain ⟨N, h⟩ := h
  exact ⟨N, fun n hn => by show (rdAlt n s).bind rdCl = _; rw [show rdAlt n s = some (T, ts, r) from h n hn]; rfl⟩
theorem rdCl_yes {T : Tr} {ts : List Tk} {r : List Int} : rdCl (T, ts, 41 :: r) = some (T, .inr (.inr (.inl true)) :: (ts ++ [.inr (.inr (.inl false))]), r) := by simp [rdCl]
theorem rdCl_no {T : Tr} {ts : List Tk} {s : List Int} (h : ∀ r, s ≠ 41 :: r) : rdCl (T, ts, s) = none := by
  cases s with
  | nil => rfl
  | cons c r => simp only [rdCl]; rw [if_neg (fun e => h r (by rw [e]))]
set_option maxHeartbeats 4000000 in
theorem readGroup_in (w : World) (N q : Nat) (tv : Value) (xs : List Int) (at' d : Nat) (ov o1 : Bool) (h : Rdr w N q tv xs at' (d + 1) o1) (ho : o1 = (ov || decide (100 < d + 1))) (ha : at' ≤ xs.length) (hd : d + 1 ≤ at') (m : Nat) (hA : AltH N q tv xs m) (hm : xs.length - at' < m) :
    Calls Tryz.prog 51 #[.pointer (some ⟨q, 0, none⟩)] w fun e w' => NdR rdAlt 0 e w w' N q tv xs at' (d + 1) o1 := hA w at' (d + 1) o1 hm ha hd (fun h => by rw [ho]; simp [h]) h
set_option maxHeartbeats 4000000 in
theorem readGroup_any (w : World) (N q : Nat) (tv : Value) (xs : List Int) (at' d : Nat) (ov : Bool) (h : Rdr w N q tv xs at' d ov) (hb : ∀ x ∈ xs, 0 ≤ x ∧ x ≤ 255) (ha : at' ≤ xs.length) (hl : xs.length ≤ 100000) (hd : d + 1 ≤ at') (m : Nat) (hA : AltH N q tv xs m) (hm : xs.length - at' < m) :
    Calls Tryz.prog 102 #[.pointer (some ⟨q, 0, none⟩)] w fun e w' => NdR rdGrp 1 e w w' N q tv xs at' d ov := by
  obtain ⟨k0, k1, k2, k3, -⟩ := h.row.facts
  have f2 := World.rowIs.frozen h.row 2
  have f3 := World.rowIs.frozen h.row 3
  have hd1 : (d : Int) + 1 ≤ 100001 := by omega
  have hd0 : (0 : Int) ≤ (d : Int) := by omega
  have hR1 := h.deep (d + 1)
  have hrest : ∀ (w1 : World) (o1 : Bool), Rdr w1 N q tv xs at' (d + 1) o1 → o1 = (ov || decide (100 < d + 1)) → Obk q w w1 → Calls Tryz.prog 51 #[.pointer (some ⟨q, 0, none⟩)] w1 fun e w' => NdR rdAlt 0 e w1 w' N q tv xs at' (d + 1) o1 := fun w1 o1 h1 h2 _ => readGroup_in w1 N q tv xs at' d ov o1 h1 h2 ha hd m hA hm
  by_cases h100 : 100 < d + 1
  · have h100' : (100 : Int) < (d : Int) + 1 := by omega
    have hR2 := hR1.over
    have hob : Obk q w ((w.setCell ⟨q, 2, none⟩ (.int .i64 ((d + 1 : Nat) : Int))).setCell ⟨q, 3, none⟩ (.bool true)) := (obk_put 2 _).trans (obk_put 3 _)
    have HC := hide (hrest _ true hR2 (by simp [h100]) hob)
    have HOB := hide hob
    have e1 : ((d + 1 : Nat) : Int) = (d : Int) + 1 := by omega
    rw [e1] at HC HOB
    have HB := hide hb
    clear hrest hR1 hR2 h hA e1 hob hb
    go_enter Tryz.func102, Tryz.ntmps102
    go_wp2_with fail
    refine (unhide HC).mono ?_
    rintro e w2 ⟨hG2, ⟨hno, z, rfl⟩ | ⟨u, T, ts, at2, hev, hle2, hge2, hwl, rfl, ⟨Y, x, rfl⟩, hR2, hnd⟩⟩
    · have HX := hide (grp_none hno)
      have HG2 := hide ((unhide HOB).gw.trans hG2)
      clear hno hG2
      go_wp2
      exact ⟨rfl, unhide HG2, .inl ⟨unhide HX, _, rfl⟩⟩
    · have HO2 : Hid ((true || ovr 100 250 (d + 1) ts) = (ov || ovr 100 250 d (.inr (.inr (.inl true)) :: (ts ++ [.inr (.inr (.inl false))])))) := by
        show _ = _
        rw [← ov_grp hwl]
        simp [h100]
      rw [unhide HO2] at hR2 hnd
      obtain ⟨o2, ho2⟩ : ∃ o2, o2 = (ov || ovr 100 250 d (.inr (.inr (.inl true)) :: (ts ++ [.inr (.inr (.inl false))]))) := ⟨_, rfl⟩
      rw [← ho2] at hR2 hnd
      have HE := hide (expect_any w2 N q tv xs at2 (d + 1) o2 41 hR2 (unhide HB) hle2 hl)
      have HG2 := hide ((unhide HOB).gw.trans hG2)
      have HEV := hide (grp_some hev)
      have HND := hide hnd
      have HWL := hide (wl_grp hwl)
      have HO := hide ho2
      have HGE := hide hge2
      clear hG2 hev hnd hwl hR2 ho2 HO2 HC HOB k0 k1 k2 k3 f2 f3 hge2
      go_wp2_with fail
      refine (unhide HE).mono ?_
      rintro e w3 (⟨hne, rfl, n3, rfl⟩ | ⟨heq, rfl, hR3, hob3⟩)
      · have HX : Hid (Ev (fun n => rdGrp n (xs.drop at')) none) := by
          have := unhide HEV
          rw [rdCl_no (drop_ne hne)] at this
          exact this
        have HG3 := hide ((unhide HG2).trans (obk_drewN q w2 n3).gw)
        clear hne HE HG2
        go_wp2
        exact ⟨rfl, unhide HG3, .inl ⟨unhide HX, _, rfl⟩⟩
      · obtain ⟨hdr, hlt⟩ := drop_pk (by omega) heq
        have HX : Hid (Ev (fun n => rdGrp n (xs.drop at')) (some (T, .inr (.inr (.inl true)) :: (ts ++ [.inr (.inr (.inl false))]), xs.drop (at2 + 1)))) := by
          have := unhide HEV
          rw [hdr, rdCl_yes] at this
          exact this
        have HG3 := hide (((unhide HG2).trans hob3.gw).trans (obk_put (w := w3) (b := q) 2 (.int .i64 (d : Nat))).gw)
        obtain ⟨c0, c1, c2, c3, -⟩ := hR3.row.facts
        have g2 := World.rowIs.frozen hR3.row 2
        rw [show ((d + 1 : Nat) : Int) = (d : Int) + 1 by omega] at c2
        have HR9 := hide (hR3.deep d)
        have hle3 : at2 + 1 ≤ xs.length := hlt
        clear hob3 heq hdr hlt hR3 HE HG2
        go_wp2
        go_ret
        exact ⟨unhide HG3, .inr ⟨_, T, _, at2 + 1, unhide HX, hle3, by have := unhide HGE; omega, unhide HWL, rfl, ⟨_, _, rfl⟩, by rw [← unhide HO]; exact unhide HR9, by rw [← unhide HO]; exact unhide HND⟩⟩
  · have h100' : ¬ (100 : Int) < (d : Int) + 1 := by omega
    have hob : Obk q w (w.setCell ⟨q, 2, none⟩ (.int .i64 ((d + 1 : Nat) : Int))) := obk_put 2 _
    have HC := hide (hrest _ ov hR1 (by simp [h100]) hob)
    have HOB := hide hob
    have e1 : ((d + 1 : Nat) : Int) = (d : Int) + 1 := by omega
    rw [e1] at HC HOB
    have HB := hide hb
    clear hrest hR1 h hA e1 hob hb
    go_enter Tryz.func102, Tryz.ntmps102
    go_wp2_with fail
    refine (unhide HC).mono ?_
    rintro e w2 ⟨hG2, ⟨hno, z, rfl⟩ | ⟨u, T, ts, at2, hev, hle2, hge2, hwl, rfl, ⟨Y, x, rfl⟩, hR2, hnd⟩⟩
    · have HX := hide (grp_none hno)
      have HG2 := hide ((unhide HOB).gw.trans hG2)
      clear hno hG2
      go_wp2
      exact ⟨rfl, unhide HG2, .inl ⟨unhide HX, _, rfl⟩⟩
    · have HO2 : Hid ((ov || ovr 100 250 (d + 1) ts) = (ov || ovr 100 250 d (.inr (.inr (.inl true)) :: (ts ++ [.inr (.inr (.inl false))])))) := by
        show _ = _
        rw [← ov_grp hwl]
        simp [h100]
      rw [unhide HO2] at hR2 hnd
      obtain ⟨o2, ho2⟩ : ∃ o2, o2 = (ov || ovr 100 250 d (.inr (.inr (.inl true)) :: (ts ++ [.inr (.inr (.inl false))]))) := ⟨_, rfl⟩
      rw [← ho2] at hR2 hnd
      have HE := hide (expect_any w2 N q tv xs at2 (d + 1) o2 41 hR2 (unhide HB) hle2 hl)
      have HG2 := hide ((unhide HOB).gw.trans hG2)
      have HEV := hide (grp_some hev)
      have HND := hide hnd
      have HWL := hide (wl_grp hwl)
      have HO := hide ho2
      have HGE := hide hge2
      clear hG2 hev hnd hwl hR2 ho2 HO2 HC HOB k0 k1 k2 k3 f2 f3 hge2
      go_wp2_with fail
      refine (unhide HE).mono ?_
      rintro e w3 (⟨hne, rfl, n3, rfl⟩ | ⟨heq, rfl, hR3, hob3⟩)
      · have HX : Hid (Ev (fun n => rdGrp n (xs.drop at')) none) := by
          have := unhide HEV
          rw [rdCl_no (drop_ne hne)] at this
          exact this
        have HG3 := hide ((unhide HG2).trans (obk_drewN q w2 n3).gw)
        clear hne HE HG2
        go_wp2
        exact ⟨rfl, unhide HG3, .inl ⟨unhide HX, _, rfl⟩⟩
      · obtain ⟨hdr, hlt⟩ := drop_pk (by omega) heq
        have HX : Hid (Ev (fun n => rdGrp n (xs.drop at')) (some (T, .inr (.inr (.inl true)) :: (ts ++ [.inr (.inr (.inl false))]), xs.drop (at2 + 1)))) := by
          have := unhide HEV
          rw [hdr, rdCl_yes] at this
          exact this
        have HG3 := hide (((unhide HG2).trans hob3.gw).trans (obk_put (w := w3) (b := q) 2 (.int .i64 (d : Nat))).gw)
        obtain ⟨c0, c1, c2, c3, -⟩ := hR3.row.facts
        have g2 := World.rowIs.frozen hR3.row 2
        rw [show ((d + 1 : Nat) : Int) = (d : Int) + 1 by omega] at c2
        have HR9 := hide (hR3.deep d)
        have hle3 : at2 + 1 ≤ xs.length := hlt
        clear hob3 heq hdr hlt hR3 HE HG2
        go_wp2
        go_ret
        exact ⟨unhide HG3, .inr ⟨_, T, _, at2 + 1, unhide HX, hle3, by have := unhide HGE; omega, unhide HWL, rfl, ⟨_, _, rfl⟩, by rw [← unhide HO]; exact unhide HR9, by rw [← unhide HO]; exact unhide HND⟩⟩
theorem atom_grp {r : List Int} {x : Option (Tr × List Tk × List Int)} (h : Ev (fun n => rdGrp n r) x) : Ev (fun n => rdAtom n (40 :: r)) x := h.step id (fun n => by show rdAtom (n + 1) (40 :: r) = rdGrp n r; rw [rdAtom_c, if_pos rfl]; rfl)
theorem atom_set {c : Int} {r : List Int} (h : c ≠ 40) : Ev (fun n => rdAtom n (c :: r)) (rdSet (c :: r)) := Ev.const (fun n => by rw [rdAtom_c, if_neg h])
theorem atom_ret {w w' : World} {N q : Nat} {tv : Value} {xs : List Int} {at' d : Nat} {ov : Bool} {c : Int} {g : Nat → Nat} {cs : List Int} {at2 : Nat} (hG : Gw q w w') (hR : Rdr w' N q tv xs at2 d ov) (hD : xs.drop at' = c :: xs.drop (at' + 1)) (hc : c ≠ 40) (hx : lx (c :: xs.drop (at' + 1)) = some (.inl cs, xs.drop at2)) (hle : at2 ≤ xs.length) (hge : at' + 1 ≤ at2) (hd : 100 < d → ov = true) (hW : WordsOf cs g) (hC : Canon cs) : NdR rdAtom 1 (.returned (sV g)) w w' N q tv xs at' d ov := by
  refine ⟨hG, .inr ⟨sV g, .s cs, [.inl cs], at2, ?_, hle, hge, rfl, rfl, ⟨_, _, rfl⟩, ?_, fun _ => NdV.s hW hC⟩⟩
  · rw [hD, ← rdSet_some hx]
    exact atom_set hc
  · rw [ov_set hd]; exact hR
theorem lx_le {xs : List Int} {i j : Nat} {t : Tk} (h : lx (xs.drop i) = some (t, xs.drop j)) (hj : j ≤ xs.length) : i + 1 ≤ j := by
  obtain ⟨p, h1, h2, -⟩ := lx_loc _ _ _ h
  have := congrArg List.length h1
  rw [List.length_append, List.length_drop, List.length_drop] at this
  omega
set_option maxHeartbeats 8000000 in
set_option maxRecDepth 100000 in
theorem readAtom_any (w : World) (N q : Nat) (tv : Value) (xs : List Int) (at' d : Nat) (ov : Bool) (h : Rdr w N q tv xs at' d ov) (hb : ∀ x ∈ xs, 0 ≤ x ∧ x ≤ 255) (ha : at' ≤ xs.length) (hl : xs.length ≤ 100000) (hd : d ≤ at') (ho : 100 < d → ov = true) (m : Nat) (hA : AltH N q tv xs m) (hm : xs.length - at' ≤ m) :
    Calls Tryz.prog 97 #[.pointer (some ⟨q, 0, none⟩)] w fun e w' => NdR rdAtom 1 e w w' N q tv xs at' d ov := by
  have HP := hide (rdNext_any w N q tv xs at' d ov h hb ha hl)
  have HB := hide hb
  have HA := hide hA
  have HO := hide ho
  clear h hb hA ho
  go_enter Tryz.func97, Tryz.ntmps97
  go_wp2_with fail
  refine (unhide HP).mono ?_
  rintro e w1 (⟨hat, rfl, n1, rfl⟩ | ⟨hlt, rfl, hR1, hob⟩)
  · have HX : Hid (Ev (fun n => rdAtom n (xs.drop at')) none) := by
      rw [List.drop_eq_nil_of_le (by omega)]
      exact Ev.const (fun n => rfl)
    clear hat
    go_wp2
    exact ⟨rfl, (obk_drewN q w n1).gw, .inl ⟨unhide HX, _, rfl⟩⟩
  · have hG1 : Gw q w w1 := hob.gw
    obtain ⟨c, hce⟩ : ∃ c, c = xs[at']?.getD 0 := ⟨_, rfl⟩
    have hc9 := unhide HB (xs[at']?.getD 0) (by rw [List.getElem?_eq_getElem hlt]; exact List.getElem_mem hlt)
    have HD := hide (drop_at hlt)
    rw [← hce] at hc9 HD ⊢
    obtain ⟨c0, c1⟩ := hc9
    have HR1 := hide hR1
    have HG1 := hide hG1
    have hle1 : at' + 1 ≤ xs.length := hlt
    clear HP hob hce hlt hR1 hG1
    by_cases e1 : c = 40
    · subst e1
      have HE := hide (readGroup_any w1 N q tv xs (at' + 1) d ov (unhide HR1) (unhide HB) hle1 hl (by omega) m (unhide HA) (by omega))
      clear HR1
      go_wp2_with fail
      refine (unhide HE).mono ?_
      rintro e w2 ⟨hG2, ⟨hno, z, rfl⟩ | ⟨u, T, ts, at2, hev, hle2, hge2, hwl, rfl, ⟨Y, x, rfl⟩, hR2, hnd⟩⟩
      · have HX : Hid (Ev (fun n => rdAtom n (xs.drop at')) none) := by rw [unhide HD]; exact atom_grp hno
        have HG2 := hide ((unhide HG1).trans hG2)
        clear hno hG2
        go_wp2
        exact ⟨rfl, unhide HG2, .inl ⟨unhide HX, _, rfl⟩⟩
      · have HX : Hid (Ev (fun n => rdAtom n (xs.drop at')) (some (T, ts, xs.drop at2))) := by rw [unhide HD]; exact atom_grp hev
        have HG2 := hide ((unhide HG1).trans hG2)
        have HR2 := hide hR2
        have HND := hide hnd
        have HWL := hide hwl
        have HGE := hide hge2
        clear hG2 hR2 hnd hwl hev hge2
        go_wp2
        go_ret
        exact ⟨unhide HG2, .inr ⟨_, T, ts, at2, unhide HX, hle2, by have := unhide HGE; omega, unhide HWL, rfl, ⟨_, _, rfl⟩, unhide HR2, unhide HND⟩⟩
    by_cases e2 : c = 46
    · subst e2
      go_wp2_with fail
      refine (allBut_any w1).mono ?_
      rintro e w2 ⟨⟨g, rfl, hg⟩, hb2⟩
      have HF := hide (atom_ret ((unhide HG1).trans (gw_of hb2 (Nat.le_refl _))) ((unhide HR1).keep hb2 (Nat.le_refl _)) (unhide HD) (by omega) (lx_dot _) hle1 (Nat.le_refl _) (unhide HO) hg canon_dot)
      clear hb2 hg
      unfold ws4
      go_wp2
      go_ret
      exact unhide HF
    by_cases e3 : c = 91
    · subst e3
      have HE := hide (readClass_any w1 N q tv xs (at' + 1) d ov (unhide HR1) (unhide HB) hle1 hl)
      clear HR1
      go_wp2_with fail
      refine (unhide HE).mono ?_
      rintro e w2 ⟨hG2, ⟨hno, z, rfl⟩ | ⟨g, cs, at2, rfl, hcl, hle2, hR2, hW, hC⟩⟩
      · have HX : Hid (Ev (fun n => rdAtom n (xs.drop at')) none) := by
          rw [unhide HD, ← rdSet_none (s := 91 :: xs.drop (at' + 1)) (by rw [lx_cls, hno]; rfl)]
          exact atom_set (by omega)
        have HG2 := hide ((unhide HG1).trans hG2)
        clear hno hG2
        go_wp2
        exact ⟨rfl, unhide HG2, .inl ⟨unhide HX, _, rfl⟩⟩
      · have hlx : lx (91 :: xs.drop (at' + 1)) = some (.inl cs, xs.drop at2) := by rw [lx_cls, hcl]; rfl
        have HF := hide (atom_ret ((unhide HG1).trans hG2) hR2 (unhide HD) (by omega) hlx hle2 (lx_le (t := .inl cs) (by rw [unhide HD]; exact hlx) hle2) (unhide HO) hW hC)
        clear hG2 hcl hR2 hW hC hlx
        unfold ws4
        go_wp2
        go_ret
        exact unhide HF
    by_cases e4 : c = 92
    · subst e4
      have HE := hide (readEscape_any w1 N q tv xs (at' + 1) d ov (unhide HR1) (unhide HB) hle1 hl)
      clear HR1
      go_wp2_with fail
      refine (unhide HE).mono ?_
      rintro e w2 ⟨hG2, ⟨hn1, hn2, z, rfl⟩ | ⟨g, lo, at2, rfl, hf, hle2, hR2, hcase⟩⟩
      · have HX : Hid (Ev (fun n => rdAtom n (xs.drop at')) none) := by
          rw [unhide HD, ← rdSet_none (s := 92 :: xs.drop (at' + 1)) (by rw [lx_esc, hn1]; simp only; rw [hn2]; rfl)]
          exact atom_set (by omega)
        have HG2 := hide ((unhide HG1).trans hG2)
        clear hn1 hn2 hG2
        go_wp2
        exact ⟨rfl, unhide HG2, .inl ⟨unhide HX, _, rfl⟩⟩
      · obtain ⟨cs, hlx, hW, hC⟩ : ∃ cs, lx (92 :: xs.drop (at' + 1)) = some (.inl cs, xs.drop at2) ∧ WordsOf cs g ∧ Canon cs := by
          rcases hcase with ⟨-, cs, hs, hbt⟩ | ⟨hs, hc, l0, l1, hbt⟩
          · exact ⟨cs, by rw [lx_esc, hs], words_inR (canon_sesc hs) hf hbt, canon_sesc hs⟩
          · exact ⟨[lo, lo], by rw [lx_esc, hs]; simp only; rw [hc]; rfl, words_one hf hbt, canon_pair l0 l1⟩
        have hb3 := below1 w2 (.cells #[.int .u64 (g 0 : Nat), .int .u64 (g 1 : Nat), .int .u64 (g 2 : Nat), .int .u64 (g 3 : Nat)] 102)
        have HF := hide (atom_ret (((unhide HG1).trans hG2).trans (gw_of hb3 (Nat.le_refl _))) (hR2.keep hb3 (Nat.le_refl _)) (unhide HD) (by omega) hlx hle2 (lx_le (t := .inl cs) (by rw [unhide HD]; exact hlx) hle2) (unhide HO) hW hC)
        clear hG2 hcase hR2 hW hC hlx hf hb3
        unfold ws4
        go_wp2
        go_ret
        exact unhide HF
    have HS := hide (isSpecial_any c w1 c0 c1)
    have HF := hide (fail_any w1 N q tv xs (at' + 1) d ov (unhide HR1))
    go_wp2_with fail
    refine (unhide HS).mono ?_
    rintro e w2 ⟨hret, rfl⟩
    rcases hret.cases with ⟨rfl, hy⟩ | ⟨rfl, hy⟩
    · have HX : Hid (Ev (fun n => rdAtom n (xs.drop at')) none) := by
        rw [unhide HD, ← rdSet_spc (r := xs.drop (at' + 1)) hy e1 e2 e3 e4]
        exact atom_set e1
      clear hy hret
      go_wp2_with fail
      refine (unhide HF).mono ?_
      rintro e w3 ⟨rfl, rfl⟩
      go_wp2
      exact ⟨rfl, unhide HG1, .inl ⟨unhide HX, _, rfl⟩⟩
    · have HLX := hide (lx_chr (r := xs.drop (at' + 1)) hy)
      clear hy hret
      go_wp2_with fail
      refine (single_any c w2 c0 c1).mono ?_
      rintro e w3 ⟨⟨g, rfl, hf, hbt⟩, hb3⟩
      have HF := hide (atom_ret ((unhide HG1).trans (gw_of hb3 (Nat.le_refl _))) ((unhide HR1).keep hb3 (Nat.le_refl _)) (unhide HD) e1 (unhide HLX) hle1 (Nat.le_refl _) (unhide HO) (words_one hf hbt) (canon_pair c0 c1))
      clear hb3 hf hbt
      unfold ws4
      go_wp2
      go_ret
      exact unhide HF
end Go.Proofs.YtcmofgehhdfifaaGreatDoor
