import Derived.Test.YtjjmgegbeccjoaaPk25
import Derived.Test.YtjjmgegbeccjoaaPk15
namespace Go.Proofs.Ytjjmgegbeccjoaa
open Go.RowKit

/-- The value u is the node of the tree T. -/
def NdV (u : Value) (T : Tr) : Prop := SzV u T.n ∧ OpsAs u T.l
theorem NdV.e : NdV eV .e := ⟨SzV.e, OpsAs.e⟩
theorem NdV.s {g : Nat → Nat} {cs : List Int} (hg : WordsOf cs g) (hc : Canon cs) : NdV (sV g) (.s cs) := ⟨SzV.s _ _ _ _, OpsAs.s hg hc⟩
theorem NdV.cat {u v : Value} {A B : Tr} (hu : NdV u A) (hv : NdV v B) : NdV (cV u v) (.cat A B) := ⟨SzV.cat hu.1 hv.1, OpsAs.cat hu.2 hv.2⟩
theorem NdV.alt {u v : Value} {A B : Tr} (hu : NdV u A) (hv : NdV v B) : NdV (aV u v) (.alt A B) := ⟨SzV.alt hu.1 hv.1, OpsAs.alt hu.2 hv.2⟩
theorem NdV.rep {u : Value} {A : Tr} {lo hi : Int} (hu : NdV u A) (h0 : 0 ≤ lo) (h1 : lo ≤ 250) (h2 : hi = -1 ∨ (lo ≤ hi ∧ hi ≤ 250)) : NdV (rV u lo hi) (.rep A lo hi) := ⟨SzV.rep hu.1 h0 h1 h2, OpsAs.rep hu.2 lo hi⟩

theorem Ev.step {α β : Type} {f : Nat → α} {g : Nat → β} {x : β} (h : Ev g x) (F : β → α) (e : ∀ n, f (n + 1) = F (g n)) : Ev f (F x) := by
  obtain ⟨N, h⟩ := h
  refine ⟨N + 1, fun n hn => ?_⟩
  obtain ⟨m, rfl⟩ : ∃ m, n = m + 1 := ⟨n - 1, by omega⟩
  rw [e, h m (by omega)]
theorem Ev.const {α : Type} {f : Nat → α} {x : α} (e : ∀ n, f (n + 1) = x) : Ev f x := by
  refine ⟨1, fun n hn => ?_⟩
  obtain ⟨m, rfl⟩ : ∃ m, n = m + 1 := ⟨n - 1, by omega⟩
  exact e m
theorem Ev.bind {α β : Type} {f : Nat → Option β} {g : Nat → Option α} {k : Nat → α → Option β} {x : α} {y : Option β} (h : Ev g (some x)) (h2 : Ev (fun n => k n x) y) (e : ∀ n, f (n + 1) = (g n).bind (k n)) : Ev f y := by
  obtain ⟨N, h⟩ := h
  obtain ⟨M, h2⟩ := h2
  refine ⟨max N M + 1, fun n hn => ?_⟩
  obtain ⟨m, rfl⟩ : ∃ m, n = m + 1 := ⟨n - 1, by omega⟩
  rw [e, h m (by omega), Option.bind_some]
  exact h2 m (by omega)
theorem Ev.bind0 {α β : Type} {f : Nat → Option β} {g : Nat → Option α} {k : Nat → α → Option β} (h : Ev g none) (e : ∀ n, f (n + 1) = (g n).bind (k n)) : Ev f none := by
  obtain ⟨N, h⟩ := h
  refine ⟨N + 1, fun n hn => ?_⟩
  obtain ⟨m, rfl⟩ : ∃ m, n = m + 1 := ⟨n - 1, by omega⟩
  rw [e, h m (by omega)]
  rfl
def rdGrp (n : Nat) (s : List Int) : Rd := (rdAlt n s).bind rdCl
/-- What a reader of nodes leaves. -/
def NdR (rd : Nat → List Int → Rd) (k : Nat) (e : Ending) (w w' : World) (N q : Nat) (tv : Value) (xs : List Int) (at' d : Nat) (ov : Bool) : Prop :=
  Gw q w w' ∧ ((Ev (fun n => rd n (xs.drop at')) none ∧ Flt e) ∨ ∃ (u : Value) (T : Tr) (ts : List Tk) (at2 : Nat), Ev (fun n => rd n (xs.drop at')) (some (T, ts, xs.drop at2)) ∧ at2 ≤ xs.length ∧ at' + k ≤ at2 ∧ wl 0 ts = some 0 ∧ e = .returned u ∧ (∃ Y x, u = .iface Y x) ∧
    Rdr w' N q tv xs at2 d (ov || ovr 100 250 d ts) ∧ ((ov || ovr 100 250 d ts) = false → NdV u T))
theorem ov_top {ov : Bool} {d : Nat} (hd : 100 < d → ov = true) : (ov || decide (100 < d)) = ov := by
  by_cases h : 100 < d
  · rw [hd h]; rfl
  · simp [h]
theorem ov_set {ov : Bool} {d : Nat} {cs : List Int} (hd : 100 < d → ov = true) : (ov || ovr 100 250 d [.inl cs]) = ov := by rw [ovr_set, ov_top hd]
theorem ov_nil {ov : Bool} {d : Nat} (hd : 100 < d → ov = true) : (ov || ovr 100 250 d []) = ov := by rw [ovr_nil, ov_top hd]
theorem ov_rep {ov : Bool} {d : Nat} {lo hi : Int} (hd : 100 < d → ov = true) : (ov || ovr 100 250 d [.inr (.inl (lo, hi))]) = (ov || (decide (250 < lo) || decide (250 < hi))) := by rw [ovr_rep, ← Bool.or_assoc, ov_top hd]
theorem ov_grp {ov : Bool} {d : Nat} {ts : List Tk} (h : wl 0 ts = some 0) : ((ov || decide (100 < d + 1)) || ovr 100 250 (d + 1) ts) = (ov || ovr 100 250 d (.inr (.inr (.inl true)) :: (ts ++ [.inr (.inr (.inl false))]))) := by
  rw [ovr_grp h, Bool.or_assoc]
  congr 1
  unfold ovr
  have := mxd_ge ts (d + 1)
  by_cases h1 : 100 < d + 1
  · have h2 : 100 < mxd (d + 1) ts := by omega
    simp [h1, h2]
  · simp [h1]
theorem wl_grp {ts : List Tk} (h : wl 0 ts = some 0) : wl 0 (.inr (.inr (.inl true)) :: (ts ++ [.inr (.inr (.inl false))])) = some 0 := by
  simp only [wl, wl_app]
  rw [wl_bal h]
  rfl
theorem wl_cat {us vs : List Tk} (h : wl 0 us = some 0) (k : wl 0 vs = some 0) : wl 0 (us ++ vs) = some 0 := by rw [wl_app, h]; exact k

theorem rdSet_some {s r : List Int} {cs : List Int} (h : lx s = some (.inl cs, r)) : rdSet s = some (.s cs, [.inl cs], r) := by unfold rdSet; rw [h]
theorem rdSet_none {s : List Int} (h : lx s = none) : rdSet s = none := by unfold rdSet; rw [h]
theorem lx_dot (r : List Int) : lx (46 :: r) = some (.inl [0, 9, 11, 255], r) := by
  rw [lx, if_neg (by decide), if_neg (by decide), if_neg (by decide), if_neg (by decide), if_neg (by decide), if_neg (by decide), if_neg (by decide), if_pos rfl]
theorem lx_cls (r : List Int) : lx (91 :: r) = (cls r).map fun x => (.inl x.1, x.2) := by
  rw [lx, if_neg (by decide), if_neg (by decide), if_neg (by decide), if_neg (by decide), if_neg (by decide), if_neg (by decide), if_neg (by decide), if_neg (by decide), if_pos rfl]
theorem lx_esc (r : List Int) : lx (92 :: r) = match sesc r with
      | some x => some (.inl x.1, x.2)
      | none => (besc r).map fun x => (.inl [x.1, x.1], x.2) := by
  rw [lx, if_neg (by decide), if_neg (by decide), if_neg (by decide), if_neg (by decide), if_neg (by decide), if_neg (by decide), if_neg (by decide), if_neg (by decide), if_neg (by decide), if_pos rfl]
  cases sesc r <;> rfl
theorem rdSet_spc {c : Int} {r : List Int} (h : c ∈ spcZ) (h1 : c ≠ 40) (h2 : c ≠ 46) (h3 : c ≠ 91) (h4 : c ≠ 92) : rdSet (c :: r) = none := by
  simp [spcZ] at h
  rcases h with rfl | rfl | rfl | rfl | rfl | rfl | rfl | rfl | rfl | rfl | rfl | rfl | rfl | rfl
  · exact absurd rfl h4
  · exact absurd rfl h2
  · exact absurd rfl h3
  · exact rdSet_none (by simp [lx, spcZ])
  · exact absurd rfl h1
  · unfold rdSet; rw [lx_cl]
  · unfold rdSet; rw [lx_bar]
  · unfold rdSet; rw [show lx (42 :: r) = some (.inr (.inl (0, -1)), r) by simp [lx]]
  · unfold rdSet; rw [show lx (43 :: r) = some (.inr (.inl (1, -1)), r) by simp [lx]]
  · unfold rdSet; rw [show lx (63 :: r) = some (.inr (.inl (0, 1)), r) by simp [lx]]
  · unfold rdSet
    rw [show lx (123 :: r) = (brc r).map fun x => (.inr (.inl (x.1.1, x.1.2)), x.2) by simp [lx]]
    cases brc r with
    | none => rfl
    | some x => rfl
  · exact rdSet_none (by simp [lx, spcZ])
  · exact rdSet_none (by simp [lx, spcZ])
  · exact rdSet_none (by simp [lx, spcZ])
theorem lx_chr {c : Int} {r : List Int} (h : c ∉ spcZ) : lx (c :: r) = some (.inl [c, c], r) := by
  have hh := h
  simp [spcZ] at hh
  rw [lx, if_neg (by omega), if_neg (by omega), if_neg (by omega), if_neg (by omega), if_neg (by omega), if_neg (by omega), if_neg (by omega), if_neg (by omega), if_neg (by omega), if_neg (by omega), if_neg h]
theorem canon_pair {x : Int} (h0 : 0 ≤ x) (h1 : x ≤ 255) : Canon [x, x] := by
  have h := canon_snoc (C := []) ⟨rfl, fun i hi => by simp at hi, fun m hm => by simp at hm⟩ (s := x) (e := x) h0 (by omega) h1 (by simp [lstD]; omega)
  simpa using h
theorem canon_add {C : List Int} {s e : Int} (h : Canon C) (h0 : 0 ≤ s) (h1 : s ≤ e) (h2 : e ≤ 255) (h3 : lstD C + 2 ≤ s) : Canon (C ++ [s, e]) := canon_snoc h h0 h1 h2 h3
theorem canon_nil : Canon [] := ⟨rfl, fun i hi => by simp at hi, fun m hm => by simp at hm⟩
theorem canon_d : Canon [48, 57] := by simpa using canon_snoc canon_nil (s := 48) (e := 57) (by omega) (by omega) (by omega) (by simp [lstD])
theorem canon_w : Canon [48, 57, 65, 90, 95, 95, 97, 122] := by
  have h1 := canon_snoc canon_d (s := 65) (e := 90) (by omega) (by omega) (by omega) (by simp [lstD])
  have h2 := canon_snoc h1 (s := 95) (e := 95) (by omega) (by omega) (by omega) (by simp [lstD])
  simpa using canon_snoc h2 (s := 97) (e := 122) (by omega) (by omega) (by omega) (by simp [lstD])
theorem canon_s : Canon [9, 10, 13, 13, 32, 32] := by
  have h1 := canon_snoc canon_nil (s := 9) (e := 10) (by omega) (by omega) (by omega) (by simp [lstD])
  have h2 := canon_snoc h1 (s := 13) (e := 13) (by omega) (by omega) (by omega) (by simp [lstD])
  simpa using canon_snoc h2 (s := 32) (e := 32) (by omega) (by omega) (by omega) (by simp [lstD])
theorem canon_sesc {s r cs : List Int} (h : sesc s = some (cs, r)) : Canon cs := by
  match s, h with
  | c :: t, h =>
    rw [sesc] at h
    by_cases h1 : c = 100
    · rw [if_pos h1] at h; cases h; exact canon_d
    rw [if_neg h1] at h
    by_cases h2 : c = 119
    · rw [if_pos h2] at h; cases h; exact canon_w
    rw [if_neg h2] at h
    by_cases h3 : c = 115
    · rw [if_pos h3] at h; cases h; exact canon_s
    rw [if_neg h3] at h
    cases h
theorem words_inR {cs : List Int} {g : Nat → Nat} (hc : Canon cs) (hf : Fit g) (h : ∀ b : Nat, Bt g b = inR cs b) : WordsOf cs g := ⟨hf, fun b => by rw [h b, inR_inP (cs.length / 2) cs b (by have := hc.1; omega)]⟩
/-- What readAlt promises of texts of m bytes. -/
def AltH (N q : Nat) (tv : Value) (xs : List Int) (m : Nat) : Prop := ∀ (w : World) (at' d : Nat) (ov : Bool), xs.length - at' < m → at' ≤ xs.length → d ≤ at' → (100 < d → ov = true) → Rdr w N q tv xs at' d ov →
  Calls Try.prog 36 #[.pointer (some ⟨q, 0, none⟩)] w fun e w' => NdR rdAlt 0 e w w' N q tv xs at' d ov
theorem Row4.p2 {w : World} {b : Nat} {t : TypeId} {c0 c1 c2 c3 u : Value} (h : Row4 w b t c0 c1 c2 c3) : Row4 (w.setCell ⟨b, 2, none⟩ u) b t c0 c1 u c3 := (World.rowIs.set h 2 u).congr (fun i hi => by
    match i, hi with
    | 0, _ => rfl
    | 1, _ => rfl
    | 2, _ => rfl
    | 3, _ => rfl
    | k + 4, h => exact absurd h (by omega))
theorem Rdr.deep {w : World} {N q : Nat} {tv : Value} {xs : List Int} {at' d : Nat} {ov : Bool} (h : Rdr w N q tv xs at' d ov) (d2 : Nat) : Rdr (w.setCell ⟨q, 2, none⟩ (.int .i64 (d2 : Nat))) N q tv xs at' d2 ov := by
  have hb : Below N w (w.setCell ⟨q, 2, none⟩ (.int .i64 (d2 : Nat))) := by
    have h9 := obk_put (w := w) (b := q) 2 (.int .i64 (d2 : Nat))
    exact ⟨h9.os, h9.tape, h9.output, by rw [h9.size]; exact Nat.le_refl _, fun k hk => h9.block k (by have := h.lt; omega)⟩
  exact ⟨Row4.p2 h.row, h.txt.undr hb (Nat.le_refl _), h.lt⟩


theorem grp_none {s : List Int} (h : Ev (fun n => rdAlt n s) none) : Ev (fun n => rdGrp n s) none := by
  obtain ⟨N, h⟩ := h
  exact ⟨N, fun n hn => by show (rdAlt n s).bind rdCl = none; rw [show rdAlt n s = none from h n hn]; rfl⟩
theorem grp_some {s : List Int} {T : Tr} {ts : List Tk} {r : List Int} (h : Ev (fun n => rdAlt n s) (some (T, ts, r))) : Ev (fun n => rdGrp n s) (rdCl (T, ts, r)) := by
  obtain ⟨N, h⟩ := h
  exact ⟨N, fun n hn => by show (rdAlt n s).bind rdCl = _; rw [show rdAlt n s = some (T, ts, r) from h n hn]; rfl⟩
theorem rdCl_yes {T : Tr} {ts : List Tk} {r : List Int} : rdCl (T, ts, 41 :: r) = some (T, .inr (.inr (.inl true)) :: (ts ++ [.inr (.inr (.inl false))]), r) := by simp [rdCl]
theorem rdCl_no {T : Tr} {ts : List Tk} {s : List Int} (h : ∀ r, s ≠ 41 :: r) : rdCl (T, ts, s) = none := by
  cases s with
  | nil => rfl
  | cons c r => simp only [rdCl]; rw [if_neg (fun e => h r (by rw [e]))]

set_option maxHeartbeats 4000000 in
theorem readGroup_in (w : World) (N q : Nat) (tv : Value) (xs : List Int) (at' d : Nat) (ov o1 : Bool) (h : Rdr w N q tv xs at' (d + 1) o1) (ho : o1 = (ov || decide (100 < d + 1))) (ha : at' ≤ xs.length) (hd : d + 1 ≤ at') (m : Nat) (hA : AltH N q tv xs m) (hm : xs.length - at' < m) :
    Calls Try.prog 36 #[.pointer (some ⟨q, 0, none⟩)] w fun e w' => NdR rdAlt 0 e w w' N q tv xs at' (d + 1) o1 := hA w at' (d + 1) o1 hm ha hd (fun h => by rw [ho]; simp [h]) h

set_option maxHeartbeats 4000000 in
theorem readGroup_any (w : World) (N q : Nat) (tv : Value) (xs : List Int) (at' d : Nat) (ov : Bool) (h : Rdr w N q tv xs at' d ov) (hb : ∀ x ∈ xs, 0 ≤ x ∧ x ≤ 255) (ha : at' ≤ xs.length) (hl : xs.length ≤ 100000) (hd : d + 1 ≤ at') (m : Nat) (hA : AltH N q tv xs m) (hm : xs.length - at' < m) :
    Calls Try.prog 57 #[.pointer (some ⟨q, 0, none⟩)] w fun e w' => NdR rdGrp 1 e w w' N q tv xs at' d ov := by
  obtain ⟨k0, k1, k2, k3, -⟩ := h.row.facts
  have f2 := World.rowIs.frozen h.row 2
  have f3 := World.rowIs.frozen h.row 3
  have hd1 : (d : Int) + 1 ≤ 100001 := by omega
  have hd0 : (0 : Int) ≤ (d : Int) := by omega
  have hR1 := h.deep (d + 1)
  have hrest : ∀ (w1 : World) (o1 : Bool), Rdr w1 N q tv xs at' (d + 1) o1 → o1 = (ov || decide (100 < d + 1)) → Obk q w w1 → Calls Try.prog 36 #[.pointer (some ⟨q, 0, none⟩)] w1 fun e w' => NdR rdAlt 0 e w1 w' N q tv xs at' (d + 1) o1 := fun w1 o1 h1 h2 _ => readGroup_in w1 N q tv xs at' d ov o1 h1 h2 ha hd m hA hm
  by_cases h100 : 100 < d + 1
  · have h100' : (100 : Int) < (d : Int) + 1 := by omega
    have hR2 := hR1.over
    have hob : Obk q w ((w.setCell ⟨q, 2, none⟩ (.int .i64 ((d + 1 : Nat) : Int))).setCell ⟨q, 3, none⟩ (.bool true)) := (obk_put 2 _).trans (obk_put 3 _)
    have HC := hide (hrest _ true hR2 (by simp [h100]) hob)
    have HOB := hide hob
    have e1 : ((d + 1 : Nat) : Int) = (d : Int) + 1 := by omega
    rw [e1] at HC HOB
    have HB := hide hb
    clear hrest hR1 hR2 h hA e1 hob hb
    go_enter Try.func57, Try.ntmps57
    go_wp2_with fail
    refine (unhide HC).mono ?_
    rintro e w2 ⟨hG2, ⟨hno, z, rfl⟩ | ⟨u, T, ts, at2, hev, hle2, hge2, hwl, rfl, ⟨Y, x, rfl⟩, hR2, hnd⟩⟩
    · have HX := hide (grp_none hno)
      have HG2 := hide ((unhide HOB).gw.trans hG2)
      clear hno hG2
      go_wp2
      exact ⟨rfl, unhide HG2, .inl ⟨unhide HX, _, rfl⟩⟩
    · have HO2 : Hid ((true || ovr 100 250 (d + 1) ts) = (ov || ovr 100 250 d (.inr (.inr (.inl true)) :: (ts ++ [.inr (.inr (.inl false))])))) := by
        show _ = _
        rw [← ov_grp hwl]
        simp [h100]
      rw [unhide HO2] at hR2 hnd
      obtain ⟨o2, ho2⟩ : ∃ o2, o2 = (ov || ovr 100 250 d (.inr (.inr (.inl true)) :: (ts ++ [.inr (.inr (.inl false))]))) := ⟨_, rfl⟩
      rw [← ho2] at hR2 hnd
      have HE := hide (expect_any w2 N q tv xs at2 (d + 1) o2 41 hR2 (unhide HB) hle2 hl)
      have HG2 := hide ((unhide HOB).gw.trans hG2)
      have HEV := hide (grp_some hev)
      have HND := hide hnd
      have HWL := hide (wl_grp hwl)
      have HO := hide ho2
      have HGE := hide hge2
      clear hG2 hev hnd hwl hR2 ho2 HO2 HC HOB k0 k1 k2 k3 f2 f3 hge2
      go_wp2_with fail
      refine (unhide HE).mono ?_
      rintro e w3 (⟨hne, rfl, n3, rfl⟩ | ⟨heq, rfl, hR3, hob3⟩)
      · have HX : Hid (Ev (fun n => rdGrp n (xs.drop at')) none) := by
          have := unhide HEV
          rw [rdCl_no (drop_ne hne)] at this
          exact this
        have HG3 := hide ((unhide HG2).trans (obk_drewN q w2 n3).gw)
        clear hne HE HG2
        go_wp2
        exact ⟨rfl, unhide HG3, .inl ⟨unhide HX, _, rfl⟩⟩
      · obtain ⟨hdr, hlt⟩ := drop_pk (by omega) heq
        have HX : Hid (Ev (fun n => rdGrp n (xs.drop at')) (some (T, .inr (.inr (.inl true)) :: (ts ++ [.inr (.inr (.inl false))]), xs.drop (at2 + 1)))) := by
          have := unhide HEV
          rw [hdr, rdCl_yes] at this
          exact this
        have HG3 := hide (((unhide HG2).trans hob3.gw).trans (obk_put (w := w3) (b := q) 2 (.int .i64 (d : Nat))).gw)
        obtain ⟨c0, c1, c2, c3, -⟩ := hR3.row.facts
        have g2 := World.rowIs.frozen hR3.row 2
        rw [show ((d + 1 : Nat) : Int) = (d : Int) + 1 by omega] at c2
        have HR9 := hide (hR3.deep d)
        have hle3 : at2 + 1 ≤ xs.length := hlt
        clear hob3 heq hdr hlt hR3 HE HG2
        go_wp2
        go_ret
        exact ⟨unhide HG3, .inr ⟨_, T, _, at2 + 1, unhide HX, hle3, by have := unhide HGE; omega, unhide HWL, rfl, ⟨_, _, rfl⟩, by rw [← unhide HO]; exact unhide HR9, by rw [← unhide HO]; exact unhide HND⟩⟩
  · have h100' : ¬ (100 : Int) < (d : Int) + 1 := by omega
    have hob : Obk q w (w.setCell ⟨q, 2, none⟩ (.int .i64 ((d + 1 : Nat) : Int))) := obk_put 2 _
    have HC := hide (hrest _ ov hR1 (by simp [h100]) hob)
    have HOB := hide hob
    have e1 : ((d + 1 : Nat) : Int) = (d : Int) + 1 := by omega
    rw [e1] at HC HOB
    have HB := hide hb
    clear hrest hR1 h hA e1 hob hb
    go_enter Try.func57, Try.ntmps57
    go_wp2_with fail
    refine (unhide HC).mono ?_
    rintro e w2 ⟨hG2, ⟨hno, z, rfl⟩ | ⟨u, T, ts, at2, hev, hle2, hge2, hwl, rfl, ⟨Y, x, rfl⟩, hR2, hnd⟩⟩
    · have HX := hide (grp_none hno)
      have HG2 := hide ((unhide HOB).gw.trans hG2)
      clear hno hG2
      go_wp2
      exact ⟨rfl, unhide HG2, .inl ⟨unhide HX, _, rfl⟩⟩
    · have HO2 : Hid ((ov || ovr 100 250 (d + 1) ts) = (ov || ovr 100 250 d (.inr (.inr (.inl true)) :: (ts ++ [.inr (.inr (.inl false))])))) := by
        show _ = _
        rw [← ov_grp hwl]
        simp [h100]
      rw [unhide HO2] at hR2 hnd
      obtain ⟨o2, ho2⟩ : ∃ o2, o2 = (ov || ovr 100 250 d (.inr (.inr (.inl true)) :: (ts ++ [.inr (.inr (.inl false))]))) := ⟨_, rfl⟩
      rw [← ho2] at hR2 hnd
      have HE := hide (expect_any w2 N q tv xs at2 (d + 1) o2 41 hR2 (unhide HB) hle2 hl)
      have HG2 := hide ((unhide HOB).gw.trans hG2)
      have HEV := hide (grp_some hev)
      have HND := hide hnd
      have HWL := hide (wl_grp hwl)
      have HO := hide ho2
      have HGE := hide hge2
      clear hG2 hev hnd hwl hR2 ho2 HO2 HC HOB k0 k1 k2 k3 f2 f3 hge2
      go_wp2_with fail
      refine (unhide HE).mono ?_
      rintro e w3 (⟨hne, rfl, n3, rfl⟩ | ⟨heq, rfl, hR3, hob3⟩)
      · have HX : Hid (Ev (fun n => rdGrp n (xs.drop at')) none) := by
          have := unhide HEV
          rw [rdCl_no (drop_ne hne)] at this
          exact this
        have HG3 := hide ((unhide HG2).trans (obk_drewN q w2 n3).gw)
        clear hne HE HG2
        go_wp2
        exact ⟨rfl, unhide HG3, .inl ⟨unhide HX, _, rfl⟩⟩
      · obtain ⟨hdr, hlt⟩ := drop_pk (by omega) heq
        have HX : Hid (Ev (fun n => rdGrp n (xs.drop at')) (some (T, .inr (.inr (.inl true)) :: (ts ++ [.inr (.inr (.inl false))]), xs.drop (at2 + 1)))) := by
          have := unhide HEV
          rw [hdr, rdCl_yes] at this
          exact this
        have HG3 := hide (((unhide HG2).trans hob3.gw).trans (obk_put (w := w3) (b := q) 2 (.int .i64 (d : Nat))).gw)
        obtain ⟨c0, c1, c2, c3, -⟩ := hR3.row.facts
        have g2 := World.rowIs.frozen hR3.row 2
        rw [show ((d + 1 : Nat) : Int) = (d : Int) + 1 by omega] at c2
        have HR9 := hide (hR3.deep d)
        have hle3 : at2 + 1 ≤ xs.length := hlt
        clear hob3 heq hdr hlt hR3 HE HG2
        go_wp2
        go_ret
        exact ⟨unhide HG3, .inr ⟨_, T, _, at2 + 1, unhide HX, hle3, by have := unhide HGE; omega, unhide HWL, rfl, ⟨_, _, rfl⟩, by rw [← unhide HO]; exact unhide HR9, by rw [← unhide HO]; exact unhide HND⟩⟩

end Go.Proofs.Ytjjmgegbeccjoaa
