import Derived.Test.YtcmofgehhdfifaaGreatDoorY2
import Derived.Test.YtcmofgehhdfifaaGreatDoorPk10
import Derived.Test.YtcmofgehhdfifaaGreatDoorPk12
import Derived.Test.YtcmofgehhdfifaaGreatDoorPk7
namespace Go.Proofs.YtcmofgehhdfifaaGreatDoor
open Go.RowKit
theorem ops_e (w : World) : Sem.run Tryz.prog (method 267 99 (.agg #[]) "loop.example/s0027/impl.appendOps") w = .ok (142, .agg #[]) w := by kernel_rfl
theorem ocall_e (y : Value) (w : World) : Sem.run Tryz.prog (callFunc 142 #[.agg #[], y]) w = .ok (.enter 142 #[.agg #[], y]) w := by kernel_rfl
theorem ops_s (x : Value) (w : World) : Sem.run Tryz.prog (method 267 104 x "loop.example/s0027/impl.appendOps") w = .ok (144, x) w := by kernel_rfl
theorem ocall_s (x y : Value) (w : World) : Sem.run Tryz.prog (callFunc 144 #[x, y]) w = .ok (.enter 144 #[x, y]) w := by kernel_rfl
theorem ops_cat (x : Value) (w : World) : Sem.run Tryz.prog (method 267 107 x "loop.example/s0027/impl.appendOps") w = .ok (146, x) w := by kernel_rfl
theorem ocall_cat (x y : Value) (w : World) : Sem.run Tryz.prog (callFunc 146 #[x, y]) w = .ok (.enter 146 #[x, y]) w := by kernel_rfl
theorem ops_alt (x : Value) (w : World) : Sem.run Tryz.prog (method 267 109 x "loop.example/s0027/impl.appendOps") w = .ok (149, x) w := by kernel_rfl
theorem ocall_alt (x y : Value) (w : World) : Sem.run Tryz.prog (callFunc 149 #[x, y]) w = .ok (.enter 149 #[x, y]) w := by kernel_rfl
theorem ops_rep (x : Value) (w : World) : Sem.run Tryz.prog (method 267 111 x "loop.example/s0027/impl.appendOps") w = .ok (151, x) w := by kernel_rfl
theorem ocall_rep (x y : Value) (w : World) : Sem.run Tryz.prog (callFunc 151 #[x, y]) w = .ok (.enter 151 #[x, y]) w := by kernel_rfl
theorem OpsAs.e : OpsAs eV [⟨0, [], 0, 0⟩] := ⟨_, _, _, rfl, ops_e, ocall_e, fun base v ps w h1 h2 h3 => eOps_any base v ps w h1 h2 (by omega)⟩
theorem OpsAs.s {g : Nat → Nat} {xs : List Int} (hg : WordsOf xs g) (hc : Canon xs) : OpsAs (sV g) [⟨1, xs, 0, 0⟩] := ⟨_, _, _, rfl, ops_s _, ocall_s _, fun base v ps w h1 h2 h3 => sOps_any g xs hg hc base v ps w h1 h2 (by omega)⟩
theorem OpsAs.cat {u v : Value} {L R : List El} (hu : OpsAs u L) (hv : OpsAs v R) : OpsAs (cV u v) (L ++ R ++ [⟨2, [], 0, 0⟩]) := ⟨_, _, _, rfl, ops_cat _, ocall_cat _, fun base y ps w h1 h2 h3 => catOps_any u v L R hu hv base y ps w h1 h2 (by simp only [List.length_append, List.length_singleton] at h3; omega)⟩
theorem OpsAs.alt {u v : Value} {L R : List El} (hu : OpsAs u L) (hv : OpsAs v R) : OpsAs (aV u v) (L ++ R ++ [⟨3, [], 0, 0⟩]) := ⟨_, _, _, rfl, ops_alt _, ocall_alt _, fun base y ps w h1 h2 h3 => altOps_any u v L R hu hv base y ps w h1 h2 (by simp only [List.length_append, List.length_singleton] at h3; omega)⟩
theorem OpsAs.rep {u : Value} {L : List El} (hu : OpsAs u L) (mn mx : Int) : OpsAs (rV u mn mx) (L ++ [⟨4, [], mn, mx⟩]) := ⟨_, _, _, rfl, ops_rep _, ocall_rep _, fun base y ps w h1 h2 h3 => repOps_any u L mn mx hu base y ps w h1 h2 (by simp only [List.length_append, List.length_singleton] at h3; omega)⟩
def NdV (u : Value) (T : Tr) : Prop := SzV u T.n ∧ OpsAs u T.l
theorem NdV.e : NdV eV .e := ⟨SzV.e, OpsAs.e⟩
theorem NdV.s {g : Nat → Nat} {cs : List Int} (hg : WordsOf cs g) (hc : Canon cs) : NdV (sV g) (.s cs) := ⟨SzV.s _ _ _ _, OpsAs.s hg hc⟩
theorem NdV.cat {u v : Value} {A B : Tr} (hu : NdV u A) (hv : NdV v B) : NdV (cV u v) (.cat A B) := ⟨SzV.cat hu.1 hv.1, OpsAs.cat hu.2 hv.2⟩
theorem NdV.alt {u v : Value} {A B : Tr} (hu : NdV u A) (hv : NdV v B) : NdV (aV u v) (.alt A B) := ⟨SzV.alt hu.1 hv.1, OpsAs.alt hu.2 hv.2⟩
theorem NdV.rep {u : Value} {A : Tr} {lo hi : Int} (hu : NdV u A) (h0 : 0 ≤ lo) (h1 : lo ≤ 250) (h2 : hi = -1 ∨ (lo ≤ hi ∧ hi ≤ 250)) : NdV (rV u lo hi) (.rep A lo hi) := ⟨SzV.rep hu.1 h0 h1 h2, OpsAs.rep hu.2 lo hi⟩
theorem Ev.step {α β : Type} {f : Nat → α} {g : Nat → β} {x : β} (h : Ev g x) (F : β → α) (e : ∀ n, f (n + 1) = F (g n)) : Ev f (F x) := by
  obtain ⟨N, h⟩ := h
  refine ⟨N + 1, fun n hn => ?_⟩
  obtain ⟨m, rfl⟩ : ∃ m, n = m + 1 := ⟨n - 1, by omega⟩
  rw [e, h m (by omega)]
theorem Ev.const {α : Type} {f : Nat → α} {x : α} (e : ∀ n, f (n + 1) = x) : Ev f x := by
  refine ⟨1, fun n hn => ?_⟩
  obtain ⟨m, rfl⟩ : ∃ m, n = m + 1 := ⟨n - 1, by omega⟩
  exact e m
theorem Ev.bind {α β : Type} {f : Nat → Option β} {g : Nat → Option α} {k : Nat → α → Option β} {x : α} {y : Option β} (h : Ev g (some x)) (h2 : Ev (fun n => k n x) y) (e : ∀ n, f (n + 1) = (g n).bind (k n)) : Ev f y := by
  obtain ⟨N, h⟩ := h
  obtain ⟨M, h2⟩ := h2
  refine ⟨max N M + 1, fun n hn => ?_⟩
  obtain ⟨m, rfl⟩ : ∃ m, n = m + 1 := ⟨n - 1, by omega⟩
  rw [e, h m (by omega), Option.bind_some]
  exact h2 m (by omega)
theorem Ev.bind0 {α β : Type} {f : Nat → Option β} {g : Nat → Option α} {k : Nat → α → Option β} (h : Ev g none) (e : ∀ n, f (n + 1) = (g n).bind (k n)) : Ev f none := by
  obtain ⟨N, h⟩ := h
  refine ⟨N + 1, fun n hn => ?_⟩
  obtain ⟨m, rfl⟩ : ∃ m, n = m + 1 := ⟨n - 1, by omega⟩
  rw [e, h m (by omega)]
  rfl
def rdGrp (n : Nat) (s : List Int) : Rd := (rdAlt n s).bind rdCl
def NdR (rd : Nat → List Int → Rd) (k : Nat) (e : Ending) (w w' : World) (N q : Nat) (tv : Value) (xs : List Int) (at' d : Nat) (ov : Bool) : Prop :=
  Gw q w w' ∧ ((Ev (fun n => rd n (xs.drop at')) none ∧ Flt e) ∨ ∃ (u : Value) (T : Tr) (ts : List Tk) (at2 : Nat), Ev (fun n => rd n (xs.drop at')) (some (T, ts, xs.drop at2)) ∧ at2 ≤ xs.length ∧ at' + k ≤ at2 ∧ wl 0 ts = some 0 ∧ e = .returned u ∧ (∃ Y x, u = .iface Y x) ∧
    Rdr w' N q tv xs at2 d (ov || ovr 100 250 d ts) ∧ ((ov || ovr 100 250 d ts) = false → NdV u T))
theorem ov_top {ov : Bool} {d : Nat} (hd : 100 < d → ov = true) : (ov || decide (100 < d)) = ov := by
  by_cases h : 100 < d
  · rw [hd h]; rfl
  · simp [h]
theorem ov_set {ov : Bool} {d : Nat} {cs : List Int} (hd : 100 < d → ov = true) : (ov || ovr 100 250 d [.inl cs]) = ov := by rw [ovr_set, ov_top hd]
theorem ov_nil {ov : Bool} {d : Nat} (hd : 100 < d → ov = true) : (ov || ovr 100 250 d []) = ov := by rw [ovr_nil, ov_top hd]
theorem ov_rep {ov : Bool} {d : Nat} {lo hi : Int} (hd : 100 < d → ov = true) : (ov || ovr 100 250 d [.inr (.inl (lo, hi))]) = (ov || (decide (250 < lo) || decide (250 < hi))) := by rw [ovr_rep, ← Bool.or_assoc, ov_top hd]
theorem ov_grp {ov : Bool} {d : Nat} {ts : List Tk} (h : wl 0 ts = some 0) : ((ov || decide (100 < d + 1)) || ovr 100 250 (d + 1) ts) = (ov || ovr 100 250 d (.inr (.inr (.inl true)) :: (ts ++ [.inr (.inr (.inl false))]))) := by
  rw [ovr_grp h, Bool.or_assoc]
  congr 1
  unfold ovr
  have := mxd_ge ts (d + 1)
  by_cases h1 : 100 < d + 1
  · have h2 : 100 < mxd (d + 1) ts := by omega
    simp [h1, h2]
  · simp [h1]
theorem wl_grp {ts : List Tk} (h : wl 0 ts = some 0) : wl 0 (.inr (.inr (.inl true)) :: (ts ++ [.inr (.inr (.inl false))])) = some 0 := by
  simp only [wl, wl_app]
  rw [wl_bal h]
  rfl
theorem wl_cat {us vs : List Tk} (h : wl 0 us = some 0) (k : wl 0 vs = some 0) : wl 0 (us ++ vs) = some 0 := by rw [wl_app, h]; exact k
theorem rdSet_some {s r : List Int} {cs : List Int} (h : lx s = some (.inl cs, r)) : rdSet s = some (.s cs, [.inl cs], r) := by unfold rdSet; rw [h]
theorem rdSet_none {s : List Int} (h : lx s = none) : rdSet s = none := by unfold rdSet; rw [h]
theorem lx_dot (r : List Int) : lx (46 :: r) = some (.inl [0, 9, 11, 255], r) := by
  rw [lx, if_neg (by decide), if_neg (by decide), if_neg (by decide), if_neg (by decide), if_neg (by decide), if_neg (by decide), if_neg (by decide), if_pos rfl]
theorem lx_cls (r : List Int) : lx (91 :: r) = (cls r).map fun x => (.inl x.1, x.2) := by
  rw [lx, if_neg (by decide), if_neg (by decide), if_neg (by decide), if_neg (by decide), if_neg (by decide), if_neg (by decide), if_neg (by decide), if_neg (by decide), if_pos rfl]
theorem lx_esc (r : List Int) : lx (92 :: r) = match sesc r with
      | some x => some (.inl x.1, x.2)
      | none => (besc r).map fun x => (.inl [x.1, x.1], x.2) := by
  rw [lx, if_neg (by decide), if_neg (by decide), if_neg (by decide), if_neg (by decide), if_neg (by decide), if_neg (by decide), if_neg (by decide), if_neg (by decide), if_neg (by decide), if_pos rfl]
  cases sesc r <;> rfl
theorem rdSet_spc {c : Int} {r : List Int} (h : c ∈ spcZ) (h1 : c ≠ 40) (h2 : c ≠ 46) (h3 : c ≠ 91) (h4 : c ≠ 92) : rdSet (c :: r) = none := by
  simp [spcZ] at h
  rcases h with rfl | rfl | rfl | rfl | rfl | rfl | rfl | rfl | rfl | rfl | rfl | rfl | rfl | rfl
  · exact absurd rfl h4
  · exact absurd rfl h2
  · exact absurd rfl h3
  · exact rdSet_none (by simp [lx, spcZ])
  · exact absurd rfl h1
  · unfold rdSet; rw [lx_cl]
  · unfold rdSet; rw [lx_bar]
  · unfold rdSet; rw [show lx (42 :: r) = some (.inr (.inl (0, -1)), r) by simp [lx]]
  · unfold rdSet; rw [show lx (43 :: r) = some (.inr (.inl (1, -1)), r) by simp [lx]]
  · unfold rdSet; rw [show lx (63 :: r) = some (.inr (.inl (0, 1)), r) by simp [lx]]
  · unfold rdSet
    rw [show lx (123 :: r) = (brc r).map fun x => (.inr (.inl (x.1.1, x.1.2)), x.2) by simp [lx]]
    cases brc r with
    | none => rfl
    | some x => rfl
  · exact rdSet_none (by simp [lx, spcZ])
  · exact rdSet_none (by simp [lx, spcZ])
  · exact rdSet_none (by simp [lx, spcZ])
theorem lx_chr {c : Int} {r : List Int} (h : c ∉ spcZ) : lx (c :: r) = some (.inl [c, c], r) := by
  have hh := h
  simp [spcZ] at hh
  rw [lx, if_neg (by omega), if_neg (by omega), if_neg (by omega), if_neg (by omega), if_neg (by omega), if_neg (by omega), if_neg (by omega), if_neg (by omega), if_neg (by omega), if_neg (by omega), if_neg h]
theorem canon_pair {x : Int} (h0 : 0 ≤ x) (h1 : x ≤ 255) : Canon [x, x] := by
  have h := canon_snoc (C := []) ⟨rfl, fun i hi => by simp at hi, fun m hm => by simp at hm⟩ (s := x) (e := x) h0 (by omega) h1 (by simp [lstD]; omega)
  simpa using h
theorem canon_nil : Canon [] := ⟨rfl, fun i hi => by simp at hi, fun m hm => by simp at hm⟩
theorem canon_d : Canon [48, 57] := by simpa using canon_snoc canon_nil (s := 48) (e := 57) (by omega) (by omega) (by omega) (by simp [lstD])
theorem canon_w : Canon [48, 57, 65, 90, 95, 95, 97, 122] := by
  have h1 := canon_snoc canon_d (s := 65) (e := 90) (by omega) (by omega) (by omega) (by simp [lstD])
  have h2 := canon_snoc h1 (s := 95) (e := 95) (by omega) (by omega) (by omega) (by simp [lstD])
  simpa using canon_snoc h2 (s := 97) (e := 122) (by omega) (by omega) (by omega) (by simp [lstD])
theorem canon_s : Canon [9, 10, 13, 13, 32, 32] := by
  have h1 := canon_snoc canon_nil (s := 9) (e := 10) (by omega) (by omega) (by omega) (by simp [lstD])
  have h2 := canon_snoc h1 (s := 13) (e := 13) (by omega) (by omega) (by omega) (by simp [lstD])
  simpa using canon_snoc h2 (s := 32) (e := 32) (by omega) (by omega) (by omega) (by simp [lstD])
theorem canon_sesc {s r cs : List Int} (h : sesc s = some (cs, r)) : Canon cs := by
  match s, h with
  | c :: t, h =>
    rw [sesc] at h
    by_cases h1 : c = 100
    · rw [if_pos h1] at h; cases h; exact canon_d
    rw [if_neg h1] at h
    by_cases h2 : c = 119
    · rw [if_pos h2] at h; cases h; exact canon_w
    rw [if_neg h2] at h
    by_cases h3 : c = 115
    · rw [if_pos h3] at h; cases h; exact canon_s
    rw [if_neg h3] at h
    cases h
theorem words_inR {cs : List Int} {g : Nat → Nat} (hc : Canon cs) (hf : Fit g) (h : ∀ b : Nat, Bt g b = inR cs b) : WordsOf cs g := ⟨hf, fun b => by rw [h b, inR_inP (cs.length / 2) cs b (by have := hc.1; omega)]⟩
def AltH (N q : Nat) (tv : Value) (xs : List Int) (m : Nat) : Prop := ∀ (w : World) (at' d : Nat) (ov : Bool), xs.length - at' < m → at' ≤ xs.length → d ≤ at' → (100 < d → ov = true) → Rdr w N q tv xs at' d ov →
  Calls Tryz.prog 51 #[.pointer (some ⟨q, 0, none⟩)] w fun e w' => NdR rdAlt 0 e w w' N q tv xs at' d ov
theorem Row4.p2 {w : World} {b : Nat} {t : TypeId} {c0 c1 c2 c3 u : Value} (h : Row4 w b t c0 c1 c2 c3) : Row4 (w.setCell ⟨b, 2, none⟩ u) b t c0 c1 u c3 := (World.rowIs.set h 2 u).congr (fun i hi => by
    match i, hi with
    | 0, _ => rfl
    | 1, _ => rfl
    | 2, _ => rfl
    | 3, _ => rfl
    | k + 4, h => exact absurd h (by omega))
theorem Rdr.deep {w : World} {N q : Nat} {tv : Value} {xs : List Int} {at' d : Nat} {ov : Bool} (h : Rdr w N q tv xs at' d ov) (d2 : Nat) : Rdr (w.setCell ⟨q, 2, none⟩ (.int .i64 (d2 : Nat))) N q tv xs at' d2 ov := by
  have hb : Below N w (w.setCell ⟨q, 2, none⟩ (.int .i64 (d2 : Nat))) := by
    have h9 := obk_put (w := w) (b := q) 2 (.int .i64 (d2 : Nat))
    exact ⟨h9.os, h9.tape, h9.output, by rw [h9.size]; exact Nat.le_refl _, fun k hk => h9.block k (by have := h.lt; omega)⟩
  exact ⟨Row4.p2 h.row, h.txt.undr hb (Nat.le_refl _), h.lt⟩
end Go.Proofs.YtcmofgehhdfifaaGreatDoor
