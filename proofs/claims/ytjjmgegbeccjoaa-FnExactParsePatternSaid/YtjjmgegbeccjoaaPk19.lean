import Derived.Test.YtjjmgegbeccjoaaPk18
import Derived.Test.YtjjmgegbeccjoaaPk9
import Derived.Test.YtjjmgegbeccjoaaPk3
import Derived.WalkLawsBesides
namespace Go.Proofs.Ytjjmgegbeccjoaa

/-! The limits of a text, by its tokens; what both readers answer. -/
/-- The greatest number of groups that are open. -/
def mxd : Nat → List Tk → Nat
  | d, [] => d
  | d, .inr (.inr (.inl true)) :: ts => max d (mxd (d + 1) ts)
  | d, .inr (.inr (.inl false)) :: ts => max d (mxd (d - 1) ts)
  | d, .inl _ :: ts => mxd d ts
  | d, .inr (.inr (.inr ())) :: ts => mxd d ts
  | d, .inr (.inl _) :: ts => mxd d ts
theorem mxd_ge : ∀ (ts : List Tk) (d : Nat), d ≤ mxd d ts
  | [], d => Nat.le_refl _
  | .inr (.inr (.inl true)) :: ts, d => by simp only [mxd]; omega
  | .inr (.inr (.inl false)) :: ts, d => by simp only [mxd]; omega
  | .inl _ :: ts, d => by simp only [mxd]; exact mxd_ge ts d
  | .inr (.inr (.inr ())) :: ts, d => by simp only [mxd]; exact mxd_ge ts d
  | .inr (.inl _) :: ts, d => by simp only [mxd]; exact mxd_ge ts d
theorem mxd_app : ∀ (us vs : List Tk) (d k : Nat), wl d us = some k → mxd d (us ++ vs) = max (mxd d us) (mxd k vs)
  | [], vs, d, k, h => by
    simp only [wl, Option.some.injEq] at h
    subst h
    simp only [List.nil_append, mxd]
    have := mxd_ge vs d
    omega
  | .inr (.inr (.inl true)) :: us, vs, d, k, h => by
    simp only [wl] at h
    simp only [List.cons_append, mxd, mxd_app us vs _ k h]
    omega
  | .inr (.inr (.inl false)) :: us, vs, 0, k, h => by simp [wl] at h
  | .inr (.inr (.inl false)) :: us, vs, d + 1, k, h => by
    simp only [wl] at h
    simp only [List.cons_append, mxd, Nat.add_sub_cancel, mxd_app us vs _ k h]
    omega
  | .inl _ :: us, vs, d, k, h => by simp only [wl] at h; simp only [List.cons_append, mxd]; exact mxd_app us vs d k h
  | .inr (.inr (.inr ())) :: us, vs, d, k, h => by simp only [wl] at h; simp only [List.cons_append, mxd]; exact mxd_app us vs d k h
  | .inr (.inl _) :: us, vs, d, k, h => by simp only [wl] at h; simp only [List.cons_append, mxd]; exact mxd_app us vs d k h
/-- A repetition's number is too great. -/
def bigR (M : Int) : Tk → Bool
  | .inr (.inl (lo, hi)) => decide (M < lo) || decide (M < hi)
  | _ => false
/-- A limit is broken: D groups, numbers to M. -/
def ovr (D : Nat) (M : Int) (d : Nat) (ts : List Tk) : Bool := decide (D < mxd d ts) || ts.any (bigR M)
theorem ovr_app {D : Nat} {M : Int} {d : Nat} {us vs : List Tk} (h : wl 0 us = some 0) : ovr D M d (us ++ vs) = (ovr D M d us || ovr D M d vs) := by
  unfold ovr
  rw [mxd_app us vs d d (wl_bal h d), List.any_append]
  have : decide (D < max (mxd d us) (mxd d vs)) = (decide (D < mxd d us) || decide (D < mxd d vs)) := by
    rw [Bool.eq_iff_iff]
    simp
    omega
  rw [this]
  cases decide (D < mxd d us) <;> cases decide (D < mxd d vs) <;> cases us.any (bigR M) <;> cases vs.any (bigR M) <;> rfl
theorem ovr_grp {D : Nat} {M : Int} {d : Nat} {mid : List Tk} (h : wl 0 mid = some 0) : ovr D M d (.inr (.inr (.inl true)) :: (mid ++ [.inr (.inr (.inl false))])) = ovr D M (d + 1) mid := by
  unfold ovr
  have h1 : mxd d (.inr (.inr (.inl true)) :: (mid ++ [.inr (.inr (.inl false))])) = mxd (d + 1) mid := by
    simp only [mxd]
    rw [mxd_app mid [.inr (.inr (.inl false))] (d + 1) (d + 1) (wl_bal h _)]
    simp only [mxd, Nat.add_sub_cancel]
    have := mxd_ge mid (d + 1)
    omega
  rw [h1]
  simp [bigR]
theorem ovr_bar {D : Nat} {M : Int} {d : Nat} {ts : List Tk} : ovr D M d (.inr (.inr (.inr ())) :: ts) = ovr D M d ts := by
  unfold ovr
  rw [show mxd d ((.inr (.inr (.inr ())) : Tk) :: ts) = mxd d ts from rfl]
  simp [bigR]
theorem ovr_set {D : Nat} {M : Int} {d : Nat} {cs : List Int} : ovr D M d [.inl cs] = decide (D < d) := by
  unfold ovr
  rw [show mxd d [(.inl cs : Tk)] = d from rfl]
  simp [bigR]
theorem ovr_rep {D : Nat} {M : Int} {d : Nat} {lo hi : Int} : ovr D M d [.inr (.inl (lo, hi))] = (decide (D < d) || (decide (M < lo) || decide (M < hi))) := by
  unfold ovr
  rw [show mxd d [(.inr (.inl (lo, hi)) : Tk)] = d from rfl]
  simp [bigR]
theorem ovr_nil {D : Nat} {M : Int} {d : Nat} : ovr D M d [] = decide (D < d) := by
  unfold ovr
  rw [show mxd d [] = d from rfl]
  simp
/-- From some fuel on the answer is x. -/
def Ev {α : Type} (f : Nat → α) (x : α) : Prop := ∃ N, ∀ n, N ≤ n → f n = x
theorem Ev.one {α : Type} {f : Nat → α} {x y : α} (h : Ev f x) (k : Ev f y) : x = y := by
  obtain ⟨N, h⟩ := h
  obtain ⟨M, k⟩ := k
  rw [← h (max N M) (by omega), ← k (max N M) (by omega)]
/-- What a text without its caret is read as: the tree, the tokens, whether a dollar stands at its end. -/
def Prs (s : List Int) (T : Tr) (ts : List Tk) (b : Bool) : Prop := Gr 3 ts T ∧ ((b = false ∧ Lxs s ts []) ∨ (b = true ∧ ∃ s', s = s' ++ [36] ∧ Lxs s' ts []))
/-- The reader from left to right. -/
theorem prs_of_rd {s : List Int} {T : Tr} {ts : List Tk} {r : List Int} {n : Nat} (h : rdAlt n s = some (T, ts, r)) : (r = [] → Prs s T ts false) ∧ (r = [36] → Prs s T ts true) := by
  obtain ⟨h1, h2, -⟩ := (rd_sound n).1 _ _ _ _ h
  refine ⟨fun e => ?_, fun e => ?_⟩
  · subst e; exact ⟨h2, .inl ⟨rfl, h1⟩⟩
  · subst e
    obtain ⟨p, e, -⟩ := h1.part
    subst e
    exact ⟨h2, .inr ⟨rfl, p, rfl, Lxs.dollar.1 h1⟩⟩
theorem rd_of_prs {s : List Int} {T : Tr} {ts : List Tk} {b : Bool} (h : Prs s T ts b) : Ev (fun n => rdAlt n s) (some (T, ts, if b then [36] else [])) := by
  rcases h with ⟨h1, ⟨rfl, h2⟩ | ⟨rfl, s', rfl, h2⟩⟩
  · exact rd_all h2 h1 rfl
  · exact rd_all (Lxs.dollar.2 h2) h1 rfl
theorem Prs.one {s : List Int} {T T' : Tr} {ts ts' : List Tk} {b b' : Bool} (h : Prs s T ts b) (k : Prs s T' ts' b') : T = T' ∧ ts = ts' ∧ b = b' := by
  have := (rd_of_prs h).one (rd_of_prs k)
  simp only [Option.some.injEq, Prod.mk.injEq] at this
  refine ⟨this.1, this.2.1, ?_⟩
  have h3 := this.2.2
  cases b <;> cases b' <;> simp_all
/-- The reader by tokens: a text that is tokens to its end, else one with a dollar at its end. -/
theorem prs_lex {s : List Int} {ts : List Tk} (hl : Lxs s ts []) {T : Tr} {us : List Tk} {b : Bool} : Prs s T us b ↔ b = false ∧ us = ts ∧ Gr 3 ts T := by
  constructor
  · rintro ⟨h1, ⟨rfl, h2⟩ | ⟨rfl, s', rfl, h2⟩⟩
    · obtain ⟨rfl, -⟩ := Lxs.one h2 hl rfl rfl
      exact ⟨rfl, rfl, h1⟩
    · have := (Lxs.one (Lxs.dollar.2 h2) hl (lx_dollar []) rfl).2
      cases this
  · rintro ⟨rfl, rfl, h⟩
    exact ⟨h, .inl ⟨rfl, hl⟩⟩
theorem prs_dollar {s : List Int} {ts : List Tk} (hl : Lxs s ts []) {T : Tr} {us : List Tk} {b : Bool} : Prs (s ++ [36]) T us b ↔ b = true ∧ us = ts ∧ Gr 3 ts T := by
  constructor
  · rintro ⟨h1, ⟨rfl, h2⟩ | ⟨rfl, s', e, h2⟩⟩
    · have := (Lxs.one (Lxs.dollar.2 hl) h2 (lx_dollar []) rfl).2
      cases this
    · have := (List.append_inj' e rfl).1
      subst this
      obtain ⟨rfl, -⟩ := Lxs.one h2 hl rfl rfl
      exact ⟨rfl, rfl, h1⟩
  · rintro ⟨rfl, rfl, h⟩
    exact ⟨h, .inr ⟨rfl, s, rfl, hl⟩⟩

open Go.RowKit

/-- The reader's box, and the text that it reads. -/
structure Rdr (w : World) (N q : Nat) (tv : Value) (xs : List Int) (at' d : Nat) (ov : Bool) : Prop where
  row : Row4 w q 46 tv (.int .i64 (at' : Nat)) (.int .i64 (d : Nat)) (.bool ov)
  txt : SlAt mB 0 0 N w tv xs
  lt : N ≤ q
theorem SlAt.undr {α : Type} {mk : α → Value} {d : α} {lo n m : Nat} {w w' : World} {v : Value} {xs : List α} (h : SlAt mk d lo n w v xs) (hb : Below m w w') (hm : n ≤ m) : SlAt mk d lo n w' v xs := by
  obtain ⟨a, c, rfl, hl, hc⟩ := h
  refine ⟨a, c, rfl, hl, fun h0 => ?_⟩
  obtain ⟨b, off, rfl, h1, h2, h3⟩ := hc h0
  exact ⟨b, off, rfl, h1, h2, fun i hi => by rw [hb.cell (p := ⟨b, off + i, none⟩) (Nat.lt_of_lt_of_le h2 hm)]; exact h3 i hi⟩
theorem Rdr.drewN {w : World} {N q : Nat} {tv : Value} {xs : List Int} {at' d : Nat} {ov : Bool} (h : Rdr w N q tv xs at' d ov) (n : Nat) : Rdr (w.drewN n) N q tv xs at' d ov := ⟨h.row, h.txt, h.lt⟩
theorem obk_drewN (q : Nat) (w : World) (n : Nat) : Obk q w (w.drewN n) := ⟨rfl, rfl, rfl, rfl, fun _ _ => rfl⟩
/-- One byte further. -/
theorem Rdr.step {w : World} {N q : Nat} {tv : Value} {xs : List Int} {at' d : Nat} {ov : Bool} (h : Rdr w N q tv xs at' d ov) : Rdr (w.setCell ⟨q, 1, none⟩ (.int .i64 ((at' : Int) + 1))) N q tv xs (at' + 1) d ov := by
  have e : (.int .i64 ((at' : Int) + 1) : Value) = .int .i64 ((at' + 1 : Nat) : Int) := by rw [Int.natCast_add]; rfl
  rw [e]
  have hb : Below N w (w.setCell ⟨q, 1, none⟩ (.int .i64 ((at' + 1 : Nat) : Int))) := by
    have h9 := obk_put (w := w) (b := q) 1 (.int .i64 ((at' + 1 : Nat) : Int))
    exact ⟨h9.os, h9.tape, h9.output, by rw [h9.size]; exact Nat.le_refl _, fun k hk => h9.block k (by have := h.lt; omega)⟩
  exact ⟨Row4.put1 h.row, h.txt.undr hb (Nat.le_refl _), h.lt⟩
/-- A fault. -/
def fltV (at' : Nat) : Value := .iface 73 (.agg #[.int .i64 (at' : Nat)])

set_option maxHeartbeats 1000000 in
theorem fail_any (w : World) (N q : Nat) (tv : Value) (xs : List Int) (at' d : Nat) (ov : Bool) (h : Rdr w N q tv xs at' d ov) :
    Calls Try.prog 38 #[.pointer (some ⟨q, 0, none⟩)] w fun e w' => e = .panicked [{ v := fltV at', recovered := false }] ∧ w' = w := by
  obtain ⟨k0, k1, k2, k3, -⟩ := h.row.facts
  go_enter Try.func38, Try.ntmps38
  go_wp2
  exact ⟨rfl, rfl, rfl⟩
/-- The byte that comes next, or -1. -/
def pkB (xs : List Int) (at' : Nat) : Int := xs[at']?.getD (-1)

set_option maxHeartbeats 2000000 in
theorem peek_any (w : World) (N q : Nat) (tv : Value) (xs : List Int) (at' d : Nat) (ov : Bool) (h : Rdr w N q tv xs at' d ov) (hb : ∀ x ∈ xs, 0 ≤ x ∧ x ≤ 255) (ha : at' ≤ xs.length) (hl : xs.length ≤ 100000) :
    Calls Try.prog 37 #[.pointer (some ⟨q, 0, none⟩)] w fun e w' => e = .returned (.int .i64 (pkB xs at')) ∧ ∃ n, w' = w.drewN n := by
  obtain ⟨k0, k1, k2, k3, -⟩ := h.row.facts
  obtain ⟨a, c, rfl, -, hc⟩ := id h.txt
  by_cases e : at' = xs.length
  · have e' : (at' : Int) = (xs.length : Int) := by omega
    have hp : pkB xs at' = -1 := by unfold pkB; rw [List.getElem?_eq_none (by omega)]; rfl
    have HP := hide hp
    clear h hc hp hb
    go_enter Try.func37, Try.ntmps37
    go_wp2_with fail
    go_quiet (fail)
    go_wp2
    go_ret
    rw [unhide HP]
    exact ⟨rfl, _, rfl⟩
  · have e' : ¬ (at' : Int) = (xs.length : Int) := by omega
    have hlt : at' < xs.length := by omega
    have hlt' : (at' : Int) < (xs.length : Int) := by omega
    obtain ⟨b, off, rfl, -, -, hcell⟩ := hc (by omega)
    have c0 := hcell at' hlt
    have hp : pkB xs at' = xs[at']?.getD 0 := by unfold pkB; rw [List.getElem?_eq_getElem hlt]; rfl
    have hx := hb (xs[at']?.getD 0) (by rw [List.getElem?_eq_getElem hlt]; exact List.getElem_mem hlt)
    obtain ⟨x, hxe⟩ : ∃ x, x = xs[at']?.getD 0 := ⟨_, rfl⟩
    rw [← hxe] at c0 hx hp
    unfold mB at c0
    have HP := hide hp
    obtain ⟨hx0, hx1⟩ := hx
    clear h hc hp hb hcell hxe
    go_enter Try.func37, Try.ntmps37
    go_wp2_with fail
    go_quiet (fail)
    go_wp2_with fail
    go_quiet (fail)
    go_wp2
    go_ret
    rw [unhide HP]
    exact ⟨rfl, _, drew2 _ _ _⟩

set_option maxHeartbeats 2000000 in
theorem next_any (w : World) (N q : Nat) (tv : Value) (xs : List Int) (at' d : Nat) (ov : Bool) (h : Rdr w N q tv xs at' d ov) (hb : ∀ x ∈ xs, 0 ≤ x ∧ x ≤ 255) (ha : at' ≤ xs.length) (hl : xs.length ≤ 100000) :
    Calls Try.prog 56 #[.pointer (some ⟨q, 0, none⟩)] w fun e w' => (at' = xs.length ∧ e = .panicked [{ v := fltV at', recovered := false }] ∧ ∃ n, w' = w.drewN n) ∨ (at' < xs.length ∧ e = .returned (.int .i64 (xs[at']?.getD 0)) ∧ Rdr w' N q tv xs (at' + 1) d ov ∧ Obk q w w') := by
  have HP := hide (peek_any w N q tv xs at' d ov h hb ha hl)
  have H := hide h
  clear h
  go_enter Try.func56, Try.ntmps56
  go_wp2_with fail
  refine (unhide HP).mono ?_
  rintro e w1 ⟨rfl, n1, rfl⟩
  by_cases e : at' = xs.length
  · have hp : pkB xs at' = -1 := by unfold pkB; rw [List.getElem?_eq_none (by omega)]; rfl
    have h1 : Rdr (w.drewN n1) N q tv xs at' d ov := ⟨(unhide H).row, (unhide H).txt, (unhide H).lt⟩
    have HF := hide (fail_any _ N q tv xs at' d ov h1)
    rw [hp]
    clear hp h1
    go_wp2_with fail
    refine (unhide HF).mono ?_
    rintro e w2 ⟨rfl, rfl⟩
    go_wp2
    exact ⟨rfl, .inl ⟨e, by rw [e], _, rfl⟩⟩
  · have hlt : at' < xs.length := by omega
    have hp : pkB xs at' = xs[at']?.getD 0 := by unfold pkB; rw [List.getElem?_eq_getElem hlt]; rfl
    have hx := hb (xs[at']?.getD 0) (by rw [List.getElem?_eq_getElem hlt]; exact List.getElem_mem hlt)
    obtain ⟨x, hxe⟩ : ∃ x, x = xs[at']?.getD 0 := ⟨_, rfl⟩
    rw [← hxe] at hx hp
    have hx1 : ¬ x = -1 := by omega
    have h1 : Rdr (w.drewN n1) N q tv xs at' d ov := ⟨(unhide H).row, (unhide H).txt, (unhide H).lt⟩
    obtain ⟨k0, k1, k2, k3, fz⟩ := h1.row.facts
    have H1 := hide h1
    have hfz := World.rowIs.frozen (unhide H1).row 1
    have HX := hide hxe
    rw [hp]
    clear hp h1 hb hxe
    go_wp2
    go_ret
    rw [← unhide HX]
    exact .inr ⟨hlt, rfl, (unhide H1).step, (obk_drewN q w n1).trans (obk_put 1 _)⟩

set_option maxHeartbeats 2000000 in
theorem take_any (w : World) (N q : Nat) (tv : Value) (xs : List Int) (at' d : Nat) (ov : Bool) (b : Int) (h : Rdr w N q tv xs at' d ov) (hb : ∀ x ∈ xs, 0 ≤ x ∧ x ≤ 255) (ha : at' ≤ xs.length) (hl : xs.length ≤ 100000) :
    Calls Try.prog 35 #[.pointer (some ⟨q, 0, none⟩), .int .i64 b] w fun e w' => (pkB xs at' ≠ b ∧ e = .returned (.bool false) ∧ ∃ n, w' = w.drewN n) ∨ (pkB xs at' = b ∧ e = .returned (.bool true) ∧ Rdr w' N q tv xs (at' + 1) d ov ∧ Obk q w w') := by
  have HP := hide (peek_any w N q tv xs at' d ov h hb ha hl)
  have H := hide h
  clear h hb
  obtain ⟨y, hy⟩ : ∃ y, y = pkB xs at' := ⟨_, rfl⟩
  rw [← hy] at HP ⊢
  clear hy
  go_enter Try.func35, Try.ntmps35
  go_wp2_with fail
  refine (unhide HP).mono ?_
  rintro e w1 ⟨rfl, n1, rfl⟩
  have H1 := hide ((unhide H).drewN n1)
  obtain ⟨k0, k1, k2, k3, -⟩ := (unhide H1).row.facts
  have hfz := World.rowIs.frozen (unhide H1).row 1
  by_cases e : y = b
  · subst e
    go_wp2
    go_ret
    exact ⟨rfl, (unhide H1).step, (obk_drewN q w n1).trans (obk_put 1 _)⟩
  · go_wp2
    go_ret
    exact .inl ⟨e, rfl, _, rfl⟩

set_option maxHeartbeats 2000000 in
theorem expect_any (w : World) (N q : Nat) (tv : Value) (xs : List Int) (at' d : Nat) (ov : Bool) (b : Int) (h : Rdr w N q tv xs at' d ov) (hb : ∀ x ∈ xs, 0 ≤ x ∧ x ≤ 255) (ha : at' ≤ xs.length) (hl : xs.length ≤ 100000) :
    Calls Try.prog 64 #[.pointer (some ⟨q, 0, none⟩), .int .i64 b] w fun e w' => (pkB xs at' ≠ b ∧ e = .panicked [{ v := fltV at', recovered := false }] ∧ ∃ n, w' = w.drewN n) ∨ (pkB xs at' = b ∧ e = .returned (.tuple #[]) ∧ Rdr w' N q tv xs (at' + 1) d ov ∧ Obk q w w') := by
  have HP := hide (take_any w N q tv xs at' d ov b h hb ha hl)
  have H := hide h
  clear h hb
  go_enter Try.func64, Try.ntmps64
  go_wp2_with fail
  refine (unhide HP).mono ?_
  rintro e w1 (⟨hne, rfl, n1, rfl⟩ | ⟨heq, rfl, h1, h2⟩)
  · have HF := hide (fail_any _ N q tv xs at' d ov ((unhide H).drewN n1))
    go_wp2_with fail
    refine (unhide HF).mono ?_
    rintro e w2 ⟨rfl, rfl⟩
    go_wp2
    exact ⟨rfl, .inl ⟨hne, rfl, _, rfl⟩⟩
  · go_wp2
    first | (refine bodyPost_ret (results_none rfl _ _ _) rfl ?_) | (refine bodyPost_end (results_none rfl _ _ _) rfl ?_)
    exact .inr ⟨heq, rfl, h1, h2⟩

end Go.Proofs.Ytjjmgegbeccjoaa
