import Derived.Test.YtcmofgehhdfifaaGreatDoorPs7
import Derived.Test.YtcmofgehhdfifaaGreatDoorPk8
import Derived.Test.YtcmofgehhdfifaaGreatDoorC5
namespace Go.Proofs.YtcmofgehhdfifaaGreatDoor
open Go.RowKit
theorem tkE_op {t : Tk} : (tkE t).kind = 2 ↔ t = .inr (.inr (.inl true)) := by
  rcases t with cs | ⟨lo, hi⟩ | (_ | _) | _ <;> simp [tkE]
theorem tkE_cl {t : Tk} : (tkE t).kind = 3 ↔ t = .inr (.inr (.inl false)) := by
  rcases t with cs | ⟨lo, hi⟩ | (_ | _) | _ <;> simp [tkE]
theorem tkE_bar {t : Tk} : (tkE t).kind = 4 ↔ t = .inr (.inr (.inr ())) := by
  rcases t with cs | ⟨lo, hi⟩ | (_ | _) | _ <;> simp [tkE]
theorem wl_snoc {ts : List Tk} {t : Tk} {d k : Nat} (h : wl d ts = some k) : wl d (ts ++ [t]) = wl k [t] := by rw [wl_app, h]; rfl
theorem wl_pre {us vs : List Tk} {d : Nat} (h : wl d us = none) : wl d (us ++ vs) = none := by rw [wl_app, h]; rfl
theorem take_snoc {ts : List Tk} {i : Nat} {t : Tk} (h : ts[i]? = some t) : ts.take (i + 1) = ts.take i ++ [t] := by rw [List.take_add_one, h]; rfl
theorem mxd_snoc {ts : List Tk} {t : Tk} {k : Nat} (h : wl 0 ts = some k) : mxd 0 (ts ++ [t]) = max (mxd 0 ts) (mxd k [t]) := mxd_app ts [t] 0 k h
set_option maxHeartbeats 4000000 in
set_option maxRecDepth 100000 in
theorem l1deep_any (v : Value) (ts : List Tk) (w : World) (hv : ElsAt 0 w.heap.size w v (ts.map tkE)) (hl : ts.length ≤ 100000) :
    Calls Tryz.prog 21 #[v] w fun e w' => (∃ D : Int, e = .returned (.int .i64 D) ∧ ((wl 0 ts = some 0 ∧ D = (mxd 0 ts : Nat)) ∨ (wl 0 ts ≠ some 0 ∧ D = -1))) ∧ w' = w := by
  obtain ⟨a, cp, rfl, -, hc⟩ := hv
  rw [List.length_map] at hc ⊢
  have HC := hide hc
  clear hc
  go_enter Tryz.func21, Tryz.ntmps21
  go_wp2_with fail
  go_loop [3, 4, 5] (fun dv tv iv => ∃ (i k m : Nat), i ≤ ts.length ∧ iv = .int .i64 (i : Nat) ∧ dv = .int .i64 (k : Nat) ∧ tv = .int .i64 (m : Nat) ∧ wl 0 (ts.take i) = some k ∧ m = mxd 0 (ts.take i) ∧ k ≤ i ∧ m ≤ i) (fun _ _ iv => ts.length - (intOf iv).toNat)
  case atStart => exact ⟨0, 0, 0, Nat.zero_le _, rfl, rfl, rfl, rfl, rfl, Nat.le_refl _, Nat.le_refl _⟩
  case round =>
    obtain ⟨i, k, m, hi, rfl, rfl, rfl, hw, hm, hk, hmi⟩ := hrel
    have HW := hide hw
    have HM := hide hm
    clear hw hm
    by_cases hlt : i < ts.length
    · have hlt' : (i : Int) < (ts.length : Int) := by omega
      obtain ⟨b, off, rfl, -, -, hel⟩ := unhide HC (by omega)
      obtain ⟨t, ht⟩ : ∃ t, ts[i]? = some t := ⟨ts[i], List.getElem?_eq_getElem hlt⟩
      have he := (hel i hlt)
      rw [List.getElem?_map, ht] at he
      obtain ⟨-, -, -, sv, c0, -⟩ := he
      rw [Option.map_some, Option.getD_some] at c0
      have HT := hide (take_snoc ht)
      have HW2 : Hid (wl 0 (ts.take (i + 1)) = wl k [t]) := by show _ = _; rw [unhide HT, wl_snoc (unhide HW)]
      have HM2 : Hid (mxd 0 (ts.take (i + 1)) = max m (mxd k [t])) := by show _ = _; rw [unhide HT, mxd_snoc (unhide HW), ← unhide HM]
      have HTS : Hid (∀ d, wl 0 (ts.take (i + 1)) = none → wl 0 ts ≠ some 0 ∨ d) := fun d h => .inl (by
        have e : ts = ts.take (i + 1) ++ ts.drop (i + 1) := (List.take_append_drop _ _).symm
        rw [e, wl_pre h]
        simp)
      clear hel ht
      by_cases e2 : (tkE t).kind = 2
      · have et := tkE_op.1 e2
        rw [e2] at c0
        subst et
        have hmax : Hid (max m (mxd k [.inr (.inr (.inl true))]) = if m < k + 1 then k + 1 else m) := by
          show _ = _
          simp only [mxd]
          have := unhide HM
          by_cases h : m < k + 1
          · rw [if_pos h]; omega
          · rw [if_neg h]; omega
        clear e2
        by_cases hmk : m < k + 1
        · have hmk' : (m : Int) < (k : Int) + 1 := by omega
          go_wp2
          go_round
          case rel => exact ⟨i + 1, k + 1, k + 1, by omega, by go_num, by go_num, by go_num, by rw [unhide HW2]; rfl, by rw [unhide HM2, unhide hmax, if_pos hmk], by omega, by omega⟩
          case measure => simp [intOf]; omega
        · have hmk' : ¬ (m : Int) < (k : Int) + 1 := by omega
          go_wp2
          go_round
          case rel => exact ⟨i + 1, k + 1, m, by omega, by go_num, by go_num, rfl, by rw [unhide HW2]; rfl, by rw [unhide HM2, unhide hmax, if_neg hmk], by omega, by omega⟩
          case measure => simp [intOf]; omega
      by_cases e3 : (tkE t).kind = 3
      · have et := tkE_cl.1 e3
        rw [e3] at c0
        subst et
        clear e2 e3
        cases k with
        | zero =>
          have HX : Hid (wl 0 ts ≠ some 0) := by
            have h9 := unhide HTS False (by rw [unhide HW2]; rfl)
            exact h9.resolve_right (fun h => h)
          go_wp2
          go_ret
          exact ⟨⟨-1, rfl, .inr ⟨unhide HX, rfl⟩⟩, rfl⟩
        | succ k =>
          have hkk : ¬ ((k + 1 : Nat) : Int) - 1 < 0 := by omega
          have hmax : Hid (max m (mxd (k + 1) [.inr (.inr (.inl false))]) = m) := by
            show _ = _
            have h1 := mxd_ge (ts.take i) 0
            have h2 : k + 1 ≤ m := by
              rw [unhide HM]
              have h3 := mxd_app (ts.take i) [] 0 (k + 1) (unhide HW)
              rw [List.append_nil] at h3
              have h4 : mxd (k + 1) [] = k + 1 := rfl
              omega
            simp only [mxd]
            omega
          go_wp2
          go_round
          case rel => exact ⟨i + 1, k, m, by omega, by go_num, by go_num, rfl, by rw [unhide HW2]; rfl, by rw [unhide HM2, unhide hmax], by omega, by omega⟩
          case measure => simp [intOf]; omega
      · have hoth : Hid (wl k [t] = some k ∧ mxd k [t] = k) := by
          rcases t with cs | ⟨lo, hi⟩ | (_ | _) | _
          · exact ⟨rfl, rfl⟩
          · exact ⟨rfl, rfl⟩
          · exact absurd rfl e3
          · exact absurd rfl e2
          · exact ⟨rfl, rfl⟩
        have hmax : Hid (max m (mxd k [t]) = m) := by
          show _ = _
          have h2 : k ≤ m := by
            rw [unhide HM]
            have h3 := mxd_app (ts.take i) [] 0 k (unhide HW)
            rw [List.append_nil] at h3
            have h4 : mxd k [] = k := rfl
            omega
          rw [(unhide hoth).2]
          omega
        obtain ⟨kd, hkd⟩ : ∃ kd, kd = (tkE t).kind := ⟨_, rfl⟩
        rw [← hkd] at e2 e3 c0
        clear hkd
        go_wp2
        go_round
        case rel => exact ⟨i + 1, k, m, by omega, by go_num, rfl, rfl, by rw [unhide HW2]; exact (unhide hoth).1, by rw [unhide HM2, unhide hmax], by omega, by omega⟩
        case measure => simp [intOf]; omega
    · obtain rfl : i = ts.length := by omega
      have hw := unhide HW
      have hm := unhide HM
      rw [List.take_length] at hw hm
      have HW9 := hide hw
      have HM9 := hide hm
      clear hw hm
      by_cases k0 : k = 0
      · subst k0
        go_wp2
        go_ret
        exact ⟨⟨_, rfl, .inl ⟨unhide HW9, by rw [← unhide HM9]⟩⟩, rfl⟩
      · have k1 : (((k : Int) != 0)) = true := by simp; omega
        go_wp2
        go_ret
        exact ⟨⟨-1, rfl, .inr ⟨by rw [unhide HW9]; simp; omega, rfl⟩⟩, rfl⟩
def BarI (ts : List Tk) (i : Nat) (B : Int) (k : Nat) : Prop := wl 0 (ts.take i) = some k ∧
  ((B = -1 ∧ ∀ b, b < i → ts[b]? = some (.inr (.inr (.inr ()))) → wl 0 (ts.take b) ≠ some 0) ∨
   ∃ b : Nat, b < i ∧ B = (b : Int) ∧ ts[b]? = some (.inr (.inr (.inr ()))) ∧ wl 0 (ts.take b) = some 0 ∧ ∀ b', b < b' → b' < i → ts[b']? = some (.inr (.inr (.inr ()))) → wl 0 (ts.take b') ≠ some 0)
theorem BarI.start (ts : List Tk) : BarI ts 0 (-1) 0 := ⟨rfl, .inl ⟨rfl, fun _ h => absurd h (Nat.not_lt_zero _)⟩⟩
theorem BarI.go {ts : List Tk} {i : Nat} {B : Int} {k k' : Nat} {t : Tk} (h : BarI ts i B k) (ht : ts[i]? = some t) (hw : wl k [t] = some k') (hb : t = .inr (.inr (.inr ())) → k ≠ 0) : BarI ts (i + 1) B k' := by
  obtain ⟨h1, h2⟩ := h
  have hn : ts[i]? = some (.inr (.inr (.inr ()))) → wl 0 (ts.take i) ≠ some 0 := fun e e2 => by
    rw [ht] at e
    rw [h1] at e2
    exact hb (Option.some.inj e) (Option.some.inj e2)
  refine ⟨by rw [take_snoc ht, wl_snoc h1]; exact hw, ?_⟩
  rcases h2 with ⟨e, h2⟩ | ⟨b, b1, b2, b3, b4, b5⟩
  · exact .inl ⟨e, fun b hbi => by
      by_cases e9 : b = i
      · subst e9; exact hn
      · exact h2 b (by omega)⟩
  · exact .inr ⟨b, by omega, b2, b3, b4, fun b' h1' h2' => by
      by_cases e9 : b' = i
      · subst e9; exact hn
      · exact b5 b' h1' (by omega)⟩
theorem BarI.bar {ts : List Tk} {i : Nat} {B : Int} (h : BarI ts i B 0) (ht : ts[i]? = some (.inr (.inr (.inr ())))) : BarI ts (i + 1) (i : Nat) 0 :=
  ⟨by rw [take_snoc ht, wl_snoc h.1]; rfl, .inr ⟨i, by omega, rfl, ht, h.1, fun b' h1 h2 => by omega⟩⟩
theorem get_split {ts : List Tk} {i : Nat} {t : Tk} (h : ts[i]? = some t) : ts = ts.take i ++ t :: ts.drop (i + 1) := by
  have hi : i < ts.length := by
    rcases Nat.lt_or_ge i ts.length with h1 | h1
    · exact h1
    · rw [List.getElem?_eq_none h1] at h; cases h
  rw [List.getElem?_eq_getElem hi] at h
  rw [← Option.some.inj h, ← List.drop_eq_getElem_cons hi, List.take_append_drop]
theorem BarI.no {ts : List Tk} {B : Int} {k : Nat} (h : BarI ts ts.length B k) (hn : NoBar ts) : B = -1 := by
  rcases h.2 with ⟨e, -⟩ | ⟨b, -, -, h3, h4, -⟩
  · exact e
  · exact absurd h4 (hn _ _ (get_split h3))
theorem BarI.yes {us vs : List Tk} {B : Int} {k : Nat} (h : BarI (us ++ .inr (.inr (.inr ())) :: vs) (us ++ .inr (.inr (.inr ())) :: vs).length B k) (hu : wl 0 us = some 0) (hv : NoBar vs) : B = (us.length : Int) := by
  obtain ⟨-, h⟩ := h
  have hg : (us ++ (.inr (.inr (.inr ())) : Tk) :: vs)[us.length]? = some (.inr (.inr (.inr ()))) := by rw [List.getElem?_append_right (Nat.le_refl _)]; simp
  have ht : (us ++ (.inr (.inr (.inr ())) : Tk) :: vs).take us.length = us := by simp
  rcases h with ⟨-, h⟩ | ⟨b, h1, rfl, h3, h4, h5⟩
  · exact absurd (by rw [ht]; exact hu) (h us.length (by simp) hg)
  · rcases Nat.lt_trichotomy b us.length with hb | hb | hb
    · exact absurd (by rw [ht]; exact hu) (h5 us.length hb (by simp) hg)
    · rw [hb]
    · exfalso
      have e1 : (us ++ (.inr (.inr (.inr ())) : Tk) :: vs).take b = us ++ .inr (.inr (.inr ())) :: vs.take (b - us.length - 1) := by
        rw [List.take_append, List.take_of_length_le (by omega), show b - us.length = (b - us.length - 1) + 1 by omega, List.take_succ_cons]
        simp
      have e2 : vs[b - us.length - 1]? = some (.inr (.inr (.inr ()))) := by
        rw [List.getElem?_append_right (by omega), show b - us.length = (b - us.length - 1) + 1 by omega, List.getElem?_cons_succ] at h3
        exact h3
      rw [e1, wl_app, hu] at h4
      exact hv _ _ (get_split e2) (by simpa [wl] using h4)
theorem bar_or {ts : List Tk} {B : Int} {k : Nat} (h : BarI ts ts.length B k) : NoBar ts ∨ ∃ us vs, ts = us ++ .inr (.inr (.inr ())) :: vs ∧ wl 0 us = some 0 ∧ NoBar vs := by
  obtain ⟨hw, h⟩ := h
  rcases h with ⟨-, h⟩ | ⟨b, h1, -, h3, h4, h5⟩
  · left
    intro us vs e hu
    refine h us.length (by rw [e]; simp) (by rw [e, List.getElem?_append_right (Nat.le_refl _)]; simp) ?_
    rw [e]
    simpa using hu
  · right
    refine ⟨ts.take b, ts.drop (b + 1), get_split h3, h4, fun us vs e hu => ?_⟩
    have es := get_split h3
    have hb2 : b + 1 + us.length < ts.length := by
      have := congrArg List.length e
      rw [List.length_drop] at this
      simp at this
      omega
    have hlb : (ts.take b).length = b := by rw [List.length_take]; omega
    obtain ⟨P, hP⟩ : ∃ P, P = ts.take b := ⟨_, rfl⟩
    rw [← hP] at es hlb h4
    have e3 : ts = (P ++ .inr (.inr (.inr ())) :: us) ++ .inr (.inr (.inr ())) :: vs := by
      rw [e] at es
      rw [List.append_assoc]
      exact es
    have hL : (P ++ (.inr (.inr (.inr ())) : Tk) :: us).length = b + 1 + us.length := by simp [hlb]; omega
    refine h5 (b + 1 + us.length) (by omega) hb2 ?_ ?_
    · have h9 := congrArg (fun l => l[b + 1 + us.length]?) e3
      rw [h9, List.getElem?_append_right (by rw [hL]; exact Nat.le_refl _), hL]
      simp
    · have h9 := congrArg (List.take (b + 1 + us.length)) e3
      rw [← hL, List.take_left' rfl, hL] at h9
      rw [h9, wl_app, h4]
      simpa [wl] using hu
theorem barI_ex {ts : List Tk} (h : wl 0 ts = some 0) : ∀ i, i ≤ ts.length → ∃ B k, BarI ts i B k
  | 0, _ => ⟨-1, 0, BarI.start ts⟩
  | i + 1, hi => by
    obtain ⟨B, k, hB⟩ := barI_ex h i (by omega)
    obtain ⟨t, ht⟩ : ∃ t, ts[i]? = some t := ⟨ts[i], List.getElem?_eq_getElem (by omega)⟩
    have hw : ∃ k', wl k [t] = some k' := by
      have e : ts = ts.take (i + 1) ++ ts.drop (i + 1) := (List.take_append_drop _ _).symm
      rw [e, wl_app, take_snoc ht, wl_snoc hB.1] at h
      cases e9 : wl k [t] with
      | none => rw [e9] at h; cases h
      | some k' => exact ⟨k', rfl⟩
    obtain ⟨k', hw⟩ := hw
    by_cases hb : t = .inr (.inr (.inr ())) ∧ k = 0
    · obtain ⟨rfl, rfl⟩ := hb
      exact ⟨_, _, hB.bar ht⟩
    · exact ⟨_, _, hB.go ht hw (fun e e2 => hb ⟨e, e2⟩)⟩
theorem NoBar.pre {us vs : List Tk} (h : NoBar (us ++ vs)) : NoBar us := fun a b e => by
  refine h a (b ++ vs) ?_
  rw [e]
  simp
def TokN : Tk → Prop
  | .inl cs => Canon cs
  | .inr (.inl (lo, hi)) => (0 ≤ lo ∧ lo ≤ 9999) ∧ (-1 ≤ hi ∧ hi ≤ 9999)
  | _ => True
theorem nice_canon {cs : List Int} (h : Canon cs) : Nice [⟨1, cs, 0, 0⟩] := by
  refine ⟨fun i => ?_, fun i => ?_⟩
  · cases i with
    | zero =>
      refine ⟨by simp [In64], by simp [In64], by simp [In64], fun j => ?_⟩
      show In64 (cs[j]?.getD 0)
      by_cases hj : j < cs.length
      · have := h.2.1 j hj; exact ⟨by omega, by omega⟩
      · rw [List.getElem?_eq_none (by omega)]; simp [In64]
    | succ i => simp [dE, In64]
  · cases i with
    | zero =>
      show cs.length ≤ 1048576
      have h1 := canon_ge h
      have h2 := h.1
      rcases Nat.lt_or_ge cs.length 600 with h3 | h3
      · omega
      · have := h1 (cs.length / 2 - 1) (by omega)
        have := h.2.1 (2 * (cs.length / 2 - 1)) (by omega)
        omega
    | succ i => simp [dE]
theorem gr_nice {n : Nat} {ts : List Tk} {T : Tr} (h : Gr n ts T) : (∀ t ∈ ts, TokN t) → Nice T.l := by
  have op : ∀ (k : Int), (k = 0 ∨ k = 2 ∨ k = 3) → Nice [⟨k, [], 0, 0⟩] := fun k hk => Nice.op k 0 0 ⟨by omega, by omega⟩ (by simp [In64]) (by simp [In64])
  refine h.ind (Q := fun _ ts T => (∀ t ∈ ts, TokN t) → Nice T.l) ?_ ?_ ?_ ?_ ?_ ?_ ?_ ?_ ?_ ?_
  · intro cs h1; exact nice_canon (h1 (.inl cs) (by simp))
  · intro ts T _ ih h1; exact ih (fun t ht => h1 t (by simp [ht]))
  · intro ts T _ ih; exact ih
  · intro ts T lo hi _ ih h1
    obtain ⟨⟨a, b⟩, c, d⟩ : (0 ≤ lo ∧ lo ≤ 9999) ∧ (-1 ≤ hi ∧ hi ≤ 9999) := h1 (.inr (.inl (lo, hi))) (by simp)
    exact (ih (fun t ht => h1 t (by simp [ht]))).app (Nice.op 4 lo hi (by simp [In64]) ⟨by omega, by omega⟩ ⟨by omega, by omega⟩)
  · intro ts T _ ih; exact ih
  · intro us vs A B _ _ i1 i2 h1; exact ((i1 (fun t ht => h1 t (by simp [ht]))).app (i2 (fun t ht => h1 t (by simp [ht])))).app (op 2 (by omega))
  · intro _; exact op 0 (by omega)
  · intro ts T _ ih; exact ih
  · intro us A _ ih h1; exact ((ih (fun t ht => h1 t (by simp [ht]))).app (op 0 (by omega))).app (op 3 (by omega))
  · intro us vs A B _ _ i1 i2 h1; exact ((i1 (fun t ht => h1 t (by simp [ht]))).app (i2 (fun t ht => h1 t (by simp [ht])))).app (op 3 (by omega))
theorem GrowE.low {base base' : Nat} {w : World} {v : Value} {xs : List El} (h : GrowE base w v xs) (hb : base' ≤ base) : GrowE base' w v xs := by
  obtain ⟨ps, e, h⟩ := h
  exact ⟨ps, e, own_low h.own hb, h.set, fun p hp k hk => by have := h.blk p hp k hk; exact ⟨by omega, this.2⟩, h.dis⟩
def BdR (e : Ending) (w w' : World) (ts : List Tk) : Prop := Below w.heap.size w w' ∧ (((∀ T, ¬ Gr 3 ts T) ∧ e = .returned (.tuple #[.slice none 0 0, .bool false])) ∨ ∃ (T : Tr) (v' : Value), Gr 3 ts T ∧ e = .returned (.tuple #[v', .bool true]) ∧ GrowE w.heap.size w' v' T.l)
def BdS (ts : List Tk) : Prop := ∀ (v : Value) (w : World), ElsAt 0 w.heap.size w v (ts.map tkE) → Calls Tryz.prog 22 #[v] w fun e w' => BdR e w w' ts
theorem kind_at {w : World} {b off : Nat} {ts : List Tk} {i : Nat} {t : Tk} (hel : ∀ i : Nat, i < (ts.map tkE).length → ElAt 0 w.heap.size w b (off + i * 4) ((ts.map tkE)[i]?.getD dE)) (ht : ts[i]? = some t) : w.cell? ⟨b, off + i * 4, none⟩ = some (.int .i64 (tkE t).kind) := by
  have hi : i < ts.length := by
    rcases Nat.lt_or_ge i ts.length with h1 | h1
    · exact h1
    · rw [List.getElem?_eq_none h1] at ht; cases ht
  have he := hel i (by rw [List.length_map]; exact hi)
  rw [List.getElem?_map, ht] at he
  obtain ⟨-, -, -, sv, c0, -⟩ := he
  exact c0
theorem slice_from (b off i cp Q : Nat) (hQ : Q ≤ i) : ∃ pb : Nat, (∀ W : World, Sem.run Tryz.prog (Instr.slice 45 (.slice (some ⟨b, off, none⟩) i cp) (some (.int .i64 (Q : Int))) none none) W = .ok (.slice (some ⟨b, pb, none⟩) (i - Q) (cp - Q)) W) ∧ (cp ≠ Q → pb = off + Q * 4) := by
  by_cases h : cp = Q
  · refine ⟨off, fun W => ?_, fun h' => absurd h h'⟩
    have h0 : (0 : Int) ≤ (Q : Int) := by omega
    have h1 : (Q : Int) ≤ (i : Int) := by omega
    rw [run_slice_l W 45 _ _ _ (by kernel_rfl) .i64 (Q : Int) h0 h1]
    have hs : Sem.run Tryz.prog (sizeOf (Tryz.prog.elem 45)) W = .ok 4 W := by kernel_rfl
    rw [hs]
    simp [Result.andThen, sliced, h]
  · refine ⟨off + Q * 4, fun W => ?_, fun _ => rfl⟩
    have h0 : (0 : Int) ≤ (Q : Int) := by omega
    have h1 : (Q : Int) ≤ (i : Int) := by omega
    rw [run_slice_l W 45 _ _ _ (by kernel_rfl) .i64 (Q : Int) h0 h1]
    have hs : Sem.run Tryz.prog (sizeOf (Tryz.prog.elem 45)) W = .ok 4 W := by kernel_rfl
    rw [hs]
    simp [Result.andThen, sliced, h, Addr.add]
theorem slice_mid (b off i cp Q R : Nat) (hQ : Q ≤ R) (hR : R ≤ cp) : ∃ pb : Nat, (∀ W : World, Sem.run Tryz.prog (Instr.slice 45 (.slice (some ⟨b, off, none⟩) i cp) (some (.int .i64 (Q : Int))) (some (.int .i64 (R : Int))) none) W = .ok (.slice (some ⟨b, pb, none⟩) (R - Q) (cp - Q)) W) ∧ (cp ≠ Q → pb = off + Q * 4) := by
  by_cases h : cp = Q
  · refine ⟨off, fun W => ?_, fun h' => absurd h h'⟩
    have h0 : (0 : Int) ≤ (Q : Int) := by omega
    have h1 : (Q : Int) ≤ (R : Int) := by omega
    have h2 : (R : Int) ≤ (cp : Int) := by omega
    rw [run_slice_lh W 45 _ _ _ (by kernel_rfl) .i64 .i64 (Q : Int) (R : Int) h0 h1 h2]
    have hs : Sem.run Tryz.prog (sizeOf (Tryz.prog.elem 45)) W = .ok 4 W := by kernel_rfl
    rw [hs]
    simp [Result.andThen, sliced, h]
  · refine ⟨off + Q * 4, fun W => ?_, fun _ => rfl⟩
    have h0 : (0 : Int) ≤ (Q : Int) := by omega
    have h1 : (Q : Int) ≤ (R : Int) := by omega
    have h2 : (R : Int) ≤ (cp : Int) := by omega
    rw [run_slice_lh W 45 _ _ _ (by kernel_rfl) .i64 .i64 (Q : Int) (R : Int) h0 h1 h2]
    have hs : Sem.run Tryz.prog (sizeOf (Tryz.prog.elem 45)) W = .ok 4 W := by kernel_rfl
    rw [hs]
    simp [Result.andThen, sliced, h, Addr.add]
theorem els_nil (lo n : Nat) (w : World) (a : Option Addr) (cp : Nat) (h : cp ≤ maxLen) : ElsAt lo n w (.slice a 0 cp) [] := ⟨a, cp, rfl, ⟨Nat.zero_le _, h⟩, fun h0 => absurd h0 (by simp)⟩
def KeyB (ts pre : List Tk) (GX : Tr → Prop) (F : Tr → Tr) : Prop := ∀ T, Gr 3 ts T ↔ ∃ X, GX X ∧ ((pre = [] ∧ T = F X) ∨ (pre ≠ [] ∧ ∃ A, Gr 3 pre A ∧ T = .cat A (F X)))
theorem key_0 {ts pre vs : List Tk} (hts : ts = pre ++ vs) (hnb : NoBar ts) (hs : Sh vs) : KeyB ts pre (fun X => Gr 0 vs X) (fun X => X) := fun T => by
  have hne : ts ≠ [] := by
    rw [hts]
    rcases hs with ⟨cs, rfl⟩ | ⟨mid, rfl, -⟩ <;> simp
  rw [gr_nobar hnb hne, hts, gr_two0 hs]
  have hnp : NoBar pre := by rw [hts] at hnb; exact hnb.pre
  constructor
  · rintro ⟨X, h1, h2⟩
    refine ⟨X, h1, ?_⟩
    rcases h2 with h2 | ⟨A, h2, h3⟩
    · exact .inl h2
    · have h0 : pre ≠ [] := h2.ne (by omega)
      exact .inr ⟨h0, A, (gr_nobar hnp h0).2 h2, h3⟩
  · rintro ⟨X, h1, h2⟩
    refine ⟨X, h1, ?_⟩
    rcases h2 with h2 | ⟨h0, A, h2, h3⟩
    · exact .inl h2
    · exact .inr ⟨A, (gr_nobar hnp h0).1 h2, h3⟩
theorem key_1 {ts pre vs : List Tk} {lo hi : Int} (hts : ts = pre ++ vs ++ [.inr (.inl (lo, hi))]) (hnb : NoBar ts) (hs : Sh vs) : KeyB ts pre (fun X => Gr 0 vs X) (fun X => .rep X lo hi) := fun T => by
  have hne : ts ≠ [] := by rw [hts]; simp
  rw [gr_nobar hnb hne, hts, gr_two1 hs]
  have hnp : NoBar pre := by rw [hts, List.append_assoc] at hnb; exact hnb.pre
  constructor
  · rintro ⟨X, h1, h2⟩
    refine ⟨X, h1, ?_⟩
    rcases h2 with h2 | ⟨A, h2, h3⟩
    · exact .inl h2
    · have h0 : pre ≠ [] := h2.ne (by omega)
      exact .inr ⟨h0, A, (gr_nobar hnp h0).2 h2, h3⟩
  · rintro ⟨X, h1, h2⟩
    refine ⟨X, h1, ?_⟩
    rcases h2 with h2 | ⟨h0, A, h2, h3⟩
    · exact .inl h2
    · exact .inr ⟨A, (gr_nobar hnp h0).1 h2, h3⟩
theorem bad_rep {ts body : List Tk} {lo hi : Int} (hts : ts = body ++ [.inr (.inl (lo, hi))]) (hnb : NoBar ts) (hb : body = [] ∨ ∃ pre l h, body = pre ++ [.inr (.inl (l, h))]) : ∀ T, ¬ Gr 3 ts T := fun T hT => by
  have hne : ts ≠ [] := by rw [hts]; simp
  rw [gr_nobar hnb hne, hts] at hT
  obtain ⟨pre, vs, e, hs⟩ := gr_bad hT
  rcases hb with rfl | ⟨p, l, h, rfl⟩
  · rcases hs with ⟨cs, rfl⟩ | ⟨mid, rfl, -⟩
    · simp at e
    · simp at e
  · exact (Sh.noRep (us := pre) (lo := l) (hi := h) hs).2 p e
theorem el_at {w : World} {b off n : Nat} {ts : List Tk} {i : Nat} {t : Tk} (hn : n = ts.length) (hel : ∀ i : Nat, i < n → ElAt 0 w.heap.size w b (off + i * 4) ((ts.map tkE)[i]?.getD dE)) (ht : ts[i]? = some t) : ElAt 0 w.heap.size w b (off + i * 4) (tkE t) := by
  have hi : i < ts.length := by
    rcases Nat.lt_or_ge i ts.length with h1 | h1
    · exact h1
    · rw [List.getElem?_eq_none h1] at ht; cases ht
  have he := hel i (by rw [hn]; exact hi)
  rw [List.getElem?_map, ht] at he
  exact he
structure MtI (p : Nat) (mid : List Tk) (s D : Nat) : Prop where
  lo : p ≤ s
  hi : s ≤ p + 1 + mid.length
  st : (s = p ∧ D = 0) ∨ (p < s ∧ 1 ≤ D ∧ wl (D - 1) (mid.drop (s - p - 1)) = some 0)
  bd : D ≤ p + 2 + mid.length - s
theorem MtI.start (p : Nat) (mid : List Tk) : MtI p mid (p + 1 + mid.length) 1 := ⟨by omega, Nat.le_refl _, .inr ⟨by omega, by omega, by rw [List.drop_eq_nil_of_le (by omega)]; rfl⟩, by omega⟩
theorem MtI.op0 {p s D : Nat} {mid : List Tk} (h : MtI p mid s D) (hw : wl 0 mid = some 0) (hs : s = p + 1) : D = 1 ∧ MtI p mid p 0 := by
  rcases h.st with ⟨h1, -⟩ | ⟨h1, h2, h3⟩
  · omega
  · rw [hs, show p + 1 - p - 1 = 0 by omega, List.drop_zero, wl_bal hw] at h3
    have := Option.some.inj h3
    exact ⟨by omega, by omega, by omega, .inl ⟨rfl, rfl⟩, by omega⟩
theorem MtI.step {p s D : Nat} {mid : List Tk} {t : Tk} (h : MtI p mid s D) (hw : wl 0 mid = some 0) (hs : p + 1 < s) (ht : mid[s - 1 - p - 1]? = some t) : 1 ≤ D ∧ (t = .inr (.inr (.inl false)) → MtI p mid (s - 1) (D + 1)) ∧ (t = .inr (.inr (.inl true)) → MtI p mid (s - 1) (D - 1)) ∧ (t ≠ .inr (.inr (.inl false)) → t ≠ .inr (.inr (.inl true)) → MtI p mid (s - 1) D) := by
  rcases h.st with ⟨h1, -⟩ | ⟨h1, h2, h3⟩
  · omega
  have hlo := h.lo
  have hhi := h.hi
  have hbd := h.bd
  have hd : mid.drop (s - 1 - p - 1) = t :: mid.drop (s - p - 1) := by
    have hl : s - 1 - p - 1 < mid.length := by omega
    rw [List.getElem?_eq_getElem hl] at ht
    rw [List.drop_eq_getElem_cons hl, Option.some.inj ht, show s - 1 - p - 1 + 1 = s - p - 1 by omega]
  refine ⟨h2, fun e => ?_, fun e => ?_, fun e1 e2 => ?_⟩
  · refine ⟨by omega, by omega, .inr ⟨by omega, by omega, ?_⟩, by omega⟩
    rw [hd, e, show D + 1 - 1 = (D - 1) + 1 by omega]
    exact h3
  · by_cases hD : D = 1
    · exfalso
      rw [hD] at h3
      have es := List.take_append_drop (s - 1 - p - 1) mid
      rw [hd, e] at es
      rw [← es, wl_app] at hw
      cases e9 : wl 0 (mid.take (s - 1 - p - 1)) with
      | none => rw [e9] at hw; cases hw
      | some j =>
        rw [e9] at hw
        simp only [Option.bind_some, wl] at hw
        rw [wl_bal h3] at hw
        cases hw
    · refine ⟨by omega, by omega, .inr ⟨by omega, by omega, ?_⟩, by omega⟩
      rw [hd, e]
      simp only [wl]
      rw [show D - 1 - 1 + 1 = D - 1 by omega]
      exact h3
  · refine ⟨by omega, by omega, .inr ⟨by omega, h2, ?_⟩, by omega⟩
    rw [hd]
    rcases t with cs | ⟨lo, hi⟩ | (_ | _) | _
    · exact h3
    · exact h3
    · exact absurd rfl e1
    · exact absurd rfl e2
    · exact h3
end Go.Proofs.YtcmofgehhdfifaaGreatDoor
