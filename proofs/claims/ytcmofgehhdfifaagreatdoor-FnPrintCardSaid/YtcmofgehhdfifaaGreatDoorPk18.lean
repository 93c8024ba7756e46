import Derived.Test.YtcmofgehhdfifaaGreatDoorPk17
import Derived.Deep.RegionHeld3
namespace Go.Proofs.YtcmofgehhdfifaaGreatDoor
open Go.RowKit
/-! The numbers of a token are small. -/
theorem num1_top {s r : List Int} {v : Int} (h : num1 s = some (v, r)) : v ≤ 9999 := by
  unfold num1 at h
  split at h
  · cases h
  · rename_i hn
    have hd : ∀ c ∈ s.takeWhile isD, c ≤ 57 := fun c hc => by
      have h9 := List.all_eq_true.1 (List.all_takeWhile (p := isD) (l := s)) c hc
      unfold isD at h9
      have := of_decide_eq_true h9
      omega
    have hl : (s.takeWhile isD).length ≤ 4 := by omega
    cases h
    generalize s.takeWhile isD = ds at hd hl
    match ds, hd, hl with
    | [], _, _ => simp [numV]
    | [a], hd, _ => have := hd a (by simp); simp [numV]; omega
    | [a, b], hd, _ => have := hd a (by simp); have := hd b (by simp); simp [numV]; omega
    | [a, b, c], hd, _ => have := hd a (by simp); have := hd b (by simp); have := hd c (by simp); simp [numV]; omega
    | [a, b, c, d], hd, _ => have := hd a (by simp); have := hd b (by simp); have := hd c (by simp); have := hd d (by simp); simp [numV]; omega
theorem brc_top {s r : List Int} {lo hi : Int} (h : brc s = some ((lo, hi), r)) : lo ≤ 9999 ∧ hi ≤ 9999 := by
  unfold brc at h
  cases hn : num1 s with
  | none => rw [hn] at h; cases h
  | some y =>
    rw [hn, Option.bind_some] at h
    obtain ⟨v, t⟩ := y
    have hv := num1_top hn
    simp only at h
    match t, h with
    | c :: t', h =>
      rw [brc2] at h
      by_cases h1 : c = 125
      · rw [if_pos h1] at h; cases h; exact ⟨hv, hv⟩
      rw [if_neg h1] at h
      by_cases h2 : c = 44
      · rw [if_pos h2] at h
        match t', h with
        | b :: t2, h =>
          rw [brc3] at h
          by_cases h3 : b = 125
          · rw [if_pos h3] at h; cases h; exact ⟨hv, by omega⟩
          rw [if_neg h3] at h
          cases hn2 : num1 (b :: t2) with
          | none => rw [hn2] at h; cases h
          | some z =>
            rw [hn2, Option.bind_some] at h
            obtain ⟨u, t3⟩ := z
            have hu := num1_top hn2
            simp only at h
            by_cases h4 : u < v
            · rw [if_pos h4] at h; cases h
            · rw [if_neg h4] at h
              match t3, h with
              | d :: t4, h =>
                simp only at h
                by_cases h5 : d = 125
                · rw [if_pos h5] at h; cases h; exact ⟨hv, hu⟩
                · rw [if_neg h5] at h; cases h
      · rw [if_neg h2] at h; cases h
theorem lx_top {s r : List Int} {lo hi : Int} (h : lx s = some (.inr (.inl (lo, hi)), r)) : lo ≤ 9999 ∧ hi ≤ 9999 := by
  match s, h with
  | c :: q, h =>
    rw [lx] at h
    by_cases h1 : c = 40
    · rw [if_pos h1] at h; cases h
    rw [if_neg h1] at h
    by_cases h2 : c = 41
    · rw [if_pos h2] at h; cases h
    rw [if_neg h2] at h
    by_cases h3 : c = 124
    · rw [if_pos h3] at h; cases h
    rw [if_neg h3] at h
    by_cases h4 : c = 42
    · rw [if_pos h4] at h; cases h; omega
    rw [if_neg h4] at h
    by_cases h5 : c = 43
    · rw [if_pos h5] at h; cases h; omega
    rw [if_neg h5] at h
    by_cases h6 : c = 63
    · rw [if_pos h6] at h; cases h; omega
    rw [if_neg h6] at h
    by_cases h7 : c = 123
    · rw [if_pos h7] at h
      cases hb : brc q with
      | none => rw [hb] at h; cases h
      | some y => rw [hb] at h; cases h; exact brc_top (lo := y.1.1) (hi := y.1.2) (r := y.2) (by rw [hb])
    rw [if_neg h7] at h
    by_cases h8 : c = 46
    · rw [if_pos h8] at h; cases h
    rw [if_neg h8] at h
    by_cases h9 : c = 91
    · rw [if_pos h9] at h
      cases hb : cls q with
      | none => rw [hb] at h; cases h
      | some y => rw [hb] at h; cases h
    rw [if_neg h9] at h
    by_cases h10 : c = 92
    · rw [if_pos h10] at h
      cases hb : sesc q with
      | some y => rw [hb] at h; cases h
      | none =>
        rw [hb] at h
        simp only at h
        cases hd : besc q with
        | none => rw [hd] at h; cases h
        | some y => rw [hd] at h; cases h
    rw [if_neg h10] at h
    by_cases h11 : c ∈ spcZ
    · rw [if_pos h11] at h; cases h
    · rw [if_neg h11] at h; cases h
theorem lx_n {s r : List Int} {t : Tk} (hs : BytesIn s) (h : lx s = some (t, r)) : TokN t := by
  have h1 := lx_ok hs h
  rcases t with cs | ⟨lo, hi⟩ | (_ | _) | _
  · exact h1
  · have h2 := lx_top h
    obtain ⟨h3, h4⟩ := h1
    exact ⟨⟨h3, h2.1⟩, by omega, h2.2⟩
  · trivial
  · trivial
  · trivial
theorem lxs_n : ∀ {ts : List Tk} {s r : List Int}, BytesIn s → Lxs s ts r → ∀ t ∈ ts, TokN t
  | [], _, _, _, _ => fun t ht => by simp at ht
  | u :: ts, s, r, hs, ⟨r', h1, h2⟩ => fun t ht => by
    obtain ⟨p, e, -, -⟩ := lx_loc _ _ _ h1
    rcases List.mem_cons.1 ht with rfl | ht
    · exact lx_n hs h1
    · exact lxs_n (fun x hx => hs x (by rw [e]; simp [hx])) h2 t ht
theorem open_at : ∀ (n : Nat) (x : List Tk) (k : Nat), x.length ≤ n → wl 0 x = some (k + 1) → ∃ pre mid, x = pre ++ .inr (.inr (.inl true)) :: mid ∧ wl 0 pre = some k ∧ wl 0 mid = some 0
  | 0, x, k, hn, h => by
    have : x = [] := List.eq_nil_of_length_eq_zero (by omega)
    subst this
    simp [wl] at h
  | n + 1, x, k, hn, h => by
    rcases List.eq_nil_or_concat x with rfl | ⟨y, t, rfl⟩
    · simp [wl] at h
    · rw [List.concat_eq_append] at hn h ⊢
      rw [List.length_append, List.length_singleton] at hn
      rw [wl_app] at h
      cases hy : wl 0 y with
      | none => rw [hy] at h; cases h
      | some j =>
        rw [hy, Option.bind_some] at h
        have oth : ∀ mid : List Tk, wl 0 mid = some 0 → wl 0 [t] = some 0 → wl 0 (mid ++ [t]) = some 0 := fun mid h1 h2 => by rw [wl_app, h1, Option.bind_some, h2]
        rcases t with cs | ⟨lo, hi⟩ | (_ | _) | _
        · obtain ⟨pre, mid, rfl, h1, h2⟩ := open_at n y k (by omega) (by rw [hy]; simpa [wl] using h)
          exact ⟨pre, mid ++ [_], by simp, h1, oth _ h2 rfl⟩
        · obtain ⟨pre, mid, rfl, h1, h2⟩ := open_at n y k (by omega) (by rw [hy]; simpa [wl] using h)
          exact ⟨pre, mid ++ [_], by simp, h1, oth _ h2 rfl⟩
        · cases j with
          | zero => simp [wl] at h
          | succ j =>
            obtain rfl : j = k + 1 := by simpa [wl] using h
            obtain ⟨p1, m1, rfl, h1, h2⟩ := open_at n y (k + 1) (by omega) hy
            rw [List.length_append, List.length_cons] at hn
            obtain ⟨pre, m2, rfl, h3, h4⟩ := open_at n p1 k (by omega) h1
            refine ⟨pre, m2 ++ .inr (.inr (.inl true)) :: (m1 ++ [.inr (.inr (.inl false))]), by simp, h3, ?_⟩
            rw [wl_app, h4, Option.bind_some]
            show wl 1 (m1 ++ _) = _
            rw [wl_app, wl_bal h2 1, Option.bind_some]
            rfl
        · obtain rfl : j = k := by simpa [wl] using h
          exact ⟨y, [], by simp, hy, rfl⟩
        · obtain ⟨pre, mid, rfl, h1, h2⟩ := open_at n y k (by omega) (by rw [hy]; simpa [wl] using h)
          exact ⟨pre, mid ++ [_], by simp, h1, oth _ h2 rfl⟩
theorem wl_last {ts : List Tk} {t : Tk} (h : wl 0 (ts ++ [t]) = some 0) (ht : ∀ k, wl k [t] = some k) : wl 0 ts = some 0 := by
  rw [wl_app] at h
  cases hy : wl 0 ts with
  | none => rw [hy] at h; cases h
  | some j => rw [hy, Option.bind_some, ht j] at h; exact h
theorem cl_open {x : List Tk} (h : wl 0 (x ++ [.inr (.inr (.inl false))]) = some 0) : ∃ pre mid, x = pre ++ .inr (.inr (.inl true)) :: mid ∧ wl 0 pre = some 0 ∧ wl 0 mid = some 0 := by
  rw [wl_app] at h
  cases hy : wl 0 x with
  | none => rw [hy] at h; cases h
  | some j =>
    rw [hy, Option.bind_some] at h
    cases j with
    | zero => simp [wl] at h
    | succ j =>
      obtain rfl : j = 0 := by simpa [wl] using h
      exact open_at _ x 0 (Nat.le_refl _) hy
set_option maxHeartbeats 16000000 in
set_option maxRecDepth 100000 in
theorem bd_empty (ts : List Tk) (hl : ts.length ≤ 100000) (hw : wl 0 ts = some 0) (h0 : ts = []) (hnb : NoBar ts) (hg : Gr 3 ts .e) : BdS ts := by
  intro v w hv
  have hv0 := hv
  obtain ⟨a, cp, rfl, hcap, hc⟩ := hv
  rw [List.length_map] at hcap hc hv0 ⊢
  obtain ⟨n, hn⟩ : ∃ n, n = ts.length := ⟨_, rfl⟩
  rw [← hn] at hcap hc hv0 hl ⊢
  have HN := hide hn
  have HV := hide hv0
  have HC := hide hc
  have HW0 := hide hw
  unfold maxLen at hcap
  clear hc hv0 hw hn
  go_enter Tryz.func22, Tryz.ntmps22
  go_wp2_with fail
  go_loop [4, 5, 6] (fun bv dv iv => ∃ (i k : Nat) (B : Int), i ≤ n ∧ iv = .int .i64 (i : Nat) ∧ dv = .int .i64 (k : Nat) ∧ bv = .int .i64 B ∧ BarI ts i B k ∧ k ≤ i ∧ -1 ≤ B ∧ B < (i : Int)) (fun _ _ iv => n - (intOf iv).toNat)
  case atStart => exact ⟨0, 0, -1, Nat.zero_le _, rfl, rfl, rfl, BarI.start ts, Nat.le_refl _, by omega, by omega⟩
  case round =>
    obtain ⟨i, k, B, hin, rfl, rfl, rfl, hB, hk, hB1, hB2⟩ := hrel
    have HBI := hide hB
    clear hB
    by_cases hlt : i < n
    · have hlt' : (i : Int) < (n : Int) := by omega
      have hltt : i < ts.length := by rw [← unhide HN]; exact hlt
      obtain ⟨b, off, rfl, -, -, hel⟩ := unhide HC (by omega)
      obtain ⟨t, ht⟩ : ∃ t, ts[i]? = some t := ⟨ts[i], List.getElem?_eq_getElem hltt⟩
      have c0 : w.cell? ⟨b, off + i * 4, none⟩ = some (.int .i64 (tkE t).kind) := kind_at (fun j hj => hel j (by rw [List.length_map, ← unhide HN] at hj; exact hj)) ht
      have HT := hide ht
      have hwk : ∃ k', wl k [t] = some k' := by
        have e : ts = ts.take (i + 1) ++ ts.drop (i + 1) := (List.take_append_drop _ _).symm
        have h9 := unhide HW0
        rw [e, wl_app, take_snoc ht, wl_snoc (unhide HBI).1] at h9
        cases e9 : wl k [t] with
        | none => rw [e9] at h9; cases h9
        | some k' => exact ⟨k', rfl⟩
      clear hel ht HC hltt
      by_cases e2 : (tkE t).kind = 2
      · have et := tkE_op.1 e2
        rw [e2] at c0
        subst et
        have HB9 := hide ((unhide HBI).go (k' := k + 1) (unhide HT) rfl (fun e => by cases e))
        clear e2 hwk
        go_wp2
        go_round
        case rel => exact ⟨i + 1, k + 1, B, by omega, by go_num, by go_num, rfl, unhide HB9, by omega, hB1, by omega⟩
        case measure => simp [intOf]; omega
      by_cases e3 : (tkE t).kind = 3
      · have et := tkE_cl.1 e3
        rw [e3] at c0
        subst et
        clear e2 e3
        cases k with
        | zero => obtain ⟨k', h⟩ := hwk; cases h
        | succ k =>
          have HB9 := hide ((unhide HBI).go (k' := k) (unhide HT) rfl (fun e => by cases e))
          clear hwk
          go_wp2
          go_round
          case rel => exact ⟨i + 1, k, B, by omega, by go_num, by go_num, rfl, unhide HB9, by omega, hB1, by omega⟩
          case measure => simp [intOf]; omega
      by_cases e4 : (tkE t).kind = 4
      · have et := tkE_bar.1 e4
        rw [e4] at c0
        subst et
        clear e2 e3 e4 hwk
        by_cases k0 : k = 0
        · subst k0
          have HB9 := hide ((unhide HBI).bar (unhide HT))
          go_wp2
          go_round
          case rel => exact ⟨i + 1, 0, (i : Nat), by omega, by go_num, rfl, rfl, unhide HB9, by omega, by omega, by omega⟩
          case measure => simp [intOf]; omega
        · have k1 : ((k : Int) == 0) = false := by simp; omega
          have HB9 := hide ((unhide HBI).go (k' := k) (unhide HT) rfl (fun _ => k0))
          clear k0
          go_wp2
          go_round
          case rel => exact ⟨i + 1, k, B, by omega, by go_num, rfl, rfl, unhide HB9, by omega, hB1, by omega⟩
          case measure => simp [intOf]; omega
      · have hoth : wl k [t] = some k := by
          rcases t with cs | ⟨lo, hi⟩ | (_ | _) | _
          · rfl
          · rfl
          · exact absurd rfl e3
          · exact absurd rfl e2
          · exact absurd rfl e4
        have HB9 := hide ((unhide HBI).go (unhide HT) hoth (fun e => absurd (tkE_bar.2 e) e4))
        obtain ⟨kd, hkd⟩ : ∃ kd, kd = (tkE t).kind := ⟨_, rfl⟩
        rw [← hkd] at e2 e3 e4 c0
        clear hkd hwk hoth
        have e4' : (kd == 4) = false := by simp [e4]
        go_wp2
        go_round
        case rel => exact ⟨i + 1, k, B, by omega, by go_num, rfl, rfl, unhide HB9, by omega, hB1, by omega⟩
        case measure => simp [intOf]; omega
    · obtain rfl : i = n := by omega
      have hBI := unhide HBI
      rw [unhide HN] at hBI
      clear HBI
      have hlt' : ¬ (i : Int) < (i : Int) := by omega
      obtain rfl : B = -1 := hBI.no hnb
      have HG := hide hg
      have h0' : i = 0 := by rw [unhide HN, h0]; rfl
      subst h0'
      clear hBI hg
      go_wp2_with fail
      refine (l1empty_w w).mono ?_
      rintro e w1 ⟨v1, rfl, hg1, hb1⟩
      obtain ⟨o1, d1, rfl⟩ := hg1.form
      have HG1 := hide hg1
      clear hg1
      go_wp2
      go_ret2
      exact ⟨hb1, .inr ⟨.e, _, unhide HG, rfl, unhide HG1⟩⟩
set_option maxHeartbeats 16000000 in
set_option maxRecDepth 100000 in
theorem bd_bar (ts : List Tk) (hl : ts.length ≤ 100000) (hw : wl 0 ts = some 0) (us vs : List Tk) (hts : ts = us ++ .inr (.inr (.inr ())) :: vs) (hu : wl 0 us = some 0) (hnb : NoBar vs) (Hu : BdS us) (Hv : BdS vs) (hNu : ∀ t ∈ us, TokN t) (hNv : ∀ t ∈ vs, TokN t) : BdS ts := by
  intro v w hv
  have hv0 := hv
  obtain ⟨a, cp, rfl, hcap, hc⟩ := hv
  rw [List.length_map] at hcap hc hv0 ⊢
  obtain ⟨n, hn⟩ : ∃ n, n = ts.length := ⟨_, rfl⟩
  rw [← hn] at hcap hc hv0 hl ⊢
  have HN := hide hn
  have HV := hide hv0
  have HC := hide hc
  have HW0 := hide hw
  unfold maxLen at hcap
  clear hc hv0 hw hn
  go_enter Tryz.func22, Tryz.ntmps22
  go_wp2_with fail
  go_loop [4, 5, 6] (fun bv dv iv => ∃ (i k : Nat) (B : Int), i ≤ n ∧ iv = .int .i64 (i : Nat) ∧ dv = .int .i64 (k : Nat) ∧ bv = .int .i64 B ∧ BarI ts i B k ∧ k ≤ i ∧ -1 ≤ B ∧ B < (i : Int)) (fun _ _ iv => n - (intOf iv).toNat)
  case atStart => exact ⟨0, 0, -1, Nat.zero_le _, rfl, rfl, rfl, BarI.start ts, Nat.le_refl _, by omega, by omega⟩
  case round =>
    obtain ⟨i, k, B, hin, rfl, rfl, rfl, hB, hk, hB1, hB2⟩ := hrel
    have HBI := hide hB
    clear hB
    by_cases hlt : i < n
    · have hlt' : (i : Int) < (n : Int) := by omega
      have hltt : i < ts.length := by rw [← unhide HN]; exact hlt
      obtain ⟨b, off, rfl, -, -, hel⟩ := unhide HC (by omega)
      obtain ⟨t, ht⟩ : ∃ t, ts[i]? = some t := ⟨ts[i], List.getElem?_eq_getElem hltt⟩
      have c0 : w.cell? ⟨b, off + i * 4, none⟩ = some (.int .i64 (tkE t).kind) := kind_at (fun j hj => hel j (by rw [List.length_map, ← unhide HN] at hj; exact hj)) ht
      have HT := hide ht
      have hwk : ∃ k', wl k [t] = some k' := by
        have e : ts = ts.take (i + 1) ++ ts.drop (i + 1) := (List.take_append_drop _ _).symm
        have h9 := unhide HW0
        rw [e, wl_app, take_snoc ht, wl_snoc (unhide HBI).1] at h9
        cases e9 : wl k [t] with
        | none => rw [e9] at h9; cases h9
        | some k' => exact ⟨k', rfl⟩
      clear hel ht HC hltt
      by_cases e2 : (tkE t).kind = 2
      · have et := tkE_op.1 e2
        rw [e2] at c0
        subst et
        have HB9 := hide ((unhide HBI).go (k' := k + 1) (unhide HT) rfl (fun e => by cases e))
        clear e2 hwk
        go_wp2
        go_round
        case rel => exact ⟨i + 1, k + 1, B, by omega, by go_num, by go_num, rfl, unhide HB9, by omega, hB1, by omega⟩
        case measure => simp [intOf]; omega
      by_cases e3 : (tkE t).kind = 3
      · have et := tkE_cl.1 e3
        rw [e3] at c0
        subst et
        clear e2 e3
        cases k with
        | zero => obtain ⟨k', h⟩ := hwk; cases h
        | succ k =>
          have HB9 := hide ((unhide HBI).go (k' := k) (unhide HT) rfl (fun e => by cases e))
          clear hwk
          go_wp2
          go_round
          case rel => exact ⟨i + 1, k, B, by omega, by go_num, by go_num, rfl, unhide HB9, by omega, hB1, by omega⟩
          case measure => simp [intOf]; omega
      by_cases e4 : (tkE t).kind = 4
      · have et := tkE_bar.1 e4
        rw [e4] at c0
        subst et
        clear e2 e3 e4 hwk
        by_cases k0 : k = 0
        · subst k0
          have HB9 := hide ((unhide HBI).bar (unhide HT))
          go_wp2
          go_round
          case rel => exact ⟨i + 1, 0, (i : Nat), by omega, by go_num, rfl, rfl, unhide HB9, by omega, by omega, by omega⟩
          case measure => simp [intOf]; omega
        · have k1 : ((k : Int) == 0) = false := by simp; omega
          have HB9 := hide ((unhide HBI).go (k' := k) (unhide HT) rfl (fun _ => k0))
          clear k0
          go_wp2
          go_round
          case rel => exact ⟨i + 1, k, B, by omega, by go_num, rfl, rfl, unhide HB9, by omega, hB1, by omega⟩
          case measure => simp [intOf]; omega
      · have hoth : wl k [t] = some k := by
          rcases t with cs | ⟨lo, hi⟩ | (_ | _) | _
          · rfl
          · rfl
          · exact absurd rfl e3
          · exact absurd rfl e2
          · exact absurd rfl e4
        have HB9 := hide ((unhide HBI).go (unhide HT) hoth (fun e => absurd (tkE_bar.2 e) e4))
        obtain ⟨kd, hkd⟩ : ∃ kd, kd = (tkE t).kind := ⟨_, rfl⟩
        rw [← hkd] at e2 e3 e4 c0
        clear hkd hwk hoth
        have e4' : (kd == 4) = false := by simp [e4]
        go_wp2
        go_round
        case rel => exact ⟨i + 1, k, B, by omega, by go_num, rfl, rfl, unhide HB9, by omega, hB1, by omega⟩
        case measure => simp [intOf]; omega
    · obtain rfl : i = n := by omega
      have hBI := unhide HBI
      rw [unhide HN] at hBI
      clear HBI
      have hlt' : ¬ (i : Int) < (i : Int) := by omega
      obtain rfl : B = (us.length : Int) := by rw [hts] at hBI; exact hBI.yes hu hnb
      obtain ⟨q, hq⟩ : ∃ q, q = us.length := ⟨_, rfl⟩
      obtain ⟨r, hr⟩ : ∃ r, r = vs.length := ⟨_, rfl⟩
      rw [← hq]
      have hir : i = q + 1 + r := by rw [unhide HN, hts, hq, hr]; simp; omega
      have HV2 : Hid (ElsAt 0 w.heap.size w (.slice a i cp) (us.map tkE ++ [tkE (.inr (.inr (.inr ())))] ++ vs.map tkE)) := by
        show ElsAt _ _ _ _ _
        have h9 := unhide HV
        rw [hts] at h9
        simpa using h9
      obtain ⟨b, off, rfl, -, -, -⟩ := unhide HC (by omega)
      have HVL : Hid (ElsAt 0 w.heap.size w (.slice (some ⟨b, off, none⟩) q cp) (us.map tkE)) := by
        have h9 := unhide HV2
        rw [List.append_assoc] at h9
        have h8 := h9.pre
        rw [List.length_map, ← hq] at h8
        exact h8
      obtain ⟨Q, hQ⟩ : ∃ Q, Q = q + 1 := ⟨_, rfl⟩
      obtain ⟨pb, hsl, hpb⟩ := slice_from b off i cp Q (by omega)
      have HVR : Hid (ElsAt 0 w.heap.size w (.slice (some ⟨b, pb, none⟩) (i - Q) (cp - Q)) (vs.map tkE)) := by
        by_cases hcq : cp = Q
        · have hr0 : r = 0 := by omega
          have hv0 : vs = [] := List.eq_nil_of_length_eq_zero (by omega)
          rw [hv0, show i - Q = 0 by omega]
          exact els_nil _ _ _ _ _ (by unfold maxLen; omega)
        · have h9 := unhide HV2
          rw [← List.append_nil (us.map tkE ++ [tkE (.inr (.inr (.inr ())))] ++ vs.map tkE)] at h9
          have h8 := h9.mid (cap' := cp - (q + 1)) (by rw [List.length_map, ← hr]; unfold maxLen; omega)
          rw [List.length_append, List.length_map, List.length_map, ← hq, ← hr, List.length_singleton] at h8
          rw [hpb hcq, show i - Q = r by omega, hQ]
          exact h8
      have HGB : Hid (∀ T, Gr 3 ts T ↔ ∃ A B, T = .alt A B ∧ Gr 3 us A ∧ Gr 3 vs B) := fun T => by rw [hts]; exact gr_bar hu hnb
      have HQ := hide hq
      have HR := hide hr
      have h3 : q ≤ 100000 := by omega
      have e1 : (q : Int) + 1 = (Q : Int) := by omega
      have h6 : (q : Int) ≤ (i : Int) := by omega
      have h8 : (i : Int) ≤ (cp : Int) := by omega
      have HSU := hide Hu
      have HSV := hide Hv
      have HNU := hide hNu
      have HNV := hide hNv
      have HLU : Hid (us.length ≤ 100000) := by rw [← hq]; exact h3
      have HLV : Hid (vs.length ≤ 100000) := by show _ ≤ _; rw [← hr]; omega
      have h12 : i ≤ cp := hcap.1
      clear hq hr hir hBI HC HV HV2 Hu Hv hNu hNv hQ hB1 hB2 hlt hlt' hpb
      go_wp2_with fail
      refine (unhide HSU _ w (unhide HVL)).mono ?_
      rintro e w1 ⟨hb1, ⟨hn1, rfl⟩ | ⟨A, v1, hA, rfl, hg1⟩⟩
      · have HX : Hid (∀ T, ¬ Gr 3 ts T) := fun T h => by obtain ⟨A, B, -, hA, -⟩ := (unhide HGB T).1 h; exact hn1 A hA
        have HB1 := hide hb1
        clear hn1 hb1
        go_wp2_with fail
        refine (unhide HSV _ w1 ((unhide HVR).below (unhide HB1) (Nat.le_refl _))).mono ?_
        rintro e w2 ⟨hb2, hcase⟩
        have HB2 := hide ((unhide HB1).trans (hb2.mono (unhide HB1).size))
        obtain ⟨v2, bb, rfl, hv2⟩ : ∃ v2 bb, e = .returned (.tuple #[v2, .bool bb]) ∧ ∃ a c n, v2 = .slice a n c := by
          rcases hcase with ⟨-, rfl⟩ | ⟨B, v2, -, rfl, hg⟩
          · exact ⟨_, _, rfl, none, 0, 0, rfl⟩
          · obtain ⟨o, d, e⟩ := hg.form
            exact ⟨_, _, rfl, o, d, _, e⟩
        obtain ⟨o2, d2, n2, rfl⟩ := hv2
        clear hcase hb2
        go_wp2
        go_ret2
        exact ⟨unhide HB2, .inl ⟨unhide HX, rfl⟩⟩
      · obtain ⟨o1, d1, rfl⟩ := hg1.form
        have HG1 := hide hg1
        have HB1 := hide hb1
        have HA := hide hA
        have HLA := hide (gr_len hA).2
        have HNA := hide (gr_nice hA (unhide HNU))
        clear hg1 hb1 hA
        obtain ⟨nA, hnA⟩ : ∃ nA, nA = A.l.length := ⟨_, rfl⟩
        rw [← hnA] at HLA ⊢
        have HNA2 := hide hnA
        clear hnA
        go_wp2_with fail
        refine (unhide HSV _ w1 ((unhide HVR).below (unhide HB1) (Nat.le_refl _))).mono ?_
        rintro e w2 ⟨hb2, ⟨hn2, rfl⟩ | ⟨B, v2, hB, rfl, hg2⟩⟩
        · have HX : Hid (∀ T, ¬ Gr 3 ts T) := fun T h => by obtain ⟨A, B, -, -, hB⟩ := (unhide HGB T).1 h; exact hn2 B hB
          have HB2 := hide ((unhide HB1).trans (hb2.mono (unhide HB1).size))
          clear hn2 hb2
          go_wp2
          go_ret2
          exact ⟨unhide HB2, .inl ⟨unhide HX, rfl⟩⟩
        · obtain ⟨o2, d2, rfl⟩ := hg2.form
          have HB2 := hide ((unhide HB1).trans (hb2.mono (unhide HB1).size))
          have HT : Hid (Gr 3 ts (.alt A B)) := (unhide HGB _).2 ⟨A, B, rfl, unhide HA, hB⟩
          have hLB := (gr_len hB).2
          have hNB := gr_nice hB (unhide HNV)
          have hEA := ((unhide HG1).els (unhide HNA)).below hb2 (Nat.le_refl _)
          have hEB := hg2.els hNB
          have hlA := unhide HLA
          have hlU := unhide HLU
          have hlV := unhide HLV
          have HALT := hide (l1alt_w _ _ A.l B.l w2 hEA hEB (by rw [← unhide HNA2]; omega) (by omega) (unhide HNA).len hNB.len)
          obtain ⟨nB, hnB⟩ : ∃ nB, nB = B.l.length := ⟨_, rfl⟩
          rw [← hnB, ← unhide HNA2] at HALT
          rw [← hnB]
          have hz2 := (unhide HB2).size
          clear hg2 hb2 hB hLB hNB hEA hEB hlA hlU hlV hnB
          go_wp2_with fail
          refine (unhide HALT).mono ?_
          rintro e w3 ⟨v3, rfl, hg3, hb3⟩
          obtain ⟨o3, d3, rfl⟩ := hg3.form
          have HG3 := hide (hg3.low hz2)
          have HB3 := hide ((unhide HB2).trans (hb3.mono hz2))
          obtain ⟨nC, hnC⟩ : ∃ nC, nC = (A.l ++ B.l ++ [(⟨3, [], 0, 0⟩ : El)]).length := ⟨_, rfl⟩
          rw [← hnC] at HG3 ⊢
          clear hg3 hb3 hnC HALT
          go_wp2
          go_ret2
          exact ⟨unhide HB3, .inr ⟨.alt A B, _, unhide HT, rfl, unhide HG3⟩⟩
set_option maxHeartbeats 16000000 in
set_option maxRecDepth 100000 in
theorem bd_bad (ts : List Tk) (hl : ts.length ≤ 100000) (hw : wl 0 ts = some 0) (body : List Tk) (lo hi : Int) (hts : ts = body ++ [.inr (.inl (lo, hi))]) (hnb : NoBar ts) (hb : body = [] ∨ ∃ pre l h, body = pre ++ [.inr (.inl (l, h))]) : BdS ts := by
  intro v w hv
  have hv0 := hv
  obtain ⟨a, cp, rfl, hcap, hc⟩ := hv
  rw [List.length_map] at hcap hc hv0 ⊢
  obtain ⟨n, hn⟩ : ∃ n, n = ts.length := ⟨_, rfl⟩
  rw [← hn] at hcap hc hv0 hl ⊢
  have HN := hide hn
  have HV := hide hv0
  have HC := hide hc
  have HW0 := hide hw
  unfold maxLen at hcap
  clear hc hv0 hw hn
  go_enter Tryz.func22, Tryz.ntmps22
  go_wp2_with fail
  go_loop [4, 5, 6] (fun bv dv iv => ∃ (i k : Nat) (B : Int), i ≤ n ∧ iv = .int .i64 (i : Nat) ∧ dv = .int .i64 (k : Nat) ∧ bv = .int .i64 B ∧ BarI ts i B k ∧ k ≤ i ∧ -1 ≤ B ∧ B < (i : Int)) (fun _ _ iv => n - (intOf iv).toNat)
  case atStart => exact ⟨0, 0, -1, Nat.zero_le _, rfl, rfl, rfl, BarI.start ts, Nat.le_refl _, by omega, by omega⟩
  case round =>
    obtain ⟨i, k, B, hin, rfl, rfl, rfl, hB, hk, hB1, hB2⟩ := hrel
    have HBI := hide hB
    clear hB
    by_cases hlt : i < n
    · have hlt' : (i : Int) < (n : Int) := by omega
      have hltt : i < ts.length := by rw [← unhide HN]; exact hlt
      obtain ⟨b, off, rfl, -, -, hel⟩ := unhide HC (by omega)
      obtain ⟨t, ht⟩ : ∃ t, ts[i]? = some t := ⟨ts[i], List.getElem?_eq_getElem hltt⟩
      have c0 : w.cell? ⟨b, off + i * 4, none⟩ = some (.int .i64 (tkE t).kind) := kind_at (fun j hj => hel j (by rw [List.length_map, ← unhide HN] at hj; exact hj)) ht
      have HT := hide ht
      have hwk : ∃ k', wl k [t] = some k' := by
        have e : ts = ts.take (i + 1) ++ ts.drop (i + 1) := (List.take_append_drop _ _).symm
        have h9 := unhide HW0
        rw [e, wl_app, take_snoc ht, wl_snoc (unhide HBI).1] at h9
        cases e9 : wl k [t] with
        | none => rw [e9] at h9; cases h9
        | some k' => exact ⟨k', rfl⟩
      clear hel ht HC hltt
      by_cases e2 : (tkE t).kind = 2
      · have et := tkE_op.1 e2
        rw [e2] at c0
        subst et
        have HB9 := hide ((unhide HBI).go (k' := k + 1) (unhide HT) rfl (fun e => by cases e))
        clear e2 hwk
        go_wp2
        go_round
        case rel => exact ⟨i + 1, k + 1, B, by omega, by go_num, by go_num, rfl, unhide HB9, by omega, hB1, by omega⟩
        case measure => simp [intOf]; omega
      by_cases e3 : (tkE t).kind = 3
      · have et := tkE_cl.1 e3
        rw [e3] at c0
        subst et
        clear e2 e3
        cases k with
        | zero => obtain ⟨k', h⟩ := hwk; cases h
        | succ k =>
          have HB9 := hide ((unhide HBI).go (k' := k) (unhide HT) rfl (fun e => by cases e))
          clear hwk
          go_wp2
          go_round
          case rel => exact ⟨i + 1, k, B, by omega, by go_num, by go_num, rfl, unhide HB9, by omega, hB1, by omega⟩
          case measure => simp [intOf]; omega
      by_cases e4 : (tkE t).kind = 4
      · have et := tkE_bar.1 e4
        rw [e4] at c0
        subst et
        clear e2 e3 e4 hwk
        by_cases k0 : k = 0
        · subst k0
          have HB9 := hide ((unhide HBI).bar (unhide HT))
          go_wp2
          go_round
          case rel => exact ⟨i + 1, 0, (i : Nat), by omega, by go_num, rfl, rfl, unhide HB9, by omega, by omega, by omega⟩
          case measure => simp [intOf]; omega
        · have k1 : ((k : Int) == 0) = false := by simp; omega
          have HB9 := hide ((unhide HBI).go (k' := k) (unhide HT) rfl (fun _ => k0))
          clear k0
          go_wp2
          go_round
          case rel => exact ⟨i + 1, k, B, by omega, by go_num, rfl, rfl, unhide HB9, by omega, hB1, by omega⟩
          case measure => simp [intOf]; omega
      · have hoth : wl k [t] = some k := by
          rcases t with cs | ⟨lo, hi⟩ | (_ | _) | _
          · rfl
          · rfl
          · exact absurd rfl e3
          · exact absurd rfl e2
          · exact absurd rfl e4
        have HB9 := hide ((unhide HBI).go (unhide HT) hoth (fun e => absurd (tkE_bar.2 e) e4))
        obtain ⟨kd, hkd⟩ : ∃ kd, kd = (tkE t).kind := ⟨_, rfl⟩
        rw [← hkd] at e2 e3 e4 c0
        clear hkd hwk hoth
        have e4' : (kd == 4) = false := by simp [e4]
        go_wp2
        go_round
        case rel => exact ⟨i + 1, k, B, by omega, by go_num, rfl, rfl, unhide HB9, by omega, hB1, by omega⟩
        case measure => simp [intOf]; omega
    · obtain rfl : i = n := by omega
      have hBI := unhide HBI
      rw [unhide HN] at hBI
      clear HBI
      have hlt' : ¬ (i : Int) < (i : Int) := by omega
      obtain rfl : B = -1 := hBI.no hnb
      have HX := hide (bad_rep hts hnb hb)
      obtain ⟨E, hE⟩ : ∃ E, E = body.length := ⟨_, rfl⟩
      have hiE : i = E + 1 := by rw [unhide HN, hts, hE]; simp
      have eN : (i : Int) - 1 = (E : Int) := by omega
      obtain ⟨b, off, rfl, -, -, hel⟩ := unhide HC (by omega)
      have htE : ts[E]? = some (.inr (.inl (lo, hi))) := by rw [hts, hE, List.getElem?_append_right (Nat.le_refl _)]; simp
      obtain ⟨-, -, -, sv9, c0, -⟩ := el_at (unhide HN) hel htE
      have c00 : w.cell? ⟨b, off + E * 4, none⟩ = some (.int .i64 5) := c0
      have hE1 : (0 : Int) ≤ (E : Int) := by omega
      have hE2 : (E : Int) < (i : Int) := by omega
      have h1i : (0 : Int) < (i : Int) := by omega
      have hni : ((i : Int) == 0) = false := by simp; omega
      rcases hb with h0 | ⟨pre, l9, h9, hb⟩
      · have hE0 : E = 0 := by rw [hE, h0]; rfl
        have E0 : ((E : Int) == 0) = true := by rw [hE0]; rfl
        clear hBI hel c0 hE0 hE hiE htE HC h0 hlt hlt' hk hin hts
        go_wp2
        go_ret2
        exact ⟨Below.refl _ _, .inl ⟨unhide HX, rfl⟩⟩
      · obtain ⟨S, hS⟩ : ∃ S, S = pre.length := ⟨_, rfl⟩
        have hES : E = S + 1 := by rw [hE, hb, hS]; simp
        have E0 : ((E : Int) == 0) = false := by simp; omega
        have e1 : (E : Int) - 1 = (S : Int) := by omega
        have htS : ts[S]? = some (.inr (.inl (l9, h9))) := by rw [hts, hb, hS, List.append_assoc, List.getElem?_append_right (Nat.le_refl _)]; simp
        obtain ⟨-, -, -, sv8, c1, -⟩ := el_at (unhide HN) hel htS
        have c10 : w.cell? ⟨b, off + S * 4, none⟩ = some (.int .i64 5) := c1
        have hS1 : (0 : Int) ≤ (S : Int) := by omega
        have hS2 : (S : Int) < (i : Int) := by omega
        clear hBI hel c0 c1 hE hiE htE htS HC hES hS hb hlt hlt' hk hin hts
        go_wp2
        go_ret2
        exact ⟨Below.refl _ _, .inl ⟨unhide HX, rfl⟩⟩
set_option maxHeartbeats 16000000 in
set_option maxRecDepth 100000 in
theorem bd_set (ts : List Tk) (hl : ts.length ≤ 100000) (hw : wl 0 ts = some 0) (pre : List Tk) (cs : List Int) (hts : ts = pre ++ [.inl cs]) (hnb : NoBar ts) (Hp : BdS pre) (hNt : ∀ t ∈ ts, TokN t) : BdS ts := by
  intro v w hv
  have hv0 := hv
  obtain ⟨a, cp, rfl, hcap, hc⟩ := hv
  rw [List.length_map] at hcap hc hv0 ⊢
  obtain ⟨n, hn⟩ : ∃ n, n = ts.length := ⟨_, rfl⟩
  rw [← hn] at hcap hc hv0 hl ⊢
  have HN := hide hn
  have HV := hide hv0
  have HC := hide hc
  have HW0 := hide hw
  unfold maxLen at hcap
  clear hc hv0 hw hn
  go_enter Tryz.func22, Tryz.ntmps22
  go_wp2_with fail
  go_loop [4, 5, 6] (fun bv dv iv => ∃ (i k : Nat) (B : Int), i ≤ n ∧ iv = .int .i64 (i : Nat) ∧ dv = .int .i64 (k : Nat) ∧ bv = .int .i64 B ∧ BarI ts i B k ∧ k ≤ i ∧ -1 ≤ B ∧ B < (i : Int)) (fun _ _ iv => n - (intOf iv).toNat)
  case atStart => exact ⟨0, 0, -1, Nat.zero_le _, rfl, rfl, rfl, BarI.start ts, Nat.le_refl _, by omega, by omega⟩
  case round =>
    obtain ⟨i, k, B, hin, rfl, rfl, rfl, hB, hk, hB1, hB2⟩ := hrel
    have HBI := hide hB
    clear hB
    by_cases hlt : i < n
    · have hlt' : (i : Int) < (n : Int) := by omega
      have hltt : i < ts.length := by rw [← unhide HN]; exact hlt
      obtain ⟨b, off, rfl, -, -, hel⟩ := unhide HC (by omega)
      obtain ⟨t, ht⟩ : ∃ t, ts[i]? = some t := ⟨ts[i], List.getElem?_eq_getElem hltt⟩
      have c0 : w.cell? ⟨b, off + i * 4, none⟩ = some (.int .i64 (tkE t).kind) := kind_at (fun j hj => hel j (by rw [List.length_map, ← unhide HN] at hj; exact hj)) ht
      have HT := hide ht
      have hwk : ∃ k', wl k [t] = some k' := by
        have e : ts = ts.take (i + 1) ++ ts.drop (i + 1) := (List.take_append_drop _ _).symm
        have h9 := unhide HW0
        rw [e, wl_app, take_snoc ht, wl_snoc (unhide HBI).1] at h9
        cases e9 : wl k [t] with
        | none => rw [e9] at h9; cases h9
        | some k' => exact ⟨k', rfl⟩
      clear hel ht HC hltt
      by_cases e2 : (tkE t).kind = 2
      · have et := tkE_op.1 e2
        rw [e2] at c0
        subst et
        have HB9 := hide ((unhide HBI).go (k' := k + 1) (unhide HT) rfl (fun e => by cases e))
        clear e2 hwk
        go_wp2
        go_round
        case rel => exact ⟨i + 1, k + 1, B, by omega, by go_num, by go_num, rfl, unhide HB9, by omega, hB1, by omega⟩
        case measure => simp [intOf]; omega
      by_cases e3 : (tkE t).kind = 3
      · have et := tkE_cl.1 e3
        rw [e3] at c0
        subst et
        clear e2 e3
        cases k with
        | zero => obtain ⟨k', h⟩ := hwk; cases h
        | succ k =>
          have HB9 := hide ((unhide HBI).go (k' := k) (unhide HT) rfl (fun e => by cases e))
          clear hwk
          go_wp2
          go_round
          case rel => exact ⟨i + 1, k, B, by omega, by go_num, by go_num, rfl, unhide HB9, by omega, hB1, by omega⟩
          case measure => simp [intOf]; omega
      by_cases e4 : (tkE t).kind = 4
      · have et := tkE_bar.1 e4
        rw [e4] at c0
        subst et
        clear e2 e3 e4 hwk
        by_cases k0 : k = 0
        · subst k0
          have HB9 := hide ((unhide HBI).bar (unhide HT))
          go_wp2
          go_round
          case rel => exact ⟨i + 1, 0, (i : Nat), by omega, by go_num, rfl, rfl, unhide HB9, by omega, by omega, by omega⟩
          case measure => simp [intOf]; omega
        · have k1 : ((k : Int) == 0) = false := by simp; omega
          have HB9 := hide ((unhide HBI).go (k' := k) (unhide HT) rfl (fun _ => k0))
          clear k0
          go_wp2
          go_round
          case rel => exact ⟨i + 1, k, B, by omega, by go_num, rfl, rfl, unhide HB9, by omega, hB1, by omega⟩
          case measure => simp [intOf]; omega
      · have hoth : wl k [t] = some k := by
          rcases t with cs | ⟨lo, hi⟩ | (_ | _) | _
          · rfl
          · rfl
          · exact absurd rfl e3
          · exact absurd rfl e2
          · exact absurd rfl e4
        have HB9 := hide ((unhide HBI).go (unhide HT) hoth (fun e => absurd (tkE_bar.2 e) e4))
        obtain ⟨kd, hkd⟩ : ∃ kd, kd = (tkE t).kind := ⟨_, rfl⟩
        rw [← hkd] at e2 e3 e4 c0
        clear hkd hwk hoth
        have e4' : (kd == 4) = false := by simp [e4]
        go_wp2
        go_round
        case rel => exact ⟨i + 1, k, B, by omega, by go_num, rfl, rfl, unhide HB9, by omega, hB1, by omega⟩
        case measure => simp [intOf]; omega
    · obtain rfl : i = n := by omega
      have hBI := unhide HBI
      rw [unhide HN] at hBI
      clear HBI
      have hlt' : ¬ (i : Int) < (i : Int) := by omega
      obtain rfl : B = -1 := hBI.no hnb
      obtain ⟨p, hp⟩ : ∃ p, p = pre.length := ⟨_, rfl⟩
      obtain ⟨S, hS⟩ : ∃ S, S = p := ⟨_, rfl⟩
      have hiE : i = S + 1 := by rw [unhide HN, hts, hS, hp]; simp; try omega
      have e1 : (i : Int) - 1 = (S : Int) := by omega
      have h1i : (0 : Int) < (i : Int) := by omega
      have hni : ((i : Int) == 0) = false := by simp; omega
      have hS1 : (0 : Int) ≤ (S : Int) := by omega
      have hS2 : (S : Int) < (i : Int) := by omega
      have hpS : p ≤ S := by omega
      obtain ⟨b, off, rfl, -, hbw, hel⟩ := unhide HC (by omega)
      have htS : ts[S]? = some (.inl cs) := by
        rw [hts, hS, hp]
        rw [List.getElem?_append_right (Nat.le_refl _)]
        simp
      obtain ⟨-, -, -, sv8, c1, c2, -, -, hints⟩ := el_at (unhide HN) hel htS
      have c10 : w.cell? ⟨b, off + S * 4, none⟩ = some (.int .i64 1) := c1
      have HKEY := hide (key_0 hts hnb (.inl ⟨cs, rfl⟩))
      have HVP : Hid (ElsAt 0 w.heap.size w (.slice (some ⟨b, off, none⟩) p cp) (pre.map tkE)) := by
        show ElsAt _ _ _ _ _
        have h9 := unhide HV
        rw [hts, List.map_append] at h9
        have h8 := h9.pre
        rw [List.length_map, ← hp] at h8
        exact h8
      have HNP : Hid (∀ t ∈ pre, TokN t) := fun t ht => hNt t (by rw [hts]; simp [ht])
      have HLP : Hid (pre.length ≤ 100000) := by show _ ≤ _; rw [← hp]; omega
      have HP := hide hp
      have HSP := hide Hp
      have hpi : (p : Int) ≤ (i : Int) := by omega
      have hicp : (i : Int) ≤ (cp : Int) := by omega
      have HGX : Hid (Gr 0 [.inl cs] (.s cs)) := .set cs
      have hcn : Canon cs := hNt (.inl cs) (by rw [hts]; simp)
      have HNC : Hid (Nice (Tr.s cs).l) := nice_canon hcn
      have hsl := ints_slAt hints
      obtain ⟨sa, sc, e9, -, -⟩ := id hsl
      have e9' : sv8 = .slice sa cs.length sc := e9
      subst e9'
      have hcl : cs.length ≤ 1048576 := by have h9 := (unhide HNC).len 0; exact h9
      have HSET := hide (l1set_w _ cs w hsl hcl)
      have c20 : w.cell? ⟨b, off + S * 4 + 1, none⟩ = some (.slice sa cs.length sc) := c2
      obtain ⟨zc, hzc⟩ : ∃ zc, zc = cs.length := ⟨_, rfl⟩
      rw [← hzc] at HSET c20
      clear hBI hel c1 c2 htS HC hiE hlt hlt' hk hin hts hints hsl hcn hzc hcl hnb Hp hNt hp
      obtain rfl : p = S := hS.symm
      go_wp2_with fail
      refine (unhide HSET).mono ?_
      rintro e w1 ⟨v1, rfl, hg1, hb1⟩
      obtain ⟨X, hX⟩ : ∃ X, X = Tr.s cs := ⟨_, rfl⟩
      have hg1' : GrowE w.heap.size w1 v1 X.l := by rw [hX]; exact hg1
      rw [← hX] at HNC HGX
      obtain ⟨o1, d1, rfl⟩ := hg1'.form
      obtain ⟨nX, hnX⟩ : ∃ nX, nX = X.l.length := ⟨_, rfl⟩
      rw [← hnX] at hg1' ⊢
      have HNX0 := hide hnX
      have HLX0 : Hid (X.l.length ≤ 300000) := by show _ ≤ _; rw [hX]; simp [Tr.s]
      have HG1 := hide hg1'
      have HB1 := hide hb1
      clear hg1 hg1' hb1 hnX hX HSET
      have HNX := hide (unhide HNX0)
      have HLX := hide (unhide HLX0)
      have hz8 := (unhide HB1).size
      by_cases p0 : p = 0
      · have p0' : ((p : Int) == 0) = true := by simp; omega
        have HT : Hid (Gr 3 ts (X)) := (unhide HKEY _).2 ⟨_, unhide HGX, .inl ⟨List.eq_nil_of_length_eq_zero (by rw [← unhide HP]; exact p0), rfl⟩⟩
        clear p0
        go_wp2
        go_ret2
        exact ⟨unhide HB1, .inr ⟨X, _, unhide HT, rfl, unhide HG1⟩⟩
      · have p0' : ((p : Int) == 0) = false := by simp; omega
        have HP0 : Hid (pre ≠ []) := fun e => p0 (by rw [unhide HP, e]; rfl)
        have HSPW := hide (unhide HSP _ w1 ((unhide HVP).below (unhide HB1) (Nat.le_refl _)))
        clear p0
        go_wp2_with fail
        refine (unhide HSPW).mono ?_
        rintro e w8 ⟨hb8, ⟨hn8, rfl⟩ | ⟨A, v8, hA, rfl, hg8⟩⟩
        · have HX : Hid (∀ T, ¬ Gr 3 ts T) := fun T h => by
            obtain ⟨X9, -, ⟨h9, -⟩ | ⟨-, A, hA, -⟩⟩ := (unhide HKEY T).1 h
            · exact unhide HP0 h9
            · exact hn8 A hA
          have HB8 := hide ((unhide HB1).trans (hb8.mono hz8))
          clear hn8 hb8 HSPW
          go_wp2
          go_ret2
          exact ⟨unhide HB8, .inl ⟨unhide HX, rfl⟩⟩
        · obtain ⟨o8, d8, rfl⟩ := hg8.form
          have HB8 := hide ((unhide HB1).trans (hb8.mono hz8))
          have HT : Hid (Gr 3 ts (.cat A (X))) := (unhide HKEY _).2 ⟨_, unhide HGX, .inr ⟨unhide HP0, A, hA, rfl⟩⟩
          have hLA := (gr_len hA).2
          have hNA := gr_nice hA (unhide HNP)
          have hEA := hg8.els hNA
          have hEX := ((unhide HG1).els (unhide HNC)).below hb8 (Nat.le_refl _)
          have hlX := unhide HLX
          have hlP := unhide HLP
          have HCAT := hide (l1cat_w _ _ A.l (X).l w8 hEA hEX (by omega) (by omega) hNA.len (unhide HNC).len)
          obtain ⟨nA, hnA⟩ : ∃ nA, nA = A.l.length := ⟨_, rfl⟩
          rw [← hnA] at HCAT ⊢
          have hz9 := (unhide HB8).size
          clear hg8 hb8 hA hLA hNA hEA hEX hlX hlP hnA HSPW
          go_wp2_with fail
          refine (unhide HCAT).mono ?_
          rintro e w9 ⟨v9, rfl, hg9, hb9⟩
          obtain ⟨o9, d9, rfl⟩ := hg9.form
          have HG9 := hide (hg9.low hz9)
          have HB9 := hide ((unhide HB8).trans (hb9.mono hz9))
          obtain ⟨nC, hnC⟩ : ∃ nC, nC = (A.l ++ (X).l ++ [(⟨2, [], 0, 0⟩ : El)]).length := ⟨_, rfl⟩
          rw [← hnC] at HG9 ⊢
          clear hg9 hb9 hnC HCAT
          go_wp2
          go_ret2
          exact ⟨unhide HB9, .inr ⟨.cat A (X), _, unhide HT, rfl, unhide HG9⟩⟩
set_option maxHeartbeats 16000000 in
set_option maxRecDepth 100000 in
theorem bd_set_rep (ts : List Tk) (hl : ts.length ≤ 100000) (hw : wl 0 ts = some 0) (pre : List Tk) (cs : List Int) (lo hi : Int) (hts : ts = pre ++ [.inl cs] ++ [.inr (.inl (lo, hi))]) (hnb : NoBar ts) (Hp : BdS pre) (hNt : ∀ t ∈ ts, TokN t) : BdS ts := by
  intro v w hv
  have hv0 := hv
  obtain ⟨a, cp, rfl, hcap, hc⟩ := hv
  rw [List.length_map] at hcap hc hv0 ⊢
  obtain ⟨n, hn⟩ : ∃ n, n = ts.length := ⟨_, rfl⟩
  rw [← hn] at hcap hc hv0 hl ⊢
  have HN := hide hn
  have HV := hide hv0
  have HC := hide hc
  have HW0 := hide hw
  unfold maxLen at hcap
  clear hc hv0 hw hn
  go_enter Tryz.func22, Tryz.ntmps22
  go_wp2_with fail
  go_loop [4, 5, 6] (fun bv dv iv => ∃ (i k : Nat) (B : Int), i ≤ n ∧ iv = .int .i64 (i : Nat) ∧ dv = .int .i64 (k : Nat) ∧ bv = .int .i64 B ∧ BarI ts i B k ∧ k ≤ i ∧ -1 ≤ B ∧ B < (i : Int)) (fun _ _ iv => n - (intOf iv).toNat)
  case atStart => exact ⟨0, 0, -1, Nat.zero_le _, rfl, rfl, rfl, BarI.start ts, Nat.le_refl _, by omega, by omega⟩
  case round =>
    obtain ⟨i, k, B, hin, rfl, rfl, rfl, hB, hk, hB1, hB2⟩ := hrel
    have HBI := hide hB
    clear hB
    by_cases hlt : i < n
    · have hlt' : (i : Int) < (n : Int) := by omega
      have hltt : i < ts.length := by rw [← unhide HN]; exact hlt
      obtain ⟨b, off, rfl, -, -, hel⟩ := unhide HC (by omega)
      obtain ⟨t, ht⟩ : ∃ t, ts[i]? = some t := ⟨ts[i], List.getElem?_eq_getElem hltt⟩
      have c0 : w.cell? ⟨b, off + i * 4, none⟩ = some (.int .i64 (tkE t).kind) := kind_at (fun j hj => hel j (by rw [List.length_map, ← unhide HN] at hj; exact hj)) ht
      have HT := hide ht
      have hwk : ∃ k', wl k [t] = some k' := by
        have e : ts = ts.take (i + 1) ++ ts.drop (i + 1) := (List.take_append_drop _ _).symm
        have h9 := unhide HW0
        rw [e, wl_app, take_snoc ht, wl_snoc (unhide HBI).1] at h9
        cases e9 : wl k [t] with
        | none => rw [e9] at h9; cases h9
        | some k' => exact ⟨k', rfl⟩
      clear hel ht HC hltt
      by_cases e2 : (tkE t).kind = 2
      · have et := tkE_op.1 e2
        rw [e2] at c0
        subst et
        have HB9 := hide ((unhide HBI).go (k' := k + 1) (unhide HT) rfl (fun e => by cases e))
        clear e2 hwk
        go_wp2
        go_round
        case rel => exact ⟨i + 1, k + 1, B, by omega, by go_num, by go_num, rfl, unhide HB9, by omega, hB1, by omega⟩
        case measure => simp [intOf]; omega
      by_cases e3 : (tkE t).kind = 3
      · have et := tkE_cl.1 e3
        rw [e3] at c0
        subst et
        clear e2 e3
        cases k with
        | zero => obtain ⟨k', h⟩ := hwk; cases h
        | succ k =>
          have HB9 := hide ((unhide HBI).go (k' := k) (unhide HT) rfl (fun e => by cases e))
          clear hwk
          go_wp2
          go_round
          case rel => exact ⟨i + 1, k, B, by omega, by go_num, by go_num, rfl, unhide HB9, by omega, hB1, by omega⟩
          case measure => simp [intOf]; omega
      by_cases e4 : (tkE t).kind = 4
      · have et := tkE_bar.1 e4
        rw [e4] at c0
        subst et
        clear e2 e3 e4 hwk
        by_cases k0 : k = 0
        · subst k0
          have HB9 := hide ((unhide HBI).bar (unhide HT))
          go_wp2
          go_round
          case rel => exact ⟨i + 1, 0, (i : Nat), by omega, by go_num, rfl, rfl, unhide HB9, by omega, by omega, by omega⟩
          case measure => simp [intOf]; omega
        · have k1 : ((k : Int) == 0) = false := by simp; omega
          have HB9 := hide ((unhide HBI).go (k' := k) (unhide HT) rfl (fun _ => k0))
          clear k0
          go_wp2
          go_round
          case rel => exact ⟨i + 1, k, B, by omega, by go_num, rfl, rfl, unhide HB9, by omega, hB1, by omega⟩
          case measure => simp [intOf]; omega
      · have hoth : wl k [t] = some k := by
          rcases t with cs | ⟨lo, hi⟩ | (_ | _) | _
          · rfl
          · rfl
          · exact absurd rfl e3
          · exact absurd rfl e2
          · exact absurd rfl e4
        have HB9 := hide ((unhide HBI).go (unhide HT) hoth (fun e => absurd (tkE_bar.2 e) e4))
        obtain ⟨kd, hkd⟩ : ∃ kd, kd = (tkE t).kind := ⟨_, rfl⟩
        rw [← hkd] at e2 e3 e4 c0
        clear hkd hwk hoth
        have e4' : (kd == 4) = false := by simp [e4]
        go_wp2
        go_round
        case rel => exact ⟨i + 1, k, B, by omega, by go_num, rfl, rfl, unhide HB9, by omega, hB1, by omega⟩
        case measure => simp [intOf]; omega
    · obtain rfl : i = n := by omega
      have hBI := unhide HBI
      rw [unhide HN] at hBI
      clear HBI
      have hlt' : ¬ (i : Int) < (i : Int) := by omega
      obtain rfl : B = -1 := hBI.no hnb
      obtain ⟨p, hp⟩ : ∃ p, p = pre.length := ⟨_, rfl⟩
      obtain ⟨S, hS⟩ : ∃ S, S = p := ⟨_, rfl⟩
      have hiE : i = S + 2 := by rw [unhide HN, hts, hS, hp]; simp; try omega
      obtain ⟨E, hE⟩ : ∃ E, E = S + 1 := ⟨_, rfl⟩
      have eN : (i : Int) - 1 = (E : Int) := by omega
      have e1 : (E : Int) - 1 = (S : Int) := by omega
      have hE1 : (0 : Int) ≤ (E : Int) := by omega
      have hE2 : (E : Int) < (i : Int) := by omega
      have E0 : ((E : Int) == 0) = false := by simp; omega
      have h1i : (0 : Int) < (i : Int) := by omega
      have hni : ((i : Int) == 0) = false := by simp; omega
      have hS1 : (0 : Int) ≤ (S : Int) := by omega
      have hS2 : (S : Int) < (i : Int) := by omega
      have hpS : p ≤ S := by omega
      obtain ⟨b, off, rfl, -, hbw, hel⟩ := unhide HC (by omega)
      have htS : ts[S]? = some (.inl cs) := by
        rw [hts, hS, hp]
        rw [List.append_assoc, List.getElem?_append_right (Nat.le_refl _)]
        simp
      obtain ⟨-, -, -, sv8, c1, c2, -, -, hints⟩ := el_at (unhide HN) hel htS
      have c10 : w.cell? ⟨b, off + S * 4, none⟩ = some (.int .i64 1) := c1
      have htE : ts[E]? = some (.inr (.inl (lo, hi))) := by
        rw [hts, hE, hS, hp, List.getElem?_append_right (by simp; try omega)]
        simp
      obtain ⟨-, -, -, sv9, d0, -, d2, d3, -⟩ := el_at (unhide HN) hel htE
      have d00 : w.cell? ⟨b, off + E * 4, none⟩ = some (.int .i64 5) := d0
      have HE2 : Hid (w.cell? ⟨b, off + E * 4 + 2, none⟩ = some (.int .i64 lo)) := d2
      have HE3 : Hid (w.cell? ⟨b, off + E * 4 + 3, none⟩ = some (.int .i64 hi)) := d3
      obtain ⟨⟨q1, q2⟩, q3, q4⟩ : (0 ≤ lo ∧ lo ≤ 9999) ∧ (-1 ≤ hi ∧ hi ≤ 9999) := hNt (.inr (.inl (lo, hi))) (by rw [hts]; simp)
      have HLO : Hid (In64 lo) := ⟨by omega, by omega⟩
      have HHI : Hid (In64 hi) := ⟨by omega, by omega⟩
      have HKEY := hide (key_1 hts hnb (.inl ⟨cs, rfl⟩))
      have HVP : Hid (ElsAt 0 w.heap.size w (.slice (some ⟨b, off, none⟩) p cp) (pre.map tkE)) := by
        show ElsAt _ _ _ _ _
        have h9 := unhide HV
        rw [hts, List.append_assoc, List.map_append] at h9
        have h8 := h9.pre
        rw [List.length_map, ← hp] at h8
        exact h8
      have HNP : Hid (∀ t ∈ pre, TokN t) := fun t ht => hNt t (by rw [hts]; simp [ht])
      have HLP : Hid (pre.length ≤ 100000) := by show _ ≤ _; rw [← hp]; omega
      have HP := hide hp
      have HSP := hide Hp
      have hpi : (p : Int) ≤ (i : Int) := by omega
      have hicp : (i : Int) ≤ (cp : Int) := by omega
      have HGX : Hid (Gr 0 [.inl cs] (.s cs)) := .set cs
      have hcn : Canon cs := hNt (.inl cs) (by rw [hts]; simp)
      have HNC : Hid (Nice (Tr.s cs).l) := nice_canon hcn
      have hsl := ints_slAt hints
      obtain ⟨sa, sc, e9, -, -⟩ := id hsl
      have e9' : sv8 = .slice sa cs.length sc := e9
      subst e9'
      have hcl : cs.length ≤ 1048576 := by have h9 := (unhide HNC).len 0; exact h9
      have HSET := hide (l1set_w _ cs w hsl hcl)
      have c20 : w.cell? ⟨b, off + S * 4 + 1, none⟩ = some (.slice sa cs.length sc) := c2
      obtain ⟨zc, hzc⟩ : ∃ zc, zc = cs.length := ⟨_, rfl⟩
      rw [← hzc] at HSET c20
      clear hBI hel c1 c2 d0 d2 d3 htE hE q1 q2 q3 q4 htS HC hiE hlt hlt' hk hin hts hints hsl hcn hzc hcl hnb Hp hNt hp
      obtain rfl : p = S := hS.symm
      go_wp2_with fail
      refine (unhide HSET).mono ?_
      rintro e w1 ⟨v1, rfl, hg1, hb1⟩
      obtain ⟨X, hX⟩ : ∃ X, X = Tr.s cs := ⟨_, rfl⟩
      have hg1' : GrowE w.heap.size w1 v1 X.l := by rw [hX]; exact hg1
      rw [← hX] at HNC HGX
      obtain ⟨o1, d1, rfl⟩ := hg1'.form
      obtain ⟨nX, hnX⟩ : ∃ nX, nX = X.l.length := ⟨_, rfl⟩
      rw [← hnX] at hg1' ⊢
      have HNX0 := hide hnX
      have HLX0 : Hid (X.l.length ≤ 300000) := by show _ ≤ _; rw [hX]; simp [Tr.s]
      have HG1 := hide hg1'
      have HB1 := hide hb1
      clear hg1 hg1' hb1 hnX hX HSET
      have y2 : w1.cell? ⟨b, off + E * 4 + 2, none⟩ = some (.int .i64 lo) := by rw [(unhide HB1).cell (p := ⟨b, off + E * 4 + 2, none⟩) hbw]; exact unhide HE2
      have y3 : w1.cell? ⟨b, off + E * 4 + 3, none⟩ = some (.int .i64 hi) := by rw [(unhide HB1).cell (p := ⟨b, off + E * 4 + 3, none⟩) hbw]; exact unhide HE3
      have hEX := ((unhide HG1).els (unhide HNC)).below (m := w1.heap.size) (w' := w1.drew) ⟨rfl, rfl, rfl, Nat.le_refl _, fun _ _ => rfl⟩ (Nat.le_refl _)
      have HREP := hide (l1rep_w lo hi _ X.l w1.drew hEX (by have := unhide HLX0; omega) (unhide HNC).len)
      have hz7 := (unhide HB1).size
      have HS7 : Hid (∀ W', Below w.heap.size w W' → W'.cell? ⟨b, off + E * 4 + 2, none⟩ = some (.int .i64 lo) ∧ W'.cell? ⟨b, off + E * 4 + 3, none⟩ = some (.int .i64 hi)) := fun W' hb => ⟨by rw [hb.cell (p := ⟨b, off + E * 4 + 2, none⟩) hbw]; exact unhide HE2, by rw [hb.cell (p := ⟨b, off + E * 4 + 3, none⟩) hbw]; exact unhide HE3⟩
      have hwr : IntKind.i64.wrap (E : Int) = (E : Int) := by rw [IntKind.wrap_i64]; omega
      clear hEX
      go_wp2
      go_region_held3 (fun W' => W'.cell? ⟨b, off + E * 4 + 2, none⟩ = some (.int .i64 lo) ∧ W'.cell? ⟨b, off + E * 4 + 3, none⟩ = some (.int .i64 hi)) (first | (with_reducible exact hS7) | go_keep) (first | (go_at_call 45; (with_reducible refine (unhide HREP).mono ?_); rintro e w7 ⟨v7, rfl, hg7, hb7⟩; obtain ⟨o7, d7, rfl⟩ := hg7.form; have HG7 : Hid (GrowE w.heap.size w7 _ (Tr.rep X lo hi).l) := hg7.low hz7; have HB7 : Hid (Below w.heap.size w w7) := (unhide HB1).trans ⟨(hb7.mono hz7).os, (hb7.mono hz7).tape, (hb7.mono hz7).output, (hb7.mono hz7).size, (hb7.mono hz7).block⟩; clear hg7 hb7; obtain ⟨nY, hnY⟩ : ∃ nY, nY = (X.l ++ [(⟨4, [], lo, hi⟩ : El)]).length := ⟨_, rfl⟩; rw [← hnY] at HG7 ⊢; have HNX : Hid (nY = (Tr.rep X lo hi).l.length) := hnY; clear hnY; have hS7 := unhide HS7 w7 (unhide HB7)))
      all_goals
        have HLX : Hid ((Tr.rep X lo hi).l.length ≤ 300001) := by show (X.l ++ [_]).length ≤ _; rw [List.length_append, List.length_singleton]; have := unhide HLX0; omega
        have HNR : Hid (Nice (Tr.rep X lo hi).l) := (unhide HNC).app (Nice.op 4 lo hi (by simp [In64]) (unhide HLO) (unhide HHI))
        clear y2 y3 HREP HS7 hwr
        try clear hS7
        have hz8 := (unhide HB7).size
        by_cases p0 : p = 0
        · have p0' : ((p : Int) == 0) = true := by simp; omega
          have HT : Hid (Gr 3 ts (Tr.rep X lo hi)) := (unhide HKEY _).2 ⟨_, unhide HGX, .inl ⟨List.eq_nil_of_length_eq_zero (by rw [← unhide HP]; exact p0), rfl⟩⟩
          clear p0
          go_wp2
          go_ret2
          exact ⟨unhide HB7, .inr ⟨Tr.rep X lo hi, _, unhide HT, rfl, unhide HG7⟩⟩
        · have p0' : ((p : Int) == 0) = false := by simp; omega
          have HP0 : Hid (pre ≠ []) := fun e => p0 (by rw [unhide HP, e]; rfl)
          have HSPW := hide (unhide HSP _ w7 ((unhide HVP).below (unhide HB7) (Nat.le_refl _)))
          clear p0
          go_wp2_with fail
          refine (unhide HSPW).mono ?_
          rintro e w8 ⟨hb8, ⟨hn8, rfl⟩ | ⟨A, v8, hA, rfl, hg8⟩⟩
          · have HX : Hid (∀ T, ¬ Gr 3 ts T) := fun T h => by
              obtain ⟨X9, -, ⟨h9, -⟩ | ⟨-, A, hA, -⟩⟩ := (unhide HKEY T).1 h
              · exact unhide HP0 h9
              · exact hn8 A hA
            have HB8 := hide ((unhide HB7).trans (hb8.mono hz8))
            clear hn8 hb8 HSPW
            go_wp2
            go_ret2
            exact ⟨unhide HB8, .inl ⟨unhide HX, rfl⟩⟩
          · obtain ⟨o8, d8, rfl⟩ := hg8.form
            have HB8 := hide ((unhide HB7).trans (hb8.mono hz8))
            have HT : Hid (Gr 3 ts (.cat A (Tr.rep X lo hi))) := (unhide HKEY _).2 ⟨_, unhide HGX, .inr ⟨unhide HP0, A, hA, rfl⟩⟩
            have hLA := (gr_len hA).2
            have hNA := gr_nice hA (unhide HNP)
            have hEA := hg8.els hNA
            have hEX := ((unhide HG7).els (unhide HNR)).below hb8 (Nat.le_refl _)
            have hlX := unhide HLX
            have hlP := unhide HLP
            have HCAT := hide (l1cat_w _ _ A.l (Tr.rep X lo hi).l w8 hEA hEX (by omega) (by omega) hNA.len (unhide HNR).len)
            obtain ⟨nA, hnA⟩ : ∃ nA, nA = A.l.length := ⟨_, rfl⟩
            rw [← hnA] at HCAT ⊢
            have hz9 := (unhide HB8).size
            clear hg8 hb8 hA hLA hNA hEA hEX hlX hlP hnA HSPW
            go_wp2_with fail
            refine (unhide HCAT).mono ?_
            rintro e w9 ⟨v9, rfl, hg9, hb9⟩
            obtain ⟨o9, d9, rfl⟩ := hg9.form
            have HG9 := hide (hg9.low hz9)
            have HB9 := hide ((unhide HB8).trans (hb9.mono hz9))
            obtain ⟨nC, hnC⟩ : ∃ nC, nC = (A.l ++ (Tr.rep X lo hi).l ++ [(⟨2, [], 0, 0⟩ : El)]).length := ⟨_, rfl⟩
            rw [← hnC] at HG9 ⊢
            clear hg9 hb9 hnC HCAT
            go_wp2
            go_ret2
            exact ⟨unhide HB9, .inr ⟨.cat A (Tr.rep X lo hi), _, unhide HT, rfl, unhide HG9⟩⟩
end Go.Proofs.YtcmofgehhdfifaaGreatDoor
