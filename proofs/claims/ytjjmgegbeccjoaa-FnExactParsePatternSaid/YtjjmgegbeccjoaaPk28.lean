import Derived.Test.YtjjmgegbeccjoaaPk27
import Derived.Test.YtjjmgegbeccjoaaPk14
namespace Go.Proofs.Ytjjmgegbeccjoaa

theorem gr_len {n : Nat} {ts : List Tk} {T : Tr} (h : Gr n ts T) : (n < 3 → T.l.length + 1 ≤ 2 * ts.length) ∧ T.l.length ≤ 2 * ts.length + 1 := by
  refine h.ind (Q := fun n ts T => (n < 3 → T.l.length + 1 ≤ 2 * ts.length) ∧ T.l.length ≤ 2 * ts.length + 1) ?_ ?_ ?_ ?_ ?_ ?_ ?_ ?_ ?_ ?_
  · intro cs; simp [Tr.s]
  · intro ts T _ ih; simp; omega
  · intro ts T _ ih; exact ⟨fun _ => ih.1 (by omega), ih.2⟩
  · intro ts T lo hi _ ih; have := ih.1 (by omega); simp [Tr.rep]; omega
  · intro ts T _ ih; exact ⟨fun _ => ih.1 (by omega), ih.2⟩
  · intro us vs A B _ _ i1 i2; have := i1.1 (by omega); have := i2.1 (by omega); simp [Tr.cat]; omega
  · simp [Tr.e]
  · intro ts T _ ih; exact ⟨fun h => absurd h (by omega), ih.2⟩
  · intro us A _ ih; have := ih.2; refine ⟨fun h => absurd h (by omega), ?_⟩; simp [Tr.alt, Tr.e]; omega
  · intro us vs A B _ _ i1 i2; have := i1.2; have := i2.1 (by omega); refine ⟨fun h => absurd h (by omega), ?_⟩; simp [Tr.alt]; omega
theorem lxs_len : ∀ {ts : List Tk} {s r : List Int}, Lxs s ts r → ts.length + r.length ≤ s.length
  | [], s, r, h => by obtain rfl : s = r := h; simp
  | t :: ts, s, r, ⟨u, h1, h2⟩ => by
    obtain ⟨p, e, hp, -⟩ := lx_loc _ _ _ h1
    have := lxs_len h2
    rw [e]
    simp
    omega
theorem prs_len {s : List Int} {T : Tr} {ts : List Tk} {b : Bool} (h : Prs s T ts b) : ts.length ≤ s.length ∧ T.l.length ≤ 2 * s.length + 1 := by
  obtain ⟨h1, h2⟩ := h
  have h3 := (gr_len h1).2
  rcases h2 with ⟨-, h2⟩ | ⟨-, s', rfl, h2⟩
  · have := lxs_len h2; simp at this; omega
  · have := lxs_len h2; simp at this ⊢; omega
/-- A token that the reader may give. -/
def TokOk : Tk → Prop
  | .inl cs => Canon cs
  | .inr (.inl (lo, hi)) => 0 ≤ lo ∧ (hi = -1 ∨ lo ≤ hi)
  | _ => True
def BytesIn (s : List Int) : Prop := ∀ x ∈ s, 0 ≤ x ∧ x ≤ 255
theorem besc_bd {s r : List Int} {v : Int} (hs : BytesIn s) (h : besc s = some (v, r)) : 0 ≤ v ∧ v ≤ 255 := by
  match s, h with
  | c :: t, h =>
    have hc := hs c (by simp)
    rw [besc] at h
    split at h
    · cases h; exact hc
    · split at h
      · cases h; omega
      · split at h
        · cases h; omega
        · split at h
          · cases h; omega
          · split at h
            · match t, h with
              | a :: b :: t', h =>
                simp only [hex2] at h
                cases ha : hexv a with
                | none => rw [ha] at h; cases h
                | some u =>
                  cases hb : hexv b with
                  | none => rw [ha, hb] at h; cases h
                  | some v =>
                    rw [ha, hb] at h
                    simp at h
                    have := hexv_bd ha
                    have := hexv_bd hb
                    omega
            · cases h
theorem lx_ok {s r : List Int} {t : Tk} (hs : BytesIn s) (h : lx s = some (t, r)) : TokOk t := by
  match s, h with
  | c :: q, h =>
    have hc := hs c (by simp)
    have hq : BytesIn q := fun x hx => hs x (by simp [hx])
    rw [lx] at h
    by_cases h1 : c = 40
    · rw [if_pos h1] at h; cases h; trivial
    rw [if_neg h1] at h
    by_cases h2 : c = 41
    · rw [if_pos h2] at h; cases h; trivial
    rw [if_neg h2] at h
    by_cases h3 : c = 124
    · rw [if_pos h3] at h; cases h; trivial
    rw [if_neg h3] at h
    by_cases h4 : c = 42
    · rw [if_pos h4] at h; cases h; simp [TokOk]
    rw [if_neg h4] at h
    by_cases h5 : c = 43
    · rw [if_pos h5] at h; cases h; simp [TokOk]
    rw [if_neg h5] at h
    by_cases h6 : c = 63
    · rw [if_pos h6] at h; cases h; simp [TokOk]
    rw [if_neg h6] at h
    by_cases h7 : c = 123
    · rw [if_pos h7] at h
      cases hb : brc q with
      | none => rw [hb] at h; cases h
      | some y => rw [hb] at h; cases h; exact brc_bd (lo := y.1.1) (hi := y.1.2) (r := y.2) (by rw [hb])
    rw [if_neg h7] at h
    by_cases h8 : c = 46
    · rw [if_pos h8] at h; cases h; exact canon_dot
    rw [if_neg h8] at h
    by_cases h9 : c = 91
    · rw [if_pos h9] at h
      cases hb : cls q with
      | none => rw [hb] at h; cases h
      | some y =>
        rw [hb] at h
        cases h
        show Canon y.1
        match q, hb with
        | d :: q', hb =>
          rw [cls] at hb
          split at hb
          · cases hg : clsG (q'.length + 1) (fun _ => false) q' with
            | none => rw [hg] at hb; cases hb
            | some z => rw [hg] at hb; cases hb; exact (cnn_ok _).1
          · cases hg : clsG (q'.length + 2) (fun _ => false) (d :: q') with
            | none => rw [hg] at hb; cases hb
            | some z => rw [hg] at hb; cases hb; exact (cnn_ok _).1
    rw [if_neg h9] at h
    by_cases h10 : c = 92
    · rw [if_pos h10] at h
      cases hb : sesc q with
      | some y => rw [hb] at h; cases h; exact canon_sesc (cs := y.1) (r := y.2) (by rw [hb])
      | none =>
        rw [hb] at h
        simp only at h
        cases hd : besc q with
        | none => rw [hd] at h; cases h
        | some y =>
          rw [hd] at h
          cases h
          have := besc_bd (v := y.1) (r := y.2) hq (by rw [hd])
          exact canon_pair this.1 this.2
    rw [if_neg h10] at h
    by_cases h11 : c ∈ spcZ
    · rw [if_pos h11] at h; cases h
    · rw [if_neg h11] at h; cases h; exact canon_pair hc.1 hc.2
theorem lxs_ok : ∀ {ts : List Tk} {s r : List Int}, BytesIn s → Lxs s ts r → ∀ t ∈ ts, TokOk t
  | [], _, _, _, _ => fun t ht => by simp at ht
  | u :: ts, s, r, hs, ⟨r', h1, h2⟩ => fun t ht => by
    obtain ⟨p, e, -, -⟩ := lx_loc _ _ _ h1
    rcases List.mem_cons.1 ht with rfl | ht
    · exact lx_ok hs h1
    · exact lxs_ok (fun x hx => hs x (by rw [e]; simp [hx])) h2 t ht
theorem prs_ok {s : List Int} {T : Tr} {ts : List Tk} {b : Bool} (hs : BytesIn s) (h : Prs s T ts b) : ∀ t ∈ ts, TokOk t := by
  obtain ⟨-, h2⟩ := h
  rcases h2 with ⟨-, h2⟩ | ⟨-, s', rfl, h2⟩
  · exact lxs_ok hs h2
  · exact lxs_ok (fun x hx => hs x (by simp [hx])) h2
/-- The elements of a tree whose tokens are within the limits. -/
theorem gr_els {n : Nat} {ts : List Tk} {T : Tr} (h : Gr n ts T) : (∀ t ∈ ts, TokOk t) → (∀ t ∈ ts, bigR 250 t = false) → ∀ x ∈ T.l, ElOk x := by
  have op : ∀ {k : Int}, (k = 0 ∨ k = 2 ∨ k = 3) → ElOk ⟨k, [], 0, 0⟩ := fun {k} hk => Or.inr (Or.inl ⟨by simp; omega, rfl, rfl, rfl⟩)
  refine h.ind (Q := fun _ ts T => (∀ t ∈ ts, TokOk t) → (∀ t ∈ ts, bigR 250 t = false) → ∀ x ∈ T.l, ElOk x) ?_ ?_ ?_ ?_ ?_ ?_ ?_ ?_ ?_ ?_
  · intro cs h1 _ x hx
    obtain rfl : x = ⟨1, cs, 0, 0⟩ := by simpa [Tr.s] using hx
    exact Or.inl ⟨rfl, h1 (.inl cs) (by simp), rfl, rfl⟩
  · intro ts T _ ih h1 h2; exact ih (fun t ht => h1 t (by simp [ht])) (fun t ht => h2 t (by simp [ht]))
  · intro ts T _ ih; exact ih
  · intro ts T lo hi _ ih h1 h2 x hx
    rcases List.mem_append.1 hx with hx | hx
    · exact ih (fun t ht => h1 t (by simp [ht])) (fun t ht => h2 t (by simp [ht])) x hx
    · obtain rfl := List.mem_singleton.1 hx
      obtain ⟨a, b⟩ : 0 ≤ lo ∧ (hi = -1 ∨ lo ≤ hi) := h1 (.inr (.inl (lo, hi))) (by simp)
      have c := h2 (.inr (.inl (lo, hi))) (by simp)
      simp [bigR] at c
      exact Or.inr (Or.inr ⟨rfl, rfl, a, by show lo ≤ 250; omega, by show hi = -1 ∨ (lo ≤ hi ∧ hi ≤ 250); omega⟩)
  · intro ts T _ ih; exact ih
  · intro us vs A B _ _ i1 i2 h1 h2 x hx
    rcases List.mem_append.1 hx with hx | hx
    · rcases List.mem_append.1 hx with hx | hx
      · exact i1 (fun t ht => h1 t (by simp [ht])) (fun t ht => h2 t (by simp [ht])) x hx
      · exact i2 (fun t ht => h1 t (by simp [ht])) (fun t ht => h2 t (by simp [ht])) x hx
    · obtain rfl := List.mem_singleton.1 hx
      exact op (.inr (.inl rfl))
  · intro _ _ x hx
    obtain rfl : x = ⟨0, [], 0, 0⟩ := by simpa [Tr.e] using hx
    exact op (.inl rfl)
  · intro ts T _ ih; exact ih
  · intro us A _ ih h1 h2 x hx
    rcases List.mem_append.1 hx with hx | hx
    · rcases List.mem_append.1 hx with hx | hx
      · exact ih (fun t ht => h1 t (by simp [ht])) (fun t ht => h2 t (by simp [ht])) x hx
      · obtain rfl : x = ⟨0, [], 0, 0⟩ := by simpa [Tr.e] using hx
        exact op (.inl rfl)
    · obtain rfl := List.mem_singleton.1 hx
      exact op (.inr (.inr rfl))
  · intro us vs A B _ _ i1 i2 h1 h2 x hx
    rcases List.mem_append.1 hx with hx | hx
    · rcases List.mem_append.1 hx with hx | hx
      · exact i1 (fun t ht => h1 t (by simp [ht])) (fun t ht => h2 t (by simp [ht])) x hx
      · exact i2 (fun t ht => h1 t (by simp [ht])) (fun t ht => h2 t (by simp [ht])) x hx
    · obtain rfl := List.mem_singleton.1 hx
      exact op (.inr (.inr rfl))

open Go.RowKit

def hexI (c : Int) : Int := (hexv c).getD (-1)
set_option maxHeartbeats 2000000 in
theorem l1hexval_any (c : Int) (w : World) (h0 : 0 ≤ c) (h1 : c ≤ 255) : Calls Try.prog 46 #[.int .u8 c] w fun e w' => e = .returned (.int .i64 (hexI c)) ∧ w' = w := by
  by_cases e1 : 48 ≤ c ∧ c ≤ 57
  · have HV : Hid (hexI c = c - 48) := by show hexI c = _; unfold hexI hexv; rw [if_pos e1]; rfl
    obtain ⟨a1, a2⟩ := e1
    have hw : IntKind.u8.wrap (c - 48) = c - 48 := by rw [IntKind.wrap_u8]; omega
    go_enter Try.func46, Try.ntmps46
    go_wp2
    go_ret
    exact ⟨by rw [unhide HV]; rfl, rfl⟩
  · have n1 : ¬ 48 ≤ c ∨ ¬ c ≤ 57 := by omega
    by_cases e2 : 97 ≤ c ∧ c ≤ 102
    · have HV : Hid (hexI c = c - 97 + 10) := by show hexI c = _; unfold hexI hexv; rw [if_neg e1, if_pos e2]; rfl
      obtain ⟨a1, a2⟩ := e2
      have b1 : 48 ≤ c := by omega
      have b2 : ¬ c ≤ 57 := by omega
      have hw : IntKind.u8.wrap (c - 97) = c - 97 := by rw [IntKind.wrap_u8]; omega
      clear n1 e1
      go_enter Try.func46, Try.ntmps46
      go_wp2
      go_ret
      exact ⟨by rw [unhide HV]; rfl, rfl⟩
    · by_cases e3 : 65 ≤ c ∧ c ≤ 70
      · have HV : Hid (hexI c = c - 65 + 10) := by show hexI c = _; unfold hexI hexv; rw [if_neg e1, if_neg e2, if_pos e3]; rfl
        obtain ⟨a1, a2⟩ := e3
        have b1 : 48 ≤ c := by omega
        have b2 : ¬ c ≤ 57 := by omega
        have b3 : ¬ 97 ≤ c := by omega
        have hw : IntKind.u8.wrap (c - 65) = c - 65 := by rw [IntKind.wrap_u8]; omega
        clear n1 e1 e2
        go_enter Try.func46, Try.ntmps46
        go_wp2
        go_ret
        exact ⟨by rw [unhide HV]; rfl, rfl⟩
      · have HV : Hid (hexI c = -1) := by show hexI c = _; unfold hexI hexv; rw [if_neg e1, if_neg e2, if_neg e3]; rfl
        have hcs : ¬ 48 ≤ c ∨ (48 ≤ c ∧ ¬ c ≤ 57 ∧ ¬ 65 ≤ c) ∨ (48 ≤ c ∧ ¬ c ≤ 57 ∧ ¬ c ≤ 70 ∧ ¬ 97 ≤ c) ∨ ¬ c ≤ 102 := by omega
        clear n1 e1 e2 e3
        rcases hcs with a | ⟨a, b, d⟩ | ⟨a, b, d, f⟩ | a
        · have b1 : ¬ 97 ≤ c := by omega
          have b2 : ¬ 65 ≤ c := by omega
          go_enter Try.func46, Try.ntmps46
          go_wp2
          go_ret
          exact ⟨by rw [unhide HV]; rfl, rfl⟩
        · have b1 : ¬ 97 ≤ c := by omega
          go_enter Try.func46, Try.ntmps46
          go_wp2
          go_ret
          exact ⟨by rw [unhide HV]; rfl, rfl⟩
        · have b1 : 65 ≤ c := by omega
          go_enter Try.func46, Try.ntmps46
          go_wp2
          go_ret
          exact ⟨by rw [unhide HV]; rfl, rfl⟩
        · have b1 : 48 ≤ c := by omega
          have b2 : ¬ c ≤ 57 := by omega
          have b3 : 97 ≤ c := by omega
          have b4 : 65 ≤ c := by omega
          have b5 : ¬ c ≤ 70 := by omega
          go_enter Try.func46, Try.ntmps46
          go_wp2
          go_ret
          exact ⟨by rw [unhide HV]; rfl, rfl⟩

/-- What l1byteEsc answers at a backslash; it reads what stands behind it. -/
def BeM (e : Ending) (xs : List Int) (i : Nat) : Prop := (besc (xs.drop (i + 1)) = none ∧ e = .returned (.tuple #[.int .i64 0, .int .i64 0])) ∨ ∃ (v : Int) (n : Nat), besc (xs.drop (i + 1)) = some (v, xs.drop (i + n)) ∧ 2 ≤ n ∧ i + n ≤ xs.length ∧ 0 ≤ v ∧ v ≤ 255 ∧ e = .returned (.tuple #[.int .i64 v, .int .i64 (n : Nat)])

set_option maxHeartbeats 4000000 in
set_option maxRecDepth 100000 in
theorem l1byteEsc_any (sv : Value) (xs : List Int) (i : Nat) (w : World) (hv : SlAt mB 0 0 w.heap.size w sv xs) (hb : BytesIn xs) (hi : xs[i]? = some 92) (hl : xs.length ≤ 100000) :
    Calls Try.prog 26 #[sv, .int .i64 (i : Nat)] w fun e w' => BeM e xs i ∧ w' = w := by
  obtain ⟨a, cp, rfl, -, hc⟩ := hv
  have hlt : i < xs.length := by
    rcases Nat.lt_or_ge i xs.length with h | h
    · exact h
    · rw [List.getElem?_eq_none h] at hi; cases hi
  obtain ⟨b, off, rfl, -, -, hcell⟩ := hc (by omega)
  have x0 : w.cell? ⟨b, off + i, none⟩ = some (.int .u8 92) := by rw [hcell i hlt, hi]; rfl
  by_cases h1 : i + 1 < xs.length
  · obtain ⟨c, hce⟩ : ∃ c, c = xs[i + 1]?.getD 0 := ⟨_, rfl⟩
    have x1 : w.cell? ⟨b, off + (i + 1), none⟩ = some (.int .u8 c) := by rw [hcell (i + 1) h1, ← hce]; rfl
    have HD : Hid (xs.drop (i + 1) = c :: xs.drop (i + 1 + 1)) := by rw [hce]; exact drop_at h1
    obtain ⟨c0, c1⟩ := hb c (by rw [hce, List.getElem?_eq_getElem h1]; exact List.getElem_mem h1)
    have h1' : (i : Int) + 1 < (xs.length : Int) := by omega
    have h2' : ¬ (xs.length : Int) ≤ (i : Int) + 1 := by omega
    have h0' : (i : Int) < (xs.length : Int) := by omega
    have HS := hide (l1special_any c w c0 c1)
    have HCELL := hide hcell
    have HB := hide hb
    clear hce hcell hc hb hi
    go_enter Try.func26, Try.ntmps26
    go_wp2_with fail
    refine (unhide HS).mono ?_
    rintro e w1 ⟨hret, rfl⟩
    rcases hret.cases with ⟨rfl, hy⟩ | ⟨rfl, hy⟩
    · have HX : Hid (besc (xs.drop (i + 1)) = some (c, xs.drop (i + 2))) := by show besc _ = _; rw [unhide HD, besc, if_pos (.inl hy)]
      clear hy hret HS
      go_wp2
      go_ret2
      exact ⟨.inr ⟨c, 2, unhide HX, by omega, by omega, c0, c1, rfl⟩, rfl⟩
    · by_cases e1 : c = 45
      · have HX : Hid (besc (xs.drop (i + 1)) = some (c, xs.drop (i + 2))) := by show besc _ = _; rw [unhide HD, besc, if_pos (.inr e1)]
        subst e1
        clear hy hret HS
        go_wp2
        go_ret2
        exact ⟨.inr ⟨45, 2, unhide HX, by omega, by omega, by omega, by omega, rfl⟩, rfl⟩
      have hn0 : ¬ (c ∈ spcZ ∨ c = 45) := by rintro (k | k); exact hy k; exact e1 k
      clear hy hret HS
      by_cases e2 : c = 110
      · have HX : Hid (besc (xs.drop (i + 1)) = some (10, xs.drop (i + 2))) := by show besc _ = _; rw [unhide HD, besc, if_neg hn0, if_pos e2]
        subst e2
        clear hn0
        go_wp2
        go_ret2
        exact ⟨.inr ⟨10, 2, unhide HX, by omega, by omega, by omega, by omega, rfl⟩, rfl⟩
      by_cases e3 : c = 116
      · have HX : Hid (besc (xs.drop (i + 1)) = some (9, xs.drop (i + 2))) := by show besc _ = _; rw [unhide HD, besc, if_neg hn0, if_neg e2, if_pos e3]
        subst e3
        clear hn0
        go_wp2
        go_ret2
        exact ⟨.inr ⟨9, 2, unhide HX, by omega, by omega, by omega, by omega, rfl⟩, rfl⟩
      by_cases e4 : c = 114
      · have HX : Hid (besc (xs.drop (i + 1)) = some (13, xs.drop (i + 2))) := by show besc _ = _; rw [unhide HD, besc, if_neg hn0, if_neg e2, if_neg e3, if_pos e4]
        subst e4
        clear hn0
        go_wp2
        go_ret2
        exact ⟨.inr ⟨13, 2, unhide HX, by omega, by omega, by omega, by omega, rfl⟩, rfl⟩
      by_cases e5 : c = 120
      · have HX : Hid (besc (xs.drop (i + 1)) = hex2 (xs.drop (i + 2))) := by show besc _ = _; rw [unhide HD, besc, if_neg hn0, if_neg e2, if_neg e3, if_neg e4, if_pos e5]
        subst e5
        clear hn0
        by_cases h3 : i + 3 < xs.length
        · obtain ⟨p, hp⟩ : ∃ p, p = xs[i + 2]?.getD 0 := ⟨_, rfl⟩
          obtain ⟨r, hr⟩ : ∃ r, r = xs[i + 3]?.getD 0 := ⟨_, rfl⟩
          have x2 : w1.cell? ⟨b, off + (i + 2), none⟩ = some (.int .u8 p) := by rw [unhide HCELL (i + 2) (by omega), ← hp]; rfl
          have x3 : w1.cell? ⟨b, off + (i + 3), none⟩ = some (.int .u8 r) := by rw [unhide HCELL (i + 3) h3, ← hr]; rfl
          obtain ⟨p0, p1⟩ := unhide HB p (by rw [hp, List.getElem?_eq_getElem (show i + 2 < xs.length by omega)]; exact List.getElem_mem _)
          obtain ⟨r0, r1⟩ := unhide HB r (by rw [hr, List.getElem?_eq_getElem h3]; exact List.getElem_mem h3)
          have HY : Hid (hex2 (xs.drop (i + 2)) = (hexv p).bind fun a => (hexv r).map fun b => (a * 16 + b, xs.drop (i + 4))) := by
            show hex2 _ = _
            rw [drop_at (show i + 2 < xs.length by omega), drop_at (show i + 2 + 1 < xs.length by omega), hp, hr]
            rfl
          have HP := hide (l1hexval_any p w1 p0 p1)
          have HR := hide (l1hexval_any r w1 r0 r1)
          have h3' : (i : Int) + 3 < (xs.length : Int) := by omega
          have h4' : (i : Int) + 2 < (xs.length : Int) := by omega
          clear hp hr
          go_wp2_with fail
          refine (unhide HP).mono ?_
          rintro e w2 ⟨rfl, rfl⟩
          go_wp2_with fail
          refine (unhide HR).mono ?_
          rintro e w3 ⟨rfl, rfl⟩
          cases hvp : hexv p with
          | none =>
            have e9 : hexI p = -1 := by unfold hexI; rw [hvp]; rfl
            have HZ : Hid (besc (xs.drop (i + 1)) = none) := by show besc _ = none; rw [unhide HX, unhide HY, hvp]; rfl
            rw [e9]
            clear hvp e9 HP HR HX HY
            go_wp2
            go_ret2
            exact ⟨.inl ⟨unhide HZ, rfl⟩, rfl⟩
          | some u =>
            have e9 : hexI p = u := by unfold hexI; rw [hvp]; rfl
            obtain ⟨u0, u1⟩ := hexv_bd hvp
            rw [e9]
            cases hvr : hexv r with
            | none =>
              have e8 : hexI r = -1 := by unfold hexI; rw [hvr]; rfl
              have HZ : Hid (besc (xs.drop (i + 1)) = none) := by show besc _ = none; rw [unhide HX, unhide HY, hvp, hvr]; rfl
              rw [e8]
              clear hvp hvr e9 e8 HP HR HX HY
              go_wp2
              go_ret2
              exact ⟨.inl ⟨unhide HZ, rfl⟩, rfl⟩
            | some v =>
              have e8 : hexI r = v := by unfold hexI; rw [hvr]; rfl
              obtain ⟨v0, v1⟩ := hexv_bd hvr
              have HZ : Hid (besc (xs.drop (i + 1)) = some (u * 16 + v, xs.drop (i + 4))) := by show besc _ = _; rw [unhide HX, unhide HY, hvp, hvr]; rfl
              rw [e8]
              clear hvp hvr e9 e8 HP HR HX HY
              go_wp2
              go_ret2
              exact ⟨.inr ⟨u * 16 + v, 4, unhide HZ, by omega, by omega, by omega, by omega, rfl⟩, rfl⟩
        · have h3' : ¬ (i : Int) + 3 < (xs.length : Int) := by omega
          have HZ : Hid (besc (xs.drop (i + 1)) = none) := by
            show besc _ = none
            rw [unhide HX]
            by_cases h2 : i + 2 < xs.length
            · rw [drop_at h2, List.drop_eq_nil_of_le (by omega)]; rfl
            · rw [List.drop_eq_nil_of_le (by omega)]; rfl
          clear HX
          go_wp2
          go_ret2
          exact ⟨.inl ⟨unhide HZ, rfl⟩, rfl⟩
      have HZ : Hid (besc (xs.drop (i + 1)) = none) := by show besc _ = none; rw [unhide HD, besc, if_neg hn0, if_neg e2, if_neg e3, if_neg e4, if_neg e5]
      clear hn0
      go_wp2
      go_ret2
      exact ⟨.inl ⟨unhide HZ, rfl⟩, rfl⟩
  · have h1' : ¬ (i : Int) + 1 < (xs.length : Int) := by omega
    have h2' : (xs.length : Int) ≤ (i : Int) + 1 := by omega
    have HZ : Hid (besc (xs.drop (i + 1)) = none) := by show besc _ = none; rw [List.drop_eq_nil_of_le (by omega)]; rfl
    go_enter Try.func26, Try.ntmps26
    go_wp2
    go_ret2
    exact ⟨.inl ⟨unhide HZ, rfl⟩, rfl⟩

end Go.Proofs.Ytjjmgegbeccjoaa
