import Derived.Test.YtcmofgehhdfifaaGreatDoorPt15
namespace Go.Proofs.YtcmofgehhdfifaaGreatDoor
theorem gr_len {n : Nat} {ts : List Tk} {T : Tr} (h : Gr n ts T) : (n < 3 → T.l.length + 1 ≤ 2 * ts.length) ∧ T.l.length ≤ 2 * ts.length + 1 := by
  refine h.ind (Q := fun n ts T => (n < 3 → T.l.length + 1 ≤ 2 * ts.length) ∧ T.l.length ≤ 2 * ts.length + 1) ?_ ?_ ?_ ?_ ?_ ?_ ?_ ?_ ?_ ?_
  · intro cs; simp [Tr.s]
  · intro ts T _ ih; simp; omega
  · intro ts T _ ih; exact ⟨fun _ => ih.1 (by omega), ih.2⟩
  · intro ts T lo hi _ ih; have := ih.1 (by omega); simp [Tr.rep]; omega
  · intro ts T _ ih; exact ⟨fun _ => ih.1 (by omega), ih.2⟩
  · intro us vs A B _ _ i1 i2; have := i1.1 (by omega); have := i2.1 (by omega); simp [Tr.cat]; omega
  · simp [Tr.e]
  · intro ts T _ ih; exact ⟨fun h => absurd h (by omega), ih.2⟩
  · intro us A _ ih; have := ih.2; refine ⟨fun h => absurd h (by omega), ?_⟩; simp [Tr.alt, Tr.e]; omega
  · intro us vs A B _ _ i1 i2; have := i1.2; have := i2.1 (by omega); refine ⟨fun h => absurd h (by omega), ?_⟩; simp [Tr.alt]; omega
theorem lxs_len : ∀ {ts : List Tk} {s r : List Int}, Lxs s ts r → ts.length + r.length ≤ s.length
  | [], s, r, h => by obtain rfl : s = r := h; simp
  | t :: ts, s, r, ⟨u, h1, h2⟩ => by
    obtain ⟨p, e, hp, -⟩ := lx_loc _ _ _ h1
    have := lxs_len h2
    rw [e]
    simp
    omega
theorem prs_len {s : List Int} {T : Tr} {ts : List Tk} {b : Bool} (h : Prs s T ts b) : ts.length ≤ s.length ∧ T.l.length ≤ 2 * s.length + 1 := by
  obtain ⟨h1, h2⟩ := h
  have h3 := (gr_len h1).2
  rcases h2 with ⟨-, h2⟩ | ⟨-, s', rfl, h2⟩
  · have := lxs_len h2; simp at this; omega
  · have := lxs_len h2; simp at this ⊢; omega
def TokOk : Tk → Prop
  | .inl cs => Canon cs
  | .inr (.inl (lo, hi)) => 0 ≤ lo ∧ (hi = -1 ∨ lo ≤ hi)
  | _ => True
def BytesIn (s : List Int) : Prop := ∀ x ∈ s, 0 ≤ x ∧ x ≤ 255
theorem besc_bd {s r : List Int} {v : Int} (hs : BytesIn s) (h : besc s = some (v, r)) : 0 ≤ v ∧ v ≤ 255 := by
  match s, h with
  | c :: t, h =>
    have hc := hs c (by simp)
    rw [besc] at h
    split at h
    · cases h; exact hc
    · split at h
      · cases h; omega
      · split at h
        · cases h; omega
        · split at h
          · cases h; omega
          · split at h
            · match t, h with
              | a :: b :: t', h =>
                simp only [hex2] at h
                cases ha : hexv a with
                | none => rw [ha] at h; cases h
                | some u =>
                  cases hb : hexv b with
                  | none => rw [ha, hb] at h; cases h
                  | some v =>
                    rw [ha, hb] at h
                    simp at h
                    have := hexv_bd ha
                    have := hexv_bd hb
                    omega
            · cases h
theorem lx_ok {s r : List Int} {t : Tk} (hs : BytesIn s) (h : lx s = some (t, r)) : TokOk t := by
  match s, h with
  | c :: q, h =>
    have hc := hs c (by simp)
    have hq : BytesIn q := fun x hx => hs x (by simp [hx])
    rw [lx] at h
    by_cases h1 : c = 40
    · rw [if_pos h1] at h; cases h; trivial
    rw [if_neg h1] at h
    by_cases h2 : c = 41
    · rw [if_pos h2] at h; cases h; trivial
    rw [if_neg h2] at h
    by_cases h3 : c = 124
    · rw [if_pos h3] at h; cases h; trivial
    rw [if_neg h3] at h
    by_cases h4 : c = 42
    · rw [if_pos h4] at h; cases h; simp [TokOk]
    rw [if_neg h4] at h
    by_cases h5 : c = 43
    · rw [if_pos h5] at h; cases h; simp [TokOk]
    rw [if_neg h5] at h
    by_cases h6 : c = 63
    · rw [if_pos h6] at h; cases h; simp [TokOk]
    rw [if_neg h6] at h
    by_cases h7 : c = 123
    · rw [if_pos h7] at h
      cases hb : brc q with
      | none => rw [hb] at h; cases h
      | some y => rw [hb] at h; cases h; exact brc_bd (lo := y.1.1) (hi := y.1.2) (r := y.2) (by rw [hb])
    rw [if_neg h7] at h
    by_cases h8 : c = 46
    · rw [if_pos h8] at h; cases h; exact canon_dot
    rw [if_neg h8] at h
    by_cases h9 : c = 91
    · rw [if_pos h9] at h
      cases hb : cls q with
      | none => rw [hb] at h; cases h
      | some y =>
        rw [hb] at h
        cases h
        show Canon y.1
        match q, hb with
        | d :: q', hb =>
          rw [cls] at hb
          split at hb
          · cases hg : clsG (q'.length + 1) (fun _ => false) q' with
            | none => rw [hg] at hb; cases hb
            | some z => rw [hg] at hb; cases hb; exact (cnn_ok _).1
          · cases hg : clsG (q'.length + 2) (fun _ => false) (d :: q') with
            | none => rw [hg] at hb; cases hb
            | some z => rw [hg] at hb; cases hb; exact (cnn_ok _).1
    rw [if_neg h9] at h
    by_cases h10 : c = 92
    · rw [if_pos h10] at h
      cases hb : sesc q with
      | some y => rw [hb] at h; cases h; exact canon_sesc (cs := y.1) (r := y.2) (by rw [hb])
      | none =>
        rw [hb] at h
        simp only at h
        cases hd : besc q with
        | none => rw [hd] at h; cases h
        | some y =>
          rw [hd] at h
          cases h
          have := besc_bd (v := y.1) (r := y.2) hq (by rw [hd])
          exact canon_pair this.1 this.2
    rw [if_neg h10] at h
    by_cases h11 : c ∈ spcZ
    · rw [if_pos h11] at h; cases h
    · rw [if_neg h11] at h; cases h; exact canon_pair hc.1 hc.2
theorem lxs_ok : ∀ {ts : List Tk} {s r : List Int}, BytesIn s → Lxs s ts r → ∀ t ∈ ts, TokOk t
  | [], _, _, _, _ => fun t ht => by simp at ht
  | u :: ts, s, r, hs, ⟨r', h1, h2⟩ => fun t ht => by
    obtain ⟨p, e, -, -⟩ := lx_loc _ _ _ h1
    rcases List.mem_cons.1 ht with rfl | ht
    · exact lx_ok hs h1
    · exact lxs_ok (fun x hx => hs x (by rw [e]; simp [hx])) h2 t ht
end Go.Proofs.YtcmofgehhdfifaaGreatDoor
