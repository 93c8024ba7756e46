import Derived.Test.YtcmofgehhdfifaaGreatDoorPs7
namespace Go.Proofs.YtcmofgehhdfifaaGreatDoor
open Go.RowKit
structure LxI (xs : List Int) (i : Nat) (ts : List Tk) (ps : List Pc) : Prop where
  lxs : Lxs xs ts (xs.drop i)
  els : ps.map Pc.x = ts.map tkE
  num : ∀ p ∈ ps, TkNum p
  few : ps.length ≤ i
theorem LxI.next {xs : List Int} {i j : Nat} {ts : List Tk} {ps : List Pc} {t : Tk} {sv : Value} {T : Nat → Prop} (h : LxI xs i ts ps) (hx : lx (xs.drop i) = some (t, xs.drop j)) (hj : j ≤ xs.length) (hn : TkNum ⟨tkE t, sv, T⟩) : LxI xs j (ts ++ [t]) (ps ++ [⟨tkE t, sv, T⟩]) := by
  have h1 := lx_le hx hj
  have h2 := h.few
  refine ⟨h.lxs.app (.cons hx (.nil _)), by rw [List.map_append, List.map_append, h.els]; rfl, fun p hp => ?_, by simp; omega⟩
  rcases List.mem_append.1 hp with hp | hp
  · exact h.num p hp
  · rw [List.mem_singleton.1 hp]; exact hn
theorem lex_bad {xs : List Int} {i : Nat} {ts : List Tk} {ps : List Pc} (h : LxI xs i ts ps) (hi : i < xs.length) (hx : lx (xs.drop i) = none) : ∀ us, ¬ Lxs xs us [] := fun us hu => by
  have := (Lxs.one h.lxs hu hx rfl).2
  have h3 := congrArg List.length this
  simp at h3
  omega
theorem num_tok {k mn mx : Int} {cs : List Int} {sv : Value} {T : Nat → Prop} (hk : 0 ≤ k ∧ k ≤ 5) (h1 : -1 ≤ mn ∧ mn ≤ 9999) (h2 : -1 ≤ mx ∧ mx ≤ 9999) (hc : ∀ i : Nat, i < cs.length → 0 ≤ cs[i]?.getD 0 ∧ cs[i]?.getD 0 ≤ 255) : TkNum ⟨⟨k, cs, mn, mx⟩, sv, T⟩ := by
  refine ⟨⟨by show _ ≤ k; omega, by show k ≤ _; omega⟩, ⟨by show _ ≤ mn; omega, by show mn ≤ _; omega⟩, ⟨by show _ ≤ mx; omega, by show mx ≤ _; omega⟩, fun i => ?_⟩
  show In64 (cs[i]?.getD 0)
  by_cases hi : i < cs.length
  · have := hc i hi
    exact ⟨by omega, by omega⟩
  · rw [List.getElem?_eq_none (by omega)]
    simp [In64]
def LexM (e : Ending) (w w' : World) (xs : List Int) : Prop := Below w.heap.size w w' ∧ (((∀ ts, ¬ Lxs xs ts []) ∧ e = .returned (.tuple #[.slice none 0 0, .bool false])) ∨ ∃ (ts : List Tk) (v : Value), Lxs xs ts [] ∧ e = .returned (.tuple #[v, .bool true]) ∧ ElsAt 0 w'.heap.size w' v (ts.map tkE))
set_option maxHeartbeats 16000000 in
set_option maxRecDepth 100000 in
theorem l1lex_any (sv : Value) (xs : List Int) (w : World) (hv : SlAt mB 0 0 w.heap.size w sv xs) (hb : BytesIn xs) (hl : xs.length ≤ 100000) :
    Calls Tryz.prog 20 #[sv] w fun e w' => LexM e w w' xs := by
  have Hv := hide hv
  obtain ⟨a, cp, rfl, -, hc⟩ := hv
  have HC := hide hc
  have HB := hide hb
  clear hc hb
  go_enter Tryz.func20, Tryz.ntmps20
  go_wp2_with fail
  go_loopw [4, 5] (fun ov iv wr => ∃ (i : Nat) (ts : List Tk) (ps : List Pc), iv = .int .i64 (i : Nat) ∧ i ≤ xs.length ∧ LxI xs i ts ps ∧ TkG w.heap.size wr ov ps ∧ Below w.heap.size w wr) (fun _ iv _ => xs.length - (intOf iv).toNat)
  case atStart => exact ⟨0, [], [], rfl, Nat.zero_le _, ⟨rfl, rfl, fun p hp => by simp at hp, Nat.zero_le _⟩, ⟨World.ownsRow_nil _ _ _ _, fun p hp => by simp at hp, fun p hp => by simp at hp⟩, Below.refl _ _⟩
  case round =>
    obtain ⟨i, ts, ps, rfl, hi, hI, hG, hBw⟩ := hrel
    obtain ⟨w3, rfl⟩ : ∃ w3, w3 = wr := ⟨_, rfl⟩
    obtain ⟨oa, oc, rfl⟩ := own_is hG.own
    obtain ⟨m, hm⟩ : ∃ m, m = ps.length := ⟨_, rfl⟩
    have hmi : m ≤ 100000 := by rw [hm]; have := hI.few; omega
    have HMM := hide hm
    rw [← hm] at hG ⊢
    have HI := hide hI
    have HG := hide hG
    have HBW := hide hBw
    have hz3 := hBw.size
    have HSV := hide (((unhide Hv).undr hBw (Nat.le_refl _)).up hz3)
    clear hm
    by_cases hlt : i < xs.length
    · have hlt' : (i : Int) < (xs.length : Int) := by omega
      obtain ⟨b, off, rfl, -, hbw, hcell⟩ := unhide HC (by omega)
      obtain ⟨c, hce⟩ : ∃ c, c = xs[i]?.getD 0 := ⟨_, rfl⟩
      have x0 : w3.cell? ⟨b, off + i, none⟩ = some (.int .u8 c) := by
        rw [hBw.cell (p := ⟨b, off + i, none⟩) hbw]
        exact cell_of hcell hlt hce
      obtain ⟨c0, c1⟩ := byte_in (unhide HB) hlt hce
      have HD := hide (drop_hd hlt hce)
      have HGI : Hid (xs[i]? = some c) := by rw [hce]; exact get_at hlt
      clear hI hG hBw hcell hce HC
      by_cases e40 : c = 40
      · subst e40
        go_wp2_with (at_builtin; refine app_tk (wr := w3) ⟨2, [], 0, 0⟩ (.slice none 0 0) (fun _ => False) rfl _ _ rfl rfl w3.heap.size rfl rfl (unhide HG) hz3 (Below.refl _ _) (SlT.emp _) (fun k hk => hk.elim) ⟨rfl, rfl, rfl, rfl⟩ (by rw [← unhide HMM]; omega) ?_)
        intro v9 w9 hg9 hb9
        have HI9 := hide ((unhide HI).next (j := i + 1) (t := .inr (.inr (.inl true))) (sv := (.slice none 0 0)) (T := (fun _ => False)) (by rw [unhide HD]; simp [lx]) (by omega) (num_tok (by omega) (by omega) (by omega) (fun i hi => by simp at hi)))
        have HG9 := hide hg9
        have HB9 := hide ((unhide HBW).trans hb9)
        clear hg9 hb9
        go_wp2
        go_roundw
        case rel => exact ⟨i + 1, _, _, by go_num, by omega, unhide HI9, unhide HG9, unhide HB9⟩
        case measure => simp [intOf]; omega
      by_cases e41 : c = 41
      · subst e41
        go_wp2_with (at_builtin; refine app_tk (wr := w3) ⟨3, [], 0, 0⟩ (.slice none 0 0) (fun _ => False) rfl _ _ rfl rfl w3.heap.size rfl rfl (unhide HG) hz3 (Below.refl _ _) (SlT.emp _) (fun k hk => hk.elim) ⟨rfl, rfl, rfl, rfl⟩ (by rw [← unhide HMM]; omega) ?_)
        intro v9 w9 hg9 hb9
        have HI9 := hide ((unhide HI).next (j := i + 1) (t := .inr (.inr (.inl false))) (sv := (.slice none 0 0)) (T := (fun _ => False)) (by rw [unhide HD]; simp [lx]) (by omega) (num_tok (by omega) (by omega) (by omega) (fun i hi => by simp at hi)))
        have HG9 := hide hg9
        have HB9 := hide ((unhide HBW).trans hb9)
        clear hg9 hb9
        go_wp2
        go_roundw
        case rel => exact ⟨i + 1, _, _, by go_num, by omega, unhide HI9, unhide HG9, unhide HB9⟩
        case measure => simp [intOf]; omega
      by_cases e124 : c = 124
      · subst e124
        go_wp2_with (at_builtin; refine app_tk (wr := w3) ⟨4, [], 0, 0⟩ (.slice none 0 0) (fun _ => False) rfl _ _ rfl rfl w3.heap.size rfl rfl (unhide HG) hz3 (Below.refl _ _) (SlT.emp _) (fun k hk => hk.elim) ⟨rfl, rfl, rfl, rfl⟩ (by rw [← unhide HMM]; omega) ?_)
        intro v9 w9 hg9 hb9
        have HI9 := hide ((unhide HI).next (j := i + 1) (t := .inr (.inr (.inr ()))) (sv := (.slice none 0 0)) (T := (fun _ => False)) (by rw [unhide HD]; simp [lx]) (by omega) (num_tok (by omega) (by omega) (by omega) (fun i hi => by simp at hi)))
        have HG9 := hide hg9
        have HB9 := hide ((unhide HBW).trans hb9)
        clear hg9 hb9
        go_wp2
        go_roundw
        case rel => exact ⟨i + 1, _, _, by go_num, by omega, unhide HI9, unhide HG9, unhide HB9⟩
        case measure => simp [intOf]; omega
      by_cases e42 : c = 42
      · subst e42
        go_wp2_with (at_builtin; refine app_tk (wr := w3) ⟨5, [], 0, -1⟩ (.slice none 0 0) (fun _ => False) rfl _ _ rfl rfl w3.heap.size rfl rfl (unhide HG) hz3 (Below.refl _ _) (SlT.emp _) (fun k hk => hk.elim) ⟨rfl, rfl, rfl, rfl⟩ (by rw [← unhide HMM]; omega) ?_)
        intro v9 w9 hg9 hb9
        have HI9 := hide ((unhide HI).next (j := i + 1) (t := .inr (.inl (0, -1))) (sv := (.slice none 0 0)) (T := (fun _ => False)) (by rw [unhide HD]; simp [lx]) (by omega) (num_tok (by omega) (by omega) (by omega) (fun i hi => by simp at hi)))
        have HG9 := hide hg9
        have HB9 := hide ((unhide HBW).trans hb9)
        clear hg9 hb9
        go_wp2
        go_roundw
        case rel => exact ⟨i + 1, _, _, by go_num, by omega, unhide HI9, unhide HG9, unhide HB9⟩
        case measure => simp [intOf]; omega
      by_cases e43 : c = 43
      · subst e43
        go_wp2_with (at_builtin; refine app_tk (wr := w3) ⟨5, [], 1, -1⟩ (.slice none 0 0) (fun _ => False) rfl _ _ rfl rfl w3.heap.size rfl rfl (unhide HG) hz3 (Below.refl _ _) (SlT.emp _) (fun k hk => hk.elim) ⟨rfl, rfl, rfl, rfl⟩ (by rw [← unhide HMM]; omega) ?_)
        intro v9 w9 hg9 hb9
        have HI9 := hide ((unhide HI).next (j := i + 1) (t := .inr (.inl (1, -1))) (sv := (.slice none 0 0)) (T := (fun _ => False)) (by rw [unhide HD]; simp [lx]) (by omega) (num_tok (by omega) (by omega) (by omega) (fun i hi => by simp at hi)))
        have HG9 := hide hg9
        have HB9 := hide ((unhide HBW).trans hb9)
        clear hg9 hb9
        go_wp2
        go_roundw
        case rel => exact ⟨i + 1, _, _, by go_num, by omega, unhide HI9, unhide HG9, unhide HB9⟩
        case measure => simp [intOf]; omega
      by_cases e63 : c = 63
      · subst e63
        go_wp2_with (at_builtin; refine app_tk (wr := w3) ⟨5, [], 0, 1⟩ (.slice none 0 0) (fun _ => False) rfl _ _ rfl rfl w3.heap.size rfl rfl (unhide HG) hz3 (Below.refl _ _) (SlT.emp _) (fun k hk => hk.elim) ⟨rfl, rfl, rfl, rfl⟩ (by rw [← unhide HMM]; omega) ?_)
        intro v9 w9 hg9 hb9
        have HI9 := hide ((unhide HI).next (j := i + 1) (t := .inr (.inl (0, 1))) (sv := (.slice none 0 0)) (T := (fun _ => False)) (by rw [unhide HD]; simp [lx]) (by omega) (num_tok (by omega) (by omega) (by omega) (fun i hi => by simp at hi)))
        have HG9 := hide hg9
        have HB9 := hide ((unhide HBW).trans hb9)
        clear hg9 hb9
        go_wp2
        go_roundw
        case rel => exact ⟨i + 1, _, _, by go_num, by omega, unhide HI9, unhide HG9, unhide HB9⟩
        case measure => simp [intOf]; omega
      by_cases e123 : c = 123
      · subst e123
        have HE := hide (l1braces_any _ xs i w3 (unhide HSV) (unhide HB) hl hlt)
        go_wp2_with fail
        refine (unhide HE).mono ?_
        rintro e w4 ⟨⟨hn, rfl⟩ | ⟨lo, hi, mm, n, hs, n2, hle, lo1, hi1, rfl, rfl⟩, rfl⟩
        · have HX := hide (lex_bad (unhide HI) hlt (by rw [unhide HD]; simp [lx, hn]))
          clear hn HE
          go_wp2
          go_ret2
          exact ⟨unhide HBW, .inl ⟨unhide HX, rfl⟩⟩
        · obtain ⟨lo0, hi0⟩ := brc_bd hs
          have nz : ((n : Int) == 0) = false := by simp; omega
          have hi0' : -1 ≤ hi := by omega
          have HS := hide hs
          clear hs HE hi0
          go_wp2_with (at_builtin; refine app_tk (wr := w4) ⟨5, [], lo, hi⟩ (.slice none 0 0) (fun _ => False) rfl _ _ rfl rfl w4.heap.size rfl rfl (unhide HG) hz3 (Below.refl _ _) (SlT.emp _) (fun k hk => hk.elim) ⟨rfl, rfl, rfl, rfl⟩ (by rw [← unhide HMM]; omega) ?_)
          intro v9 w9 hg9 hb9
          have HI9 := hide ((unhide HI).next (j := i + n) (t := .inr (.inl (lo, hi))) (sv := (.slice none 0 0)) (T := (fun _ => False)) (by rw [unhide HD]; simp [lx, unhide HS]) (by omega) (num_tok (by omega) (by omega) (by omega) (fun i hi => by simp at hi)))
          have HG9 := hide hg9
          have HB9 := hide ((unhide HBW).trans hb9)
          clear hg9 hb9
          go_wp2
          go_roundw
          case rel => exact ⟨i + n, _, _, by go_num, by omega, unhide HI9, unhide HG9, unhide HB9⟩
          case measure => simp [intOf]; omega
      by_cases e46 : c = 46
      · subst e46
        go_wp2_with fail
        refine (l1dot_w w3).mono ?_
        rintro e w4 ⟨v4, rfl, hsl, hb4⟩
        obtain ⟨sa, sc, rfl⟩ : ∃ a c, v4 = .slice a 4 c := by obtain ⟨a, c, e, -⟩ := hsl; exact ⟨a, c, e⟩
        have HSL := hide hsl.slT
        have HB4 := hide hb4
        clear hsl hb4
        go_wp2_with (at_builtin; refine app_tk (wr := w3) ⟨1, [0, 9, 11, 255], 0, 0⟩ (.slice sa 4 sc) (fun k => w3.heap.size ≤ k ∧ k < w4.heap.size) rfl _ _ rfl rfl w4.heap.size rfl rfl (unhide HG) hz3 (unhide HB4) (unhide HSL) (fun k hk => hk) ⟨rfl, rfl, rfl, rfl⟩ (by rw [← unhide HMM]; omega) ?_)
        intro v9 w9 hg9 hb9
        have HI9 := hide ((unhide HI).next (j := i + 1) (t := .inl [0, 9, 11, 255]) (sv := (.slice sa 4 sc)) (T := (fun k => w3.heap.size ≤ k ∧ k < w4.heap.size)) (by rw [unhide HD]; exact lx_dot _) (by omega) (num_tok (by omega) (by omega) (by omega) canon_dot.2.1))
        have HG9 := hide hg9
        have HB9 := hide ((unhide HBW).trans hb9)
        clear hg9 hb9
        go_wp2
        go_roundw
        case rel => exact ⟨i + 1, _, _, by go_num, by omega, unhide HI9, unhide HG9, unhide HB9⟩
        case measure => simp [intOf]; omega
      by_cases e91 : c = 91
      · subst e91
        have HE := hide (l1class_any _ xs i w3 (unhide HSV) (unhide HB) hl hlt)
        go_wp2_with fail
        refine (unhide HE).mono ?_
        rintro e w4 ⟨hb4, ⟨hn, rfl⟩ | ⟨cs, v4, mm, n, hs, n1, hle, rfl, rfl, hsl, hcl⟩⟩
        · have HX := hide (lex_bad (unhide HI) hlt (by rw [unhide HD, lx_cls, hn]; rfl))
          have HB4 := hide ((unhide HBW).trans (hb4.mono hz3))
          clear hn HE hb4
          go_wp2
          go_ret2
          exact ⟨unhide HB4, .inl ⟨unhide HX, rfl⟩⟩
        · obtain ⟨sa, sc, rfl⟩ : ∃ a c, v4 = .slice a cs.length c := by obtain ⟨a, c, e, -⟩ := hsl; exact ⟨a, c, e⟩
          obtain ⟨q, hq⟩ : ∃ q, q = cs.length := ⟨_, rfl⟩
          rw [← hq] at hsl ⊢
          have nz : ((n : Int) == 0) = false := by simp; omega
          have HLX : Hid (lx (xs.drop i) = some (.inl cs, xs.drop (i + n))) := by rw [unhide HD, lx_cls, hs]; rfl
          have HCN : Hid (Canon cs) := by have h9 := lx_ok (s := xs.drop i) (fun x hx => unhide HB x (List.mem_of_mem_drop hx)) (unhide HLX); exact h9
          have HSL := hide hsl.slT
          have HB4 := hide hb4
          clear hsl hb4 hs HE hq
          go_wp2_with (at_builtin; refine app_tk (wr := w3) ⟨1, cs, 0, 0⟩ (.slice sa q sc) (fun k => w3.heap.size ≤ k ∧ k < w4.heap.size) rfl _ _ rfl rfl w4.heap.size rfl rfl (unhide HG) hz3 (unhide HB4) (unhide HSL) (fun k hk => hk) ⟨rfl, rfl, rfl, rfl⟩ (by rw [← unhide HMM]; omega) ?_)
          intro v9 w9 hg9 hb9
          have HI9 := hide ((unhide HI).next (j := i + n) (t := .inl cs) (sv := (.slice sa q sc)) (T := (fun k => w3.heap.size ≤ k ∧ k < w4.heap.size)) (unhide HLX) (by omega) (num_tok (by omega) (by omega) (by omega) (unhide HCN).2.1))
          have HG9 := hide hg9
          have HB9 := hide ((unhide HBW).trans hb9)
          clear hg9 hb9
          go_wp2
          go_roundw
          case rel => exact ⟨i + n, _, _, by go_num, by omega, unhide HI9, unhide HG9, unhide HB9⟩
          case measure => simp [intOf]; omega
      by_cases e92 : c = 92
      · subst e92
        have HE := hide (l1setEsc_any _ xs i w3 (unhide HSV) (unhide HB) hl hi)
        have HSB : Hid (sesB (xs.drop i) = sesc (xs.drop (i + 1))) := by show sesB _ = _; rw [unhide HD, sesB, if_pos rfl]
        go_wp2_with fail
        refine (unhide HE).mono ?_
        rintro e w4 (⟨hn, rfl, rfl⟩ | ⟨cs, v4, hs, hle2, hcl8, rfl, hsl, hb4⟩)
        · have HN : Hid (sesc (xs.drop (i + 1)) = none) := by rw [← unhide HSB]; exact hn
          have HE2 := hide (l1byteEsc_any _ xs i w4 (unhide HSV) (unhide HB) (unhide HGI) hl)
          clear hn HE
          go_wp2_with fail
          refine (unhide HE2).mono ?_
          rintro e w5 ⟨⟨hn2, rfl⟩ | ⟨v, n, hs, n2, hle, v0, v1, rfl⟩, rfl⟩
          · have HX := hide (lex_bad (unhide HI) hlt (by rw [unhide HD, lx_esc, unhide HN]; simp only; rw [hn2]; rfl))
            clear hn2 HE2
            go_wp2
            go_ret2
            exact ⟨unhide HBW, .inl ⟨unhide HX, rfl⟩⟩
          · have nz : ((n : Int) == 0) = false := by simp; omega
            have HLX : Hid (lx (xs.drop i) = some (.inl [v, v], xs.drop (i + n))) := by rw [unhide HD, lx_esc, unhide HN]; simp only; rw [hs]; rfl
            clear hs HE2
            go_wp2_with fail
            refine (l1one_w v w5).mono ?_
            rintro e w6 ⟨v6, rfl, hsl, hb6⟩
            obtain ⟨sa, sc, rfl⟩ : ∃ a c, v6 = .slice a 2 c := by obtain ⟨a, c, e, -⟩ := hsl; exact ⟨a, c, e⟩
            have HSL := hide hsl.slT
            have HB6 := hide hb6
            clear hsl hb6
            go_wp2_with (at_builtin; refine app_tk (wr := w5) ⟨1, [v, v], 0, 0⟩ (.slice sa 2 sc) (fun k => w5.heap.size ≤ k ∧ k < w6.heap.size) rfl _ _ rfl rfl w6.heap.size rfl rfl (unhide HG) hz3 (unhide HB6) (unhide HSL) (fun k hk => hk) ⟨rfl, rfl, rfl, rfl⟩ (by rw [← unhide HMM]; omega) ?_)
            intro v9 w9 hg9 hb9
            have HI9 := hide ((unhide HI).next (j := i + n) (t := .inl [v, v]) (sv := (.slice sa 2 sc)) (T := (fun k => w5.heap.size ≤ k ∧ k < w6.heap.size)) (unhide HLX) (by omega) (num_tok (by omega) (by omega) (by omega) (canon_pair v0 v1).2.1))
            have HG9 := hide hg9
            have HB9 := hide ((unhide HBW).trans hb9)
            clear hg9 hb9
            go_wp2
            go_roundw
            case rel => exact ⟨i + n, _, _, by go_num, by omega, unhide HI9, unhide HG9, unhide HB9⟩
            case measure => simp [intOf]; omega
        · obtain ⟨sa, sc, rfl⟩ : ∃ a c, v4 = .slice a cs.length c := by obtain ⟨a, c, e, -⟩ := hsl; exact ⟨a, c, e⟩
          obtain ⟨q, hq⟩ : ∃ q, q = cs.length := ⟨_, rfl⟩
          rw [← hq] at hsl ⊢
          have HLX : Hid (lx (xs.drop i) = some (.inl cs, xs.drop (i + 2))) := by show lx _ = _; rw [unhide HD, lx_esc, ← unhide HSB, hs]
          have HCN : Hid (Canon cs) := by have h9 := lx_ok (s := xs.drop i) (fun x hx => unhide HB x (List.mem_of_mem_drop hx)) (unhide HLX); exact h9
          have HSL := hide hsl.slT
          have HB4 := hide hb4
          clear hsl hb4 hs HE hq hcl8
          go_wp2_with (at_builtin; refine app_tk (wr := w3) ⟨1, cs, 0, 0⟩ (.slice sa q sc) (fun k => w3.heap.size ≤ k ∧ k < w4.heap.size) rfl _ _ rfl rfl w4.heap.size rfl rfl (unhide HG) hz3 (unhide HB4) (unhide HSL) (fun k hk => hk) ⟨rfl, rfl, rfl, rfl⟩ (by rw [← unhide HMM]; omega) ?_)
          intro v9 w9 hg9 hb9
          have HI9 := hide ((unhide HI).next (j := i + 2) (t := .inl cs) (sv := (.slice sa q sc)) (T := (fun k => w3.heap.size ≤ k ∧ k < w4.heap.size)) (unhide HLX) (by omega) (num_tok (by omega) (by omega) (by omega) (unhide HCN).2.1))
          have HG9 := hide hg9
          have HB9 := hide ((unhide HBW).trans hb9)
          clear hg9 hb9
          go_wp2
          go_roundw
          case rel => exact ⟨i + 2, _, _, by go_num, by omega, unhide HI9, unhide HG9, unhide HB9⟩
          case measure => simp [intOf]; omega
      have HS := hide (l1special_any c w3 c0 c1)
      go_wp2_with fail
      refine (unhide HS).mono ?_
      rintro e w4 ⟨hret, rfl⟩
      rcases hret.cases with ⟨rfl, hy⟩ | ⟨rfl, hy⟩
      · have HX := hide (lex_bad (unhide HI) hlt (by
          rw [unhide HD, lx, if_neg e40, if_neg e41, if_neg e124, if_neg e42, if_neg e43, if_neg e63, if_neg e123, if_neg e46, if_neg e91, if_neg e92, if_pos (show c ∈ spcZ from hy)]))
        clear hy hret HS
        go_wp2
        go_ret2
        exact ⟨unhide HBW, .inl ⟨unhide HX, rfl⟩⟩
      · have HLX : Hid (lx (xs.drop i) = some (.inl [c, c], xs.drop (i + 1))) := by rw [unhide HD]; exact lx_chr hy
        clear hy hret HS
        go_wp2_with fail
        refine (l1one_w c w4).mono ?_
        rintro e w6 ⟨v6, rfl, hsl, hb6⟩
        obtain ⟨sa, sc, rfl⟩ : ∃ a c, v6 = .slice a 2 c := by obtain ⟨a, c, e, -⟩ := hsl; exact ⟨a, c, e⟩
        have HSL := hide hsl.slT
        have HB6 := hide hb6
        clear hsl hb6
        go_wp2_with (at_builtin; refine app_tk (wr := w4) ⟨1, [c, c], 0, 0⟩ (.slice sa 2 sc) (fun k => w4.heap.size ≤ k ∧ k < w6.heap.size) rfl _ _ rfl rfl w6.heap.size rfl rfl (unhide HG) hz3 (unhide HB6) (unhide HSL) (fun k hk => hk) ⟨rfl, rfl, rfl, rfl⟩ (by rw [← unhide HMM]; omega) ?_)
        intro v9 w9 hg9 hb9
        have HI9 := hide ((unhide HI).next (j := i + 1) (t := .inl [c, c]) (sv := (.slice sa 2 sc)) (T := (fun k => w4.heap.size ≤ k ∧ k < w6.heap.size)) (unhide HLX) (by omega) (num_tok (by omega) (by omega) (by omega) (canon_pair c0 c1).2.1))
        have HG9 := hide hg9
        have HB9 := hide ((unhide HBW).trans hb9)
        clear hg9 hb9
        go_wp2
        go_roundw
        case rel => exact ⟨i + 1, _, _, by go_num, by omega, unhide HI9, unhide HG9, unhide HB9⟩
        case measure => simp [intOf]; omega
    · obtain rfl : i = xs.length := by omega
      have HX : Hid (Lxs xs ts []) := by have h9 := (unhide HI).lxs; rw [List.drop_length] at h9; exact h9
      have HE : Hid (ElsAt 0 w3.heap.size w3 (.slice oa m oc) (ts.map tkE)) := by rw [← (unhide HI).els]; exact (unhide HG).els (unhide HI).num
      clear hI hG hBw
      go_wp2
      go_ret2
      exact ⟨unhide HBW, .inr ⟨ts, _, unhide HX, rfl, unhide HE⟩⟩
end Go.Proofs.YtcmofgehhdfifaaGreatDoor
