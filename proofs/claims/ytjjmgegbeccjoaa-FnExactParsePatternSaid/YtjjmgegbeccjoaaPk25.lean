import Derived.Test.YtjjmgegbeccjoaaPk24
import Derived.Test.YtjjmgegbeccjoaaPk20
import Derived.RegionDies
namespace Go.Proofs.Ytjjmgegbeccjoaa
open Go.RowKit

theorem ses_chr {s : List Int} {x : List Int × List Int} (h : sesB s = some x) : chr1 s = none := by
  match s, h with
  | c :: r, h =>
    rw [sesB] at h
    by_cases e : c = 92
    · rw [if_pos e] at h
      rw [chr1, if_pos e]
      match r, h with
      | b :: t, h =>
        rw [sesc] at h
        rw [besc]
        by_cases h1 : b = 100
        · subst h1; rfl
        rw [if_neg h1] at h
        by_cases h2 : b = 119
        · subst h2; rfl
        rw [if_neg h2] at h
        by_cases h3 : b = 115
        · subst h3; rfl
        rw [if_neg h3] at h
        cases h
    · rw [if_neg e] at h; cases h
/-- What readMember leaves. -/
def MbR (e : Ending) (w w' : World) (N q : Nat) (tv : Value) (xs : List Int) (at' d : Nat) (ov : Bool) : Prop :=
  Gw q w w' ∧ (((∀ p, mem1 p (xs.drop at') = none) ∧ Flt e) ∨ ∃ (g : Nat → Nat) (at2 : Nat), e = .returned (ws4 g) ∧ Fit g ∧ at2 ≤ xs.length ∧ Rdr w' N q tv xs at2 d ov ∧ ∀ p, mem1 p (xs.drop at') = some (fun b => p b || Bt g b, xs.drop at2))
theorem mem1_set {s r cs : List Int} {g : Nat → Nat} (h : sesB s = some (cs, r)) (hb : ∀ b : Nat, Bt g b = inR cs b) (p : Nat → Bool) : mem1 p s = some (fun b => p b || Bt g b, r) := by
  unfold mem1
  rw [h]
  simp only [hb]
theorem mem1_one {s r : List Int} {lo : Int} {g : Nat → Nat} (h : sesB s = none) (hc : chr1 s = some (lo, r)) (hb : ∀ b : Nat, Bt g b = decide (lo ≤ (b : Int) ∧ (b : Int) ≤ lo)) (hr : ∀ t, r ≠ 45 :: t) (p : Nat → Bool) : mem1 p s = some (fun b => p b || Bt g b, r) := by
  unfold mem1
  rw [h]
  simp only
  rw [hc, Option.bind_some]
  have e : (fun b => p b || Bt g b) = rngB p lo lo := by funext b; rw [rngB, hb]
  rw [e]
  cases r with
  | nil => rfl
  | cons c t => rw [mem2, if_neg (fun e => hr t (by rw [e]))]
theorem mem1_two {s r : List Int} {lo : Int} (h : sesB s = none) (hc : chr1 s = some (lo, 45 :: r)) (p : Nat → Bool) : mem1 p s = (chr1 r).bind fun x => if x.1 < lo then none else some (rngB p lo x.1, x.2) := by
  unfold mem1
  rw [h]
  simp only
  rw [hc, Option.bind_some, mem2, if_pos rfl]
theorem rng_bt {g g' : Nat → Nat} {lo hi : Int} (hb : ∀ b : Nat, Bt g b = decide (lo ≤ (b : Int) ∧ (b : Int) ≤ lo)) (hb' : ∀ b : Nat, Bt g' b = (Bt g b || decide (lo ≤ (b : Int) ∧ (b : Int) ≤ hi))) (hle : lo ≤ hi) (p : Nat → Bool) : rngB p lo hi = (fun b => p b || Bt g' b) := by
  funext b
  rw [rngB, hb', hb]
  congr 1
  rw [Bool.eq_iff_iff]
  simp
  omega

set_option maxHeartbeats 8000000 in
set_option maxRecDepth 100000 in
theorem readMember_any (w : World) (N q : Nat) (tv : Value) (xs : List Int) (at' d : Nat) (ov : Bool) (h : Rdr w N q tv xs at' d ov) (hb : ∀ x ∈ xs, 0 ≤ x ∧ x ≤ 255) (ha : at' ≤ xs.length) (hl : xs.length ≤ 100000) :
    Calls Try.prog 67 #[.pointer (some ⟨q, 0, none⟩)] w fun e w' => MbR e w w' N q tv xs at' d ov := by
  have hqs := h.in
  have hB0 := below1 w (.cells #[.int .u64 0, .int .u64 0, .int .u64 0, .int .u64 0] 98)
  obtain ⟨W, hW⟩ : ∃ W, W = w.alloc (.cells #[.int .u64 0, .int .u64 0, .int .u64 0, .int .u64 0] 98) := ⟨_, rfl⟩
  have rR := zero_row w 98
  rw [← hW] at rR hB0
  have HP := hide (readPart_any W N q tv xs at' d ov (h.keep hB0 (Nat.le_refl _)) hb ha hl)
  have HRR := hide rR
  have HB0 := hide hB0
  have HB := hide hb
  clear h hb rR hB0
  go_enter Try.func67, Try.ntmps67
  go_wp2_with fail
  rw [← hW]
  clear hW
  refine (unhide HP).mono ?_
  rintro e w1 ⟨hG1, ⟨hn1, hn2, z, rfl⟩ | ⟨g, lo, at2, rfl, hf, hle, hR1, hcase⟩⟩
  · have HX : Hid (∀ p, mem1 p (xs.drop at') = none) := fun p => by unfold mem1; rw [hn1]; simp only; rw [hn2]; rfl
    have HG2 := hide ((gw_of (unhide HB0) (Nat.le_refl _)).trans hG1)
    clear hn1 hn2 hG1
    go_wp2
    exact ⟨rfl, unhide HG2, .inl ⟨unhide HX, _, rfl⟩⟩
  · have rR1 := hG1.row (unhide HRR) (row_lt (unhide HRR)) (by omega)
    have hsz1 := row_lt rR1
    have hb1 := below1 w1 (.cells #[.int .u64 (g 0 : Nat), .int .u64 (g 1 : Nat), .int .u64 (g 2 : Nat), .int .u64 (g 3 : Nat)] 98)
    have rS2 := four_row w1 98 g
    obtain ⟨W2, hW2⟩ : ∃ W2, W2 = w1.alloc (.cells #[.int .u64 (g 0 : Nat), .int .u64 (g 1 : Nat), .int .u64 (g 2 : Nat), .int .u64 (g 3 : Nat)] 98) := ⟨_, rfl⟩
    rw [← hW2] at hb1 rS2
    have rR2 := rk rR1 hb1 (Nat.le_refl _)
    have hR2 := hR1.keep hb1 (Nat.le_refl _)
    have HG2 := hide (((gw_of (unhide HB0) (Nat.le_refl _)).trans hG1).trans (gw_of hb1 (Nat.le_refl _)))
    have HF := hide hf
    have hz2 := row_lt rS2
    have HT := hide (take_any W2 N q tv xs at2 d ov 45 hR2 (unhide HB) hle hl)
    have HR2 := hide hR2
    have RR2 := hide rR2
    have RS2 := hide rS2
    rcases hcase with ⟨rfl, cs, hs, hbt⟩ | ⟨hs, hc, l0, l1, hbt⟩
    · have HM := hide (mem1_set hs hbt)
      obtain ⟨⟨r0, r1, r2, r3⟩, j0, j1, j2, j3⟩ := row4f rR1
      have M9 := hide (row4f (rk (row_puts rR1 g) (below1 _ (.cells #[.int .u64 (g 0 : Nat), .int .u64 (g 1 : Nat), .int .u64 (g 2 : Nat), .int .u64 (g 3 : Nat)] 98)) (Nat.le_refl _))).1
      have HR9 := hide ((hR1.puts (m := w.heap.size) hqs (.int .u64 (g 0 : Nat)) (.int .u64 (g 1 : Nat)) (.int .u64 (g 2 : Nat)) (.int .u64 (g 3 : Nat))).keep (below1 _ (.cells #[.int .u64 (g 0 : Nat), .int .u64 (g 1 : Nat), .int .u64 (g 2 : Nat), .int .u64 (g 3 : Nat)] 98)) (Nat.le_refl _))
      have HG9 := hide ((gw_puts ((gw_of (unhide HB0) (Nat.le_refl _)).trans hG1) (m := w.heap.size) (Nat.le_refl _) (.int .u64 (g 0 : Nat)) (.int .u64 (g 1 : Nat)) (.int .u64 (g 2 : Nat)) (.int .u64 (g 3 : Nat))).trans (gw_of (below1 _ (.cells #[.int .u64 (g 0 : Nat), .int .u64 (g 1 : Nat), .int .u64 (g 2 : Nat), .int .u64 (g 3 : Nat)] 98)) (Nat.le_refl _)))
      clear hs hbt hf hG1 rR1 rS2 rR2 hR2 hR1 hb1
      unfold ws4
      go_wp2
      refine bodyPost_ret (v := .agg #[.int .u64 (g 0 : Nat), .int .u64 (g 1 : Nat), .int .u64 (g 2 : Nat), .int .u64 (g 3 : Nat)]) (by simp [results, Try.results67, go_sem, (unhide M9).1, (unhide M9).2.1, (unhide M9).2.2.1, (unhide M9).2.2.2]) rfl ⟨unhide HG9, .inr ⟨g, at2, rfl, unhide HF, hle, unhide HR9, unhide HM⟩⟩
    · have hne : ¬ lo = -1 := by omega
      clear hf hG1 rR1 rS2 rR2 hR2 hR1 hb1 HRR HB0 HP
      unfold ws4
      have HS := hide hs
      have HC := hide hc
      have BT := hide hbt
      clear hs hc hbt
      go_wp2_with fail
      rw [← hW2]
      clear hW2
      refine (unhide HT).mono ?_
      rintro e w3 (⟨hno, rfl, n3, rfl⟩ | ⟨hye, rfl, hR3, hob3⟩)
      · have HM := hide (mem1_one (unhide HS) (unhide HC) (unhide BT) (drop_ne hno))
        obtain ⟨⟨r0, r1, r2, r3⟩, j0, j1, j2, j3⟩ := row4f (unhide RR2)
        obtain ⟨⟨s0, s1, s2, s3⟩, -⟩ := row4f (unhide RS2)
        have HR9 := hide (((unhide HR2).drewN n3).puts (m := w.heap.size) hqs (.int .u64 (g 0 : Nat)) (.int .u64 (g 1 : Nat)) (.int .u64 (g 2 : Nat)) (.int .u64 (g 3 : Nat)))
        have HG9 := hide (gw_puts ((unhide HG2).trans (obk_drewN q W2 n3).gw) (m := w.heap.size) (Nat.le_refl _) (.int .u64 (g 0 : Nat)) (.int .u64 (g 1 : Nat)) (.int .u64 (g 2 : Nat)) (.int .u64 (g 3 : Nat)))
        clear HT hno RR2 RS2 HR2 HG2
        go_wp2
        refine bodyPost_ret (v := .agg #[.int .u64 (g 0 : Nat), .int .u64 (g 1 : Nat), .int .u64 (g 2 : Nat), .int .u64 (g 3 : Nat)]) (by simp [results, Try.results67, go_sem, r0, r1, r2, r3]) rfl ⟨unhide HG9, .inr ⟨g, at2, rfl, unhide HF, hle, unhide HR9, unhide HM⟩⟩
      · obtain ⟨hdr, hlt⟩ := drop_pk (by omega) hye
        have HM2 := hide (mem1_two (unhide HS) (by rw [unhide HC, hdr]))
        have hle3 : at2 + 1 ≤ xs.length := hlt
        have RR3 := hide (hob3.gw.row (unhide RR2) (row_lt (unhide RR2)) (by omega))
        have RS3 := hide (hob3.gw.row (unhide RS2) (row_lt (unhide RS2)) (by omega))
        have HG3 := hide ((unhide HG2).trans hob3.gw)
        have hz3 := hob3.gw.size
        have HP3 := hide (readPart_any w3 N q tv xs (at2 + 1) d ov hR3 (unhide HB) hle3 hl)
        clear HT hye hdr hlt hob3 RR2 RS2 HR2 HG2 hR3
        go_wp2_with fail
        refine (unhide HP3).mono ?_
        rintro e w4 ⟨hG4, ⟨hn1, hn2, z, rfl⟩ | ⟨g4, hi, at4, rfl, hf4, hle4, hR4, hcase4⟩⟩
        · have HX : Hid (∀ p, mem1 p (xs.drop at') = none) := fun p => by rw [unhide HM2, hn2]; rfl
          have HG4 := hide ((unhide HG3).trans hG4)
          clear hn1 hn2 hG4
          go_wp2
          exact ⟨rfl, unhide HG4, .inl ⟨unhide HX, _, rfl⟩⟩
        · have rR4 := hG4.row (unhide RR3) (row_lt (unhide RR3)) (by omega)
          have rS4 := hG4.row (unhide RS3) (row_lt (unhide RS3)) (by omega)
          have hsz4 := row_lt rS4
          have hb4 := below1 w4 (.cells #[.int .u64 (g4 0 : Nat), .int .u64 (g4 1 : Nat), .int .u64 (g4 2 : Nat), .int .u64 (g4 3 : Nat)] 98)
          obtain ⟨W5, hW5⟩ : ∃ W5, W5 = w4.alloc (.cells #[.int .u64 (g4 0 : Nat), .int .u64 (g4 1 : Nat), .int .u64 (g4 2 : Nat), .int .u64 (g4 3 : Nat)] 98) := ⟨_, rfl⟩
          rw [← hW5] at hb4
          have RR5 := hide (rk rR4 hb4 (Nat.le_refl _))
          have rS5 := rk rS4 hb4 (Nat.le_refl _)
          have hR5 := hR4.keep hb4 (Nat.le_refl _)
          have HG5 := hide (((unhide HG3).trans hG4).trans (gw_of hb4 (Nat.le_refl _)))
          have hz5 := hb4.size
          have HF5 := hide (fail_any W5 N q tv xs at4 d ov hR5)
          have HR5 := hide hR5
          rcases hcase4 with ⟨rfl, cs, hs4, hbt4⟩ | ⟨hs4, hc4, l40, l41, hbt4⟩
          · have HX : Hid (∀ p, mem1 p (xs.drop at') = none) := fun p => by rw [unhide HM2, ses_chr hs4]; rfl
            clear hs4 hbt4 hf4 hG4 rR4 rS4 rS5 hR4 hR5 hb4 HP3 RR3 RS3 HG3
            unfold ws4
            go_wp2_with fail
            rw [← hW5]
            clear hW5
            refine (unhide HF5).mono ?_
            rintro e w6 ⟨rfl, rfl⟩
            go_wp2
            exact ⟨rfl, unhide HG5, .inl ⟨unhide HX, _, rfl⟩⟩
          · have hne4 : ¬ hi = -1 := by omega
            by_cases hlh : hi < lo
            · have HX : Hid (∀ p, mem1 p (xs.drop at') = none) := fun p => by rw [unhide HM2, hc4, Option.bind_some, if_pos hlh]
              clear hs4 hc4 hbt4 hf4 hG4 rR4 rS4 rS5 hR4 hR5 hb4 HP3 RR3 RS3 HG3
              unfold ws4
              go_wp2_with fail
              rw [← hW5]
              clear hW5
              refine (unhide HF5).mono ?_
              rintro e w6 ⟨rfl, rfl⟩
              go_wp2
              exact ⟨rfl, unhide HG5, .inl ⟨unhide HX, _, rfl⟩⟩
            · have HC4 : Hid (∀ p, mem1 p (xs.drop at') = some (rngB p lo hi, xs.drop at4)) := fun p => by rw [unhide HM2, hc4, Option.bind_some, if_neg hlh]
              obtain ⟨⟨s0, s1, s2, s3⟩, -⟩ := row4f rS4
              have hg1 : (hi == -1) = false := by simp [hne4]
              have hg2 : decide (hi < lo) = false := by simp; omega
              clear hs4 hc4 hbt4 hf4 hG4 rR4 rS4 rS5 hR4 hR5 hb4 HP3 RR3 RS3 HG3
              unfold ws4
              go_wp2_with fail
              rw [← hW5]
              clear hW5
              refine (with_w g lo hi W5 (unhide HF) l0 l41 (by omega)).mono ?_
              rintro e w6 ⟨g6, rfl, hf6, hbt6, hb6⟩
              have HM : Hid (∀ p, mem1 p (xs.drop at') = some (fun b => p b || Bt g6 b, xs.drop at4)) := fun p => by rw [unhide HC4, rng_bt (unhide BT) hbt6 (by omega)]
              have HF6 := hide hf6
              have HR9 := hide (((unhide HR5).keep hb6 (Nat.le_refl _)).puts (m := w.heap.size) hqs (.int .u64 (g6 0 : Nat)) (.int .u64 (g6 1 : Nat)) (.int .u64 (g6 2 : Nat)) (.int .u64 (g6 3 : Nat)))
              have HG9 := hide (gw_puts ((unhide HG5).trans (gw_of hb6 (Nat.le_refl _))) (m := w.heap.size) (Nat.le_refl _) (.int .u64 (g6 0 : Nat)) (.int .u64 (g6 1 : Nat)) (.int .u64 (g6 2 : Nat)) (.int .u64 (g6 3 : Nat)))
              obtain ⟨⟨r0, r1, r2, r3⟩, j0, j1, j2, j3⟩ := row4f (rk (unhide RR5) hb6 (Nat.le_refl _))
              clear hf6 hbt6 hb6 RR5 HR5 HG5 s0 s1 s2 s3
              unfold ws4
              go_wp2
              refine bodyPost_ret (v := .agg #[.int .u64 (g6 0 : Nat), .int .u64 (g6 1 : Nat), .int .u64 (g6 2 : Nat), .int .u64 (g6 3 : Nat)]) (by simp [results, Try.results67, go_sem, r0, r1, r2, r3]) rfl ⟨unhide HG9, .inr ⟨g6, at4, rfl, unhide HF6, hle4, unhide HR9, unhide HM⟩⟩


/-- The reader's place, out of its box. -/
def posOf (q : Nat) (w : World) : Nat := match w.cell? ⟨q, 1, none⟩ with
  | some (.int _ n) => n.toNat
  | _ => 0
theorem Rdr.pos {w : World} {N q : Nat} {tv : Value} {xs : List Int} {at' d : Nat} {ov : Bool} (h : Rdr w N q tv xs at' d ov) : posOf q w = at' := by
  unfold posOf
  rw [h.row.facts.2.1]
  simp
def pn (neg : Bool) (p : Nat → Bool) : Nat → Bool := fun b => if neg then !p b else p b
theorem cls_of {xs : List Int} {at' : Nat} : (pkB xs at' = 94 → cls (xs.drop at') = (clsG (xs.length - (at' + 1) + 1) (fun _ => false) (xs.drop (at' + 1))).map fun x => (cnn (pn true x.1), x.2)) ∧ (pkB xs at' ≠ 94 → cls (xs.drop at') = (clsG (xs.length - at' + 1) (fun _ => false) (xs.drop at')).map fun x => (cnn (pn false x.1), x.2)) := by
  constructor
  · intro h
    obtain ⟨h1, h2⟩ := drop_pk (by omega) h
    rw [h1, cls, if_pos rfl, List.length_drop]
    rfl
  · intro h
    have h9 := drop_ne h
    cases hs : xs.drop at' with
    | nil => rfl
    | cons c r =>
      have hl : r.length + 1 = xs.length - at' := by rw [← List.length_drop, hs]; rfl
      rw [cls, if_neg (fun e => h9 r (by rw [hs, e])), ← hl]
      rfl
/-- What readClass leaves. -/
def ClR (e : Ending) (w w' : World) (N q : Nat) (tv : Value) (xs : List Int) (at' d : Nat) (ov : Bool) : Prop :=
  Gw q w w' ∧ ((cls (xs.drop at') = none ∧ Flt e) ∨ ∃ (g : Nat → Nat) (cs : List Int) (at2 : Nat), e = .returned (ws4 g) ∧ cls (xs.drop at') = some (cs, xs.drop at2) ∧ at2 ≤ xs.length ∧ Rdr w' N q tv xs at2 d ov ∧ WordsOf cs g ∧ Canon cs)
theorem clsG_stop {xs : List Int} {i : Nat} {p : Nat → Bool} (h : pkB xs i = 93) : clsG (xs.length - i + 1) p (xs.drop i) = some (p, xs.drop (i + 1)) := by
  rw [(drop_pk (by omega) h).1, clsG, if_pos rfl]
theorem clsG_bad {xs : List Int} {i : Nat} {p : Nat → Bool} (h : pkB xs i ≠ 93) (hm : mem1 p (xs.drop i) = none) : clsG (xs.length - i + 1) p (xs.drop i) = none := by
  cases hs : xs.drop i with
  | nil => rfl
  | cons c r =>
    rw [clsG, if_neg (fun e => drop_ne h r (by rw [hs, e])), ← hs, hm]
    rfl
theorem mem1_lt {xs : List Int} {i j : Nat} {p p' : Nat → Bool} (hm : mem1 p (xs.drop i) = some (p', xs.drop j)) (hj : j ≤ xs.length) : i < j := by
  obtain ⟨pre, h1, h2, -⟩ := mem1_loc p _ _ _ hm
  have := congrArg List.length h1
  rw [List.length_append, List.length_drop, List.length_drop] at this
  omega
theorem clsG_go {xs : List Int} {i j : Nat} {p p' : Nat → Bool} (h : pkB xs i ≠ 93) (hm : mem1 p (xs.drop i) = some (p', xs.drop j)) (hj : j ≤ xs.length) : clsG (xs.length - i + 1) p (xs.drop i) = clsG (xs.length - j + 1) p' (xs.drop j) := by
  have hlt := mem1_lt hm hj
  cases hs : xs.drop i with
  | nil =>
    have := congrArg List.length hs
    rw [List.length_drop] at this
    simp at this
    omega
  | cons c r =>
    rw [clsG, if_neg (fun e => drop_ne h r (by rw [hs, e])), ← hs, hm, Option.bind_some]
    exact clsG_fuel (xs.length - j + 1) p' (xs.drop j) (by rw [List.length_drop]; omega) (xs.length - i) (by omega)
theorem Rdr.drew {w : World} {N q : Nat} {tv : Value} {xs : List Int} {at' d : Nat} {ov : Bool} (h : Rdr w N q tv xs at' d ov) : Rdr w.drew N q tv xs at' d ov := ⟨h.row, h.txt, h.lt⟩
theorem gw_drew (q : Nat) (w : World) : Gw q w w.drew := ⟨rfl, rfl, rfl, Nat.le_refl _, fun _ _ _ => rfl⟩
theorem row_gw {q m : Nat} {a b : World} {B : Nat} {t : TypeId} {F : Nat → Value} (h : Gw q a b) (hr : a.rowIs B t m F) (hq : B ≠ q) : b.rowIs B t m F := h.row hr (row_lt hr) hq

set_option maxHeartbeats 8000000 in
set_option maxRecDepth 100000 in
theorem readClass_any (w : World) (N q : Nat) (tv : Value) (xs : List Int) (at' d : Nat) (ov : Bool) (h : Rdr w N q tv xs at' d ov) (hb : ∀ x ∈ xs, 0 ≤ x ∧ x ≤ 255) (ha : at' ≤ xs.length) (hl : xs.length ≤ 100000) :
    Calls Try.prog 59 #[.pointer (some ⟨q, 0, none⟩)] w fun e w' => ClR e w w' N q tv xs at' d ov := by
  have hqs := h.in
  have hB0 := below1 w (.cells #[.int .u64 0, .int .u64 0, .int .u64 0, .int .u64 0] 98)
  obtain ⟨W, hW⟩ : ∃ W, W = w.alloc (.cells #[.int .u64 0, .int .u64 0, .int .u64 0, .int .u64 0] 98) := ⟨_, rfl⟩
  have rR := zero_row w 98
  rw [← hW] at rR hB0
  have hRW := h.keep hB0 (Nat.le_refl _)
  have HP := hide (take_any W N q tv xs at' d ov 94 hRW hb ha hl)
  have HRW := hide hRW
  have HRR := hide rR
  have HB0 := hide hB0
  have HB := hide hb
  clear h hb rR hB0 hRW
  go_enter Try.func59, Try.ntmps59
  go_wp2_with fail
  rw [← hW]
  clear hW
  refine (unhide HP).mono ?_
  rintro e w1 hcase
  obtain ⟨neg, at1, rfl, hR1, hob1, hle1, hcl⟩ : ∃ (neg : Bool) (at1 : Nat), e = .returned (.bool neg) ∧ Rdr w1 N q tv xs at1 d ov ∧ Gw q W w1 ∧ at1 ≤ xs.length ∧ cls (xs.drop at') = (clsG (xs.length - at1 + 1) (fun _ => false) (xs.drop at1)).map fun x => (cnn (pn neg x.1), x.2) := by
    rcases hcase with ⟨hno, rfl, n, rfl⟩ | ⟨hye, rfl, hR, hob⟩
    · exact ⟨false, at', rfl, (unhide HRW).drewN n, (obk_drewN q W n).gw, ha, cls_of.2 hno⟩
    · exact ⟨true, at' + 1, rfl, hR, hob.gw, (drop_pk (by omega) hye).2, cls_of.1 hye⟩
  have hb1 := below1 w1 (.cells #[.int .u64 0, .int .u64 0, .int .u64 0, .int .u64 0] 98)
  have rR1 := row_gw hob1 (unhide HRR) (by omega)
  have hz1 := row_lt rR1
  have HR2 := hide (hR1.keep hb1 (Nat.le_refl _))
  have RR2 := hide (rk rR1 hb1 (Nat.le_refl _))
  have HG2 := hide (((gw_of (unhide HB0) (Nat.le_refl _)).trans hob1).trans (gw_of hb1 (Nat.le_refl _)))
  have hq1 := hR1.in
  have HCL := hide hcl
  clear hb1 rR1 hR1 hob1 hcl HP HRR HB0 HRW hcase
  go_wp2
  go_loopw [7] (fun _ wr => ∃ (i : Nat) (g : Nat → Nat), i ≤ xs.length ∧ Rdr wr N q tv xs i d ov ∧ Fit g ∧ wr.rowIs w1.heap.size 98 4 (fun j => .int .u64 (g j : Nat)) ∧ wr.rowIs w.heap.size 98 4 (fun j => .int .u64 ((fun _ => 0 : Nat → Nat) j : Nat)) ∧ Gw q w wr ∧ clsG (xs.length - at1 + 1) (fun _ => false) (xs.drop at1) = clsG (xs.length - i + 1) (fun b => Bt g b) (xs.drop i)) (fun _ wr => xs.length - posOf q wr)
  case atStart => exact ⟨at1, fun _ => 0, hle1, unhide HR2, zero_fit, zero_row w1 _, unhide RR2, unhide HG2, by rw [show (fun b => Bt (fun _ => 0) b) = fun _ => false from funext zero_bt]⟩
  case round =>
    clear HR2 RR2 HG2
    obtain ⟨i, g, hi, hR, hf, rS, rR, hG, hcg⟩ := hrel
    obtain ⟨w3, rfl⟩ : ∃ w3, w3 = wr := ⟨_, rfl⟩
    have HT := hide (take_any w3 N q tv xs i d ov 93 hR (unhide HB) hi hl)
    have HR := hide hR
    have HF := hide hf
    have RS := hide rS
    have RR := hide rR
    have HG := hide hG
    have HCG := hide hcg
    have hz3 := row_lt rS
    have HPO := hide hR.pos
    clear hR hf rS rR hG hcg
    go_wp2_with fail
    refine (unhide HT).mono ?_
    rintro e w4 (⟨hno, rfl, n4, rfl⟩ | ⟨hye, rfl, hR4, hob4⟩)
    · have hR4 := (unhide HR).drewN n4
      obtain ⟨w5, hw5⟩ : ∃ w5, w5 = w3.drewN n4 := ⟨_, rfl⟩
      rw [← hw5] at hR4 ⊢
      have hG5 : Gw q w3 w5 := by rw [hw5]; exact (obk_drewN q w3 n4).gw
      have rS5 := row_gw hG5 (unhide RS) (by omega)
      have rR5 := row_gw hG5 (unhide RR) (by omega)
      have HM := readMember_any w5.drew N q tv xs i d ov hR4.drew (unhide HB) hi hl
      obtain ⟨⟨s0, s1, s2, s3⟩, -⟩ := row4f rS5
      clear hw5 HT
      cases hm : mem1 (fun b => Bt g b) (xs.drop i) with
      | none =>
        have HMN : Hid (Calls Try.prog 67 #[.pointer (some ⟨q, 0, none⟩)] w5.drew fun e w' => Flt e ∧ Gw q w5.drew w') := HM.mono fun e w' h => by
          rcases h with ⟨h1, ⟨-, h2⟩ | ⟨g', a2, -, -, -, -, h3⟩⟩
          · exact ⟨h2, h1⟩
          · rw [h3] at hm; cases hm
        have HX : Hid (cls (xs.drop at') = none) := by show cls _ = none; rw [unhide HCL, unhide HCG, clsG_bad hno hm]; rfl
        have HG5 := hide ((unhide HG).trans (hG5.trans (gw_drew q w5)))
        clear HM hm hno hG5 rS5 rR5 hR4
        go_wp2
        go_region_dies
        all_goals
          (with_reducible refine (unhide HMN).mono ?_)
          rintro e w6 ⟨⟨z, rfl⟩, hg6⟩
          exact ⟨rfl, (unhide HG5).trans hg6, .inl ⟨unhide HX, _, rfl⟩⟩
      | some x =>
        have HMS : Hid (Calls Try.prog 67 #[.pointer (some ⟨q, 0, none⟩)] w5.drew fun e w' => Gw q w5.drew w' ∧ ∃ (g' : Nat → Nat) (at2 : Nat), e = .returned (.agg #[.int .u64 (g' 0 : Nat), .int .u64 (g' 1 : Nat), .int .u64 (g' 2 : Nat), .int .u64 (g' 3 : Nat)]) ∧ Fit g' ∧ at2 ≤ xs.length ∧ Rdr w' N q tv xs at2 d ov ∧ ∀ p, mem1 p (xs.drop i) = some (fun b => p b || Bt g' b, xs.drop at2)) := HM.mono fun e w' h => by
          rcases h with ⟨h1, ⟨h2, -⟩ | h2⟩
          · rw [h2] at hm; cases hm
          · exact ⟨h1, h2⟩
        have HNO := hide hno
        have HG5 := hide ((unhide HG).trans (hG5.trans (gw_drew q w5)))
        have RS5 := hide rS5
        have RR5 := hide rR5
        clear HM hm hno hG5 rS5 rR5 hR4
        go_wp2
        go_region_with ((first | ((with_reducible refine (unhide HMS).mono ?_); rintro e w6 ⟨hg6, g6, at6, rfl, hf6, hle6, hR6, hm6⟩; have HG6 := hide hg6; have HF6 := hide hf6; have HR6 := hide hR6; have HM6 := hide hm6; have HU6 : Hid (Calls Try.prog 66 #[.agg #[.int .u64 (g 0 : Nat), .int .u64 (g 1 : Nat), .int .u64 (g 2 : Nat), .int .u64 (g 3 : Nat)], .agg #[.int .u64 (g6 0 : Nat), .int .u64 (g6 1 : Nat), .int .u64 (g6 2 : Nat), .int .u64 (g6 3 : Nat)]] w6 fun e w' => e = .returned (.agg #[.int .u64 (or4 g g6 0 : Nat), .int .u64 (or4 g g6 1 : Nat), .int .u64 (or4 g g6 2 : Nat), .int .u64 (or4 g g6 3 : Nat)]) ∧ Below w6.heap.size w6 w') := (union_w g g6 w6 (unhide HF) (unhide HF6)); have rS6 := row_gw hg6 (B := w1.heap.size) (unhide RS5) (by omega); have RR6 := hide (row_gw hg6 (B := w.heap.size) (unhide RR5) (by omega)); obtain ⟨⟨t0, t1, t2, t3⟩, -⟩ := row4f rS6; have RS6 := hide rS6; clear hg6 hf6 hR6 hm6 rS6) | ((with_reducible refine (unhide HU6).mono ?_); rintro e w7 ⟨rfl, hb7⟩; have RS7 := hide (rk (unhide RS6) hb7 (Nat.le_refl _)); obtain ⟨⟨u0, u1, u2, u3⟩, y0, y1, y2, y3⟩ := row4f (unhide RS7); have HB7 := hide hb7; clear hb7)))
        all_goals
          have hqz : q < w1.heap.size := hq1
          have HR9 := hide (((unhide HR6).keep (unhide HB7) (Nat.le_refl _)).puts (m := w1.heap.size) hq1 (.int .u64 (or4 g g6 0 : Nat)) (.int .u64 (or4 g g6 1 : Nat)) (.int .u64 (or4 g g6 2 : Nat)) (.int .u64 (or4 g g6 3 : Nat)))
          have HG9 := hide (gw_puts (((unhide HG5).trans (unhide HG6)).trans (gw_of (unhide HB7) (Nat.le_refl _))) (m := w1.heap.size) (by omega) (.int .u64 (or4 g g6 0 : Nat)) (.int .u64 (or4 g g6 1 : Nat)) (.int .u64 (or4 g g6 2 : Nat)) (.int .u64 (or4 g g6 3 : Nat)))
          have RS9 := hide (row_puts (unhide RS7) (or4 g g6))
          have RR9 := hide (row_oths (rk (unhide RR6) (unhide HB7) (Nat.le_refl _)) (m := w1.heap.size) (by omega) (.int .u64 (or4 g g6 0 : Nat)) (.int .u64 (or4 g g6 1 : Nat)) (.int .u64 (or4 g g6 2 : Nat)) (.int .u64 (or4 g g6 3 : Nat)))
          have hlt6 := mem1_lt (unhide HM6 (fun b => Bt g b)) hle6
          have HC9 : Hid (clsG (xs.length - at1 + 1) (fun _ => false) (xs.drop at1) = clsG (xs.length - at6 + 1) (fun b => Bt (or4 g g6) b) (xs.drop at6)) := by
            show _ = _
            rw [unhide HCG, clsG_go (unhide HNO) (unhide HM6 (fun b => Bt g b)) hle6, show (fun b => Bt (or4 g g6) b) = (fun b => Bt g b || Bt g6 b) from funext (or4_bt g g6)]
          have HM9 : Hid (xs.length - at6 < xs.length - i) := by show _ < _; omega
          clear t0 t1 t2 t3 u0 u1 u2 u3 y0 y1 y2 y3 HG5 HG6 HB7 RS7 RR6 RS6 HU6 HMS RS5 RR5 s0 s1 s2 s3
          go_wp2
          go_roundw
          case rel => exact ⟨at6, or4 g g6, hle6, unhide HR9, or4_fit (unhide HF) (unhide HF6), unhide RS9, unhide RR9, unhide HG9, unhide HC9⟩
          case measure => rw [(unhide HR9).pos, unhide HPO]; exact unhide HM9
    · have HX := hide (clsG_stop (p := fun b => Bt g b) hye)
      have hle4 : i + 1 ≤ xs.length := (drop_pk (by omega) hye).2
      have HG4 := hide ((unhide HG).trans hob4.gw)
      have rS4 := row_gw hob4.gw (unhide RS) (by omega)
      have rR4 := row_gw hob4.gw (unhide RR) (by omega)
      have HR4 := hide hR4
      obtain ⟨⟨s0, s1, s2, s3⟩, -⟩ := row4f rS4
      have RR4 := hide rR4
      clear hye hob4 rS4 rR4 hR4 HT
      cases neg with
      | true =>
        have HY : Hid (cls (xs.drop at') = some (cnn (pn true (fun b => Bt g b)), xs.drop (i + 1))) := by show cls _ = _; rw [unhide HCL, unhide HCG, unhide HX]; rfl
        have HW : Hid (WordsOf (cnn (pn true (fun b => Bt g b))) (cmp4 g)) := ⟨cmp4_fit g, fun b => by rw [cmp4_bt (unhide HF), (cnn_ok _).2 b]; rfl⟩
        have HU : Hid (Calls Try.prog 65 #[.agg #[.int .u64 (g 0 : Nat), .int .u64 (g 1 : Nat), .int .u64 (g 2 : Nat), .int .u64 (g 3 : Nat)]] w4 fun e w' => e = .returned (.agg #[.int .u64 (cmp4 g 0 : Nat), .int .u64 (cmp4 g 1 : Nat), .int .u64 (cmp4 g 2 : Nat), .int .u64 (cmp4 g 3 : Nat)]) ∧ Below w4.heap.size w4 w') := complement_w g w4 (unhide HF)
        go_wp2_with fail
        refine (unhide HU).mono ?_
        rintro e w5 ⟨rfl, hb5⟩
        obtain ⟨⟨r0, r1, r2, r3⟩, j0, j1, j2, j3⟩ := row4f (rk (unhide RR4) hb5 (Nat.le_refl _))
        have HR9 := hide (((unhide HR4).keep hb5 (Nat.le_refl _)).puts (m := w.heap.size) hqs (.int .u64 (cmp4 g 0 : Nat)) (.int .u64 (cmp4 g 1 : Nat)) (.int .u64 (cmp4 g 2 : Nat)) (.int .u64 (cmp4 g 3 : Nat)))
        have HG9 := hide (gw_puts ((unhide HG4).trans (gw_of hb5 (Nat.le_refl _))) (m := w.heap.size) (Nat.le_refl _) (.int .u64 (cmp4 g 0 : Nat)) (.int .u64 (cmp4 g 1 : Nat)) (.int .u64 (cmp4 g 2 : Nat)) (.int .u64 (cmp4 g 3 : Nat)))
        clear hb5 HU s0 s1 s2 s3
        go_wp2
        refine bodyPost_ret (v := .agg #[.int .u64 (cmp4 g 0 : Nat), .int .u64 (cmp4 g 1 : Nat), .int .u64 (cmp4 g 2 : Nat), .int .u64 (cmp4 g 3 : Nat)]) (by simp [results, Try.results59, go_sem, r0, r1, r2, r3]) rfl ⟨unhide HG9, .inr ⟨cmp4 g, _, _, rfl, unhide HY, hle4, unhide HR9, unhide HW, (cnn_ok _).1⟩⟩
      | false =>
        have HY : Hid (cls (xs.drop at') = some (cnn (pn false (fun b => Bt g b)), xs.drop (i + 1))) := by show cls _ = _; rw [unhide HCL, unhide HCG, unhide HX]; rfl
        have HW : Hid (WordsOf (cnn (pn false (fun b => Bt g b))) (trc g)) := words_cnn (unhide HF) (fun b => rfl)
        obtain ⟨⟨r0, r1, r2, r3⟩, j0, j1, j2, j3⟩ := row4f (unhide RR4)
        have HR9 := hide ((unhide HR4).puts (m := w.heap.size) hqs (.int .u64 (g 0 : Nat)) (.int .u64 (g 1 : Nat)) (.int .u64 (g 2 : Nat)) (.int .u64 (g 3 : Nat)))
        have HG9 := hide (gw_puts (unhide HG4) (m := w.heap.size) (Nat.le_refl _) (.int .u64 (g 0 : Nat)) (.int .u64 (g 1 : Nat)) (.int .u64 (g 2 : Nat)) (.int .u64 (g 3 : Nat)))
        go_wp2
        refine bodyPost_ret (v := .agg #[.int .u64 (g 0 : Nat), .int .u64 (g 1 : Nat), .int .u64 (g 2 : Nat), .int .u64 (g 3 : Nat)]) (by simp [results, Try.results59, go_sem, r0, r1, r2, r3]) rfl ⟨unhide HG9, .inr ⟨trc g, _, _, rfl, unhide HY, hle4, unhide HR9, unhide HW, (cnn_ok _).1⟩⟩

end Go.Proofs.Ytjjmgegbeccjoaa
