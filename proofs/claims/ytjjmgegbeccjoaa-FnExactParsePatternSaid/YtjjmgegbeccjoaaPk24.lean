import Derived.Test.YtjjmgegbeccjoaaPk23
namespace Go.Proofs.Ytjjmgegbeccjoaa
open Go.RowKit

/-- What readEscape leaves, and readClassPart with other readers. -/
def PrR (se : List Int → Option (List Int × List Int)) (be : List Int → Option (Int × List Int)) (e : Ending) (w w' : World) (N q : Nat) (tv : Value) (xs : List Int) (at' d : Nat) (ov : Bool) : Prop :=
  Gw q w w' ∧ ((se (xs.drop at') = none ∧ be (xs.drop at') = none ∧ Flt e) ∨ ∃ (g : Nat → Nat) (lo : Int) (at2 : Nat), e = .returned (.tuple #[ws4 g, .int .i64 lo]) ∧ Fit g ∧ at2 ≤ xs.length ∧ Rdr w' N q tv xs at2 d ov ∧
    ((lo = -1 ∧ ∃ cs, se (xs.drop at') = some (cs, xs.drop at2) ∧ ∀ b : Nat, Bt g b = inR cs b) ∨ (se (xs.drop at') = none ∧ be (xs.drop at') = some (lo, xs.drop at2) ∧ 0 ≤ lo ∧ lo ≤ 255 ∧ ∀ b : Nat, Bt g b = decide (lo ≤ (b : Int) ∧ (b : Int) ≤ lo))))
theorem rk {w w' : World} {B m n : Nat} {t : TypeId} {F : Nat → Value} (hr : w.rowIs B t n F) (hb : Below m w w') (hm : w.heap.size ≤ m) : w'.rowIs B t n F := World.rowIs.of_block hr (hb.block B (Nat.lt_of_lt_of_le (row_lt hr) hm))
theorem Rdr.puts {w : World} {N q m : Nat} {tv : Value} {xs : List Int} {at' d : Nat} {ov : Bool} (h : Rdr w N q tv xs at' d ov) (hm : q < m) (u0 u1 u2 u3 : Value) : Rdr ((((w.setCell ⟨m, 0, none⟩ u0).setCell ⟨m, 1, none⟩ u1).setCell ⟨m, 2, none⟩ u2).setCell ⟨m, 3, none⟩ u3) N q tv xs at' d ov := (((h.put hm _).put hm _).put hm _).put hm _
theorem gw_puts {q m : Nat} {a b : World} (h : Gw q a b) (hm : a.heap.size ≤ m) (u0 u1 u2 u3 : Value) : Gw q a ((((b.setCell ⟨m, 0, none⟩ u0).setCell ⟨m, 1, none⟩ u1).setCell ⟨m, 2, none⟩ u2).setCell ⟨m, 3, none⟩ u3) := gw_put (gw_put (gw_put (gw_put h hm _ _) hm _ _) hm _ _) hm _ _
theorem row_puts {w : World} {B : Nat} {t : TypeId} {F : Nat → Value} (h : w.rowIs B t 4 F) (g : Nat → Nat) : ((((w.setCell ⟨B, 0, none⟩ (.int .u64 (g 0 : Nat))).setCell ⟨B, 1, none⟩ (.int .u64 (g 1 : Nat))).setCell ⟨B, 2, none⟩ (.int .u64 (g 2 : Nat))).setCell ⟨B, 3, none⟩ (.int .u64 (g 3 : Nat))).rowIs B t 4 (fun j => .int .u64 (g j : Nat)) :=
  (World.rowIs.set (World.rowIs.set (World.rowIs.set (World.rowIs.set h 0 _) 1 _) 2 _) 3 _).congr (fun j hj => by
    match j, hj with
    | 0, _ => rfl
    | 1, _ => rfl
    | 2, _ => rfl
    | 3, _ => rfl)
theorem row_oths {w : World} {B m : Nat} {t : TypeId} {F : Nat → Value} (h : w.rowIs B t 4 F) (hm : B ≠ m) (u0 u1 u2 u3 : Value) : ((((w.setCell ⟨m, 0, none⟩ u0).setCell ⟨m, 1, none⟩ u1).setCell ⟨m, 2, none⟩ u2).setCell ⟨m, 3, none⟩ u3).rowIs B t 4 F := (((h.setOther hm _).setOther hm _).setOther hm _).setOther hm _
theorem sz_puts (w : World) (m : Nat) (u0 u1 u2 u3 : Value) : ((((w.setCell ⟨m, 0, none⟩ u0).setCell ⟨m, 1, none⟩ u1).setCell ⟨m, 2, none⟩ u2).setCell ⟨m, 3, none⟩ u3).heap.size = w.heap.size := by simp [World.setCell]
theorem row4f {w : World} {B : Nat} {t : TypeId} {F : Nat → Value} (h : w.rowIs B t 4 F) : (w.cell? ⟨B, 0, none⟩ = some (F 0) ∧ w.cell? ⟨B, 1, none⟩ = some (F 1) ∧ w.cell? ⟨B, 2, none⟩ = some (F 2) ∧ w.cell? ⟨B, 3, none⟩ = some (F 3)) ∧ w.frozen? ⟨B, 0, none⟩ = false ∧ w.frozen? ⟨B, 1, none⟩ = false ∧ w.frozen? ⟨B, 2, none⟩ = false ∧ w.frozen? ⟨B, 3, none⟩ = false :=
  ⟨⟨h.cell (i := 0) (by omega), h.cell (i := 1) (by omega), h.cell (i := 2) (by omega), h.cell (i := 3) (by omega)⟩, h.frozen 0, h.frozen 1, h.frozen 2, h.frozen 3⟩

theorem esc_bt {g1 g2 g3 g4 : Nat → Nat} {b : Nat} (h1 : Bt g1 b = (Bt (fun _ => 0) b || decide ((65 : Int) ≤ (b : Int) ∧ (b : Int) ≤ 90))) (h2 : Bt g2 b = (Bt g1 b || decide ((97 : Int) ≤ (b : Int) ∧ (b : Int) ≤ 122))) (h3 : Bt g3 b = (Bt g2 b || decide ((95 : Int) ≤ (b : Int) ∧ (b : Int) ≤ 95))) (h4 : Bt g4 b = (Bt g3 b || decide ((48 : Int) ≤ (b : Int) ∧ (b : Int) ≤ 57))) : Bt g4 b = inR [48, 57, 65, 90, 95, 95, 97, 122] b := by
  rw [h4, h3, h2, h1, zero_bt, Bool.eq_iff_iff]
  simp [inR]
  omega

set_option maxHeartbeats 8000000 in
set_option maxRecDepth 100000 in
theorem readEscape_any (w : World) (N q : Nat) (tv : Value) (xs : List Int) (at' d : Nat) (ov : Bool) (h : Rdr w N q tv xs at' d ov) (hb : ∀ x ∈ xs, 0 ≤ x ∧ x ≤ 255) (ha : at' ≤ xs.length) (hl : xs.length ≤ 100000) :
    Calls Try.prog 60 #[.pointer (some ⟨q, 0, none⟩)] w fun e w' => PrR sesc besc e w w' N q tv xs at' d ov := by
  have hqs := h.in
  have hB0 := below2 w (.cells #[.int .u64 0, .int .u64 0, .int .u64 0, .int .u64 0] 98) (.cells #[.int .u64 0, .int .u64 0, .int .u64 0, .int .u64 0] 98)
  obtain ⟨W, hW⟩ : ∃ W, W = (w.alloc (.cells #[.int .u64 0, .int .u64 0, .int .u64 0, .int .u64 0] 98)).alloc (.cells #[.int .u64 0, .int .u64 0, .int .u64 0, .int .u64 0] 98) := ⟨_, rfl⟩
  have rR := World.rowIs.alloc (zero_row w 98) (.cells #[.int .u64 0, .int .u64 0, .int .u64 0, .int .u64 0] 98)
  have rS := zero_row (w.alloc (.cells #[.int .u64 0, .int .u64 0, .int .u64 0, .int .u64 0] 98)) 98
  rw [sz_alloc] at rS
  rw [← hW] at rR rS hB0
  have HP := hide (next_any W N q tv xs at' d ov (h.keep hB0 (Nat.le_refl _)) hb ha hl)
  have HRR := hide rR
  have HRS := hide rS
  have HB0 := hide hB0
  have HB := hide hb
  have HW := hide hW
  clear h hb rR rS hB0
  go_enter Try.func60, Try.ntmps60
  go_wp2_with fail
  rw [← hW]
  clear hW
  refine (unhide HP).mono ?_
  rintro e w1 (⟨hat, rfl, n1, rfl⟩ | ⟨hlt, rfl, hR1, hob⟩)
  · have HX : Hid (sesc (xs.drop at') = none ∧ besc (xs.drop at') = none) := by
      show _ ∧ _
      rw [List.drop_eq_nil_of_le (by omega)]
      exact ⟨rfl, rfl⟩
    clear hat
    go_wp2
    exact ⟨rfl, (gw_of (unhide HB0) (Nat.le_refl _)).trans (obk_drewN q W n1).gw, .inl ⟨(unhide HX).1, (unhide HX).2, _, rfl⟩⟩
  · have hG1 : Gw q w w1 := (gw_of (unhide HB0) (Nat.le_refl _)).trans hob.gw
    have rR1 := hob.gw.row (unhide HRR) (row_lt (unhide HRR)) (by omega)
    have rS1 := hob.gw.row (unhide HRS) (row_lt (unhide HRS)) (by omega)
    obtain ⟨c, hce⟩ : ∃ c, c = xs[at']?.getD 0 := ⟨_, rfl⟩
    have hc9 := unhide HB (xs[at']?.getD 0) (by rw [List.getElem?_eq_getElem hlt]; exact List.getElem_mem hlt)
    have HD := hide (drop_at hlt)
    rw [← hce] at hc9 HD ⊢
    obtain ⟨c0, c1⟩ := hc9
    have hsz1 := row_lt rS1
    have HR1 := hide hR1
    have HG1 := hide hG1
    have hle1 : at' + 1 ≤ xs.length := hlt
    clear HP hob hce hlt hR1 hG1 HB0 HRR HRS HW
    by_cases e1 : c = 119
    · subst e1
      obtain ⟨⟨a0, a1, a2, a3⟩, -⟩ := row4f rS1
      have RR1 := hide rR1
      have RS1 := hide rS1
      clear rR1 rS1
      go_wp2_with fail
      refine (with_w (fun _ => 0) 65 90 w1 zero_fit (by omega) (by omega) (by omega)).mono ?_
      rintro e w2 ⟨g2, rfl, hf2, hbt2, hb2⟩
      have HF2 := hide hf2
      have BT2 := hide hbt2
      have RR2 := hide (rk (unhide RR1) hb2 (Nat.le_refl _))
      have RS2 := hide (rk (unhide RS1) hb2 (Nat.le_refl _))
      have HR2 := hide ((unhide HR1).keep hb2 (Nat.le_refl _))
      have HG2 := hide ((unhide HG1).trans (gw_of hb2 (Nat.le_refl _)))
      have hz2 := hb2.size
      clear hf2 hbt2 hb2 RR1 RS1 HR1 HG1 a0 a1 a2 a3
      unfold ws4
      go_wp2_with fail
      refine (with_w g2 97 122 w2 (unhide HF2) (by omega) (by omega) (by omega)).mono ?_
      rintro e w3 ⟨g3, rfl, hf3, hbt3, hb3⟩
      have HF3 := hide hf3
      have BT3 := hide hbt3
      have RR3 := hide (rk (unhide RR2) hb3 (Nat.le_refl _))
      have RS3 := hide (rk (unhide RS2) hb3 (Nat.le_refl _))
      have HR3 := hide ((unhide HR2).keep hb3 (Nat.le_refl _))
      have HG3 := hide ((unhide HG2).trans (gw_of hb3 (Nat.le_refl _)))
      have hz3 := hb3.size
      clear hf3 hbt3 hb3 RR2 RS2 HR2 HG2
      unfold ws4
      go_wp2_with fail
      refine (with_w g3 95 95 w3 (unhide HF3) (by omega) (by omega) (by omega)).mono ?_
      rintro e w4 ⟨g4, rfl, hf4, hbt4, hb4⟩
      have HF4 := hide hf4
      have BT4 := hide hbt4
      have rS4 := rk (unhide RS3) hb4 (Nat.le_refl _)
      have RR4 := hide (row_oths (rk (unhide RR3) hb4 (Nat.le_refl _)) (m := w.heap.size + 1) (by omega) (.int .u64 (g4 0 : Nat)) (.int .u64 (g4 1 : Nat)) (.int .u64 (g4 2 : Nat)) (.int .u64 (g4 3 : Nat)))
      have HR4 := hide (((unhide HR3).keep hb4 (Nat.le_refl _)).puts (m := w.heap.size + 1) (by omega) (.int .u64 (g4 0 : Nat)) (.int .u64 (g4 1 : Nat)) (.int .u64 (g4 2 : Nat)) (.int .u64 (g4 3 : Nat)))
      have HG4 := hide (gw_puts ((unhide HG3).trans (gw_of hb4 (Nat.le_refl _))) (m := w.heap.size + 1) (by omega) (.int .u64 (g4 0 : Nat)) (.int .u64 (g4 1 : Nat)) (.int .u64 (g4 2 : Nat)) (.int .u64 (g4 3 : Nat)))
      have hz4 := hb4.size
      obtain ⟨⟨z0, z1, z2, z3⟩, f0, f1, f2, f3⟩ := row4f rS4
      have RS4 := hide (row_puts rS4 g4)
      clear hf4 hbt4 hb4 RR3 RS3 HR3 HG3 rS4
      unfold ws4
      go_wp2_with fail
      refine (with_w g4 48 57 _ (unhide HF4) (by omega) (by omega) (by omega)).mono ?_
      rintro e w5 ⟨g5, rfl, hf5, hbt5, hb5⟩
      have HF5 := hide hf5
      have BT5 : Hid (∀ b : Nat, Bt g5 b = inR [48, 57, 65, 90, 95, 95, 97, 122] b) := fun b => esc_bt (unhide BT2 b) (unhide BT3 b) (unhide BT4 b) (hbt5 b)
      have rS5 := rk (unhide RS4) hb5 (Nat.le_refl _)
      have rR5 := rk (unhide RR4) hb5 (Nat.le_refl _)
      have HR5 := hide ((((unhide HR4).keep hb5 (Nat.le_refl _)).puts (m := w.heap.size + 1) (by omega) (.int .u64 (g5 0 : Nat)) (.int .u64 (g5 1 : Nat)) (.int .u64 (g5 2 : Nat)) (.int .u64 (g5 3 : Nat))).puts (m := w.heap.size) hqs (.int .u64 (g5 0 : Nat)) (.int .u64 (g5 1 : Nat)) (.int .u64 (g5 2 : Nat)) (.int .u64 (g5 3 : Nat)))
      have HG5 := hide (gw_puts (gw_puts ((unhide HG4).trans (gw_of hb5 (Nat.le_refl _))) (m := w.heap.size + 1) (by omega) (.int .u64 (g5 0 : Nat)) (.int .u64 (g5 1 : Nat)) (.int .u64 (g5 2 : Nat)) (.int .u64 (g5 3 : Nat))) (m := w.heap.size) (Nat.le_refl _) (.int .u64 (g5 0 : Nat)) (.int .u64 (g5 1 : Nat)) (.int .u64 (g5 2 : Nat)) (.int .u64 (g5 3 : Nat)))
      obtain ⟨⟨s0, s1, s2, s3⟩, k0, k1, k2, k3⟩ := row4f rS5
      obtain ⟨⟨r0, r1, r2, r3⟩, j0, j1, j2, j3⟩ := row4f rR5
      have HX : Hid (sesc (xs.drop at') = some ([48, 57, 65, 90, 95, 95, 97, 122], xs.drop (at' + 1))) := by show sesc _ = _; rw [unhide HD]; rfl
      clear hf5 hbt5 hb5 rS5 rR5 HR4 HG4 RR4 RS4 BT2 BT3 BT4 HF2 HF3 HF4 f0 f1 f2 f3 z0 z1 z2 z3
      unfold ws4
      go_wp2
      refine bodyPost_ret (v := .tuple #[.agg #[.int .u64 (g5 0 : Nat), .int .u64 (g5 1 : Nat), .int .u64 (g5 2 : Nat), .int .u64 (g5 3 : Nat)], .int .i64 (-1)]) (by simp [results, Try.results60, go_sem, r0, r1, r2, r3]) rfl ⟨unhide HG5, .inr ⟨g5, -1, _, rfl, unhide HF5, hle1, unhide HR5, .inl ⟨rfl, _, unhide HX, unhide BT5⟩⟩⟩
    by_cases e100 : c = 100
    · subst e100
      obtain ⟨⟨a0, a1, a2, a3⟩, -⟩ := row4f rS1
      have RR1 := hide rR1
      have RS1 := hide rS1
      clear rR1 rS1
      go_wp2_with fail
      refine (with_w (fun _ => 0) 48 57 w1 zero_fit (by omega) (by omega) (by omega)).mono ?_
      rintro e w2 ⟨g2, rfl, hf2, hbt2, hb2⟩
      have HF2 := hide hf2
      have BT2 := hide hbt2
      have RR2 := hide (rk (unhide RR1) hb2 (Nat.le_refl _))
      have RS2 := hide (rk (unhide RS1) hb2 (Nat.le_refl _))
      have HR2 := hide ((unhide HR1).keep hb2 (Nat.le_refl _))
      have HG2 := hide ((unhide HG1).trans (gw_of hb2 (Nat.le_refl _)))
      have hz2 := hb2.size
      clear hf2 hbt2 hb2 RR1 RS1 HR1 HG1 a0 a1 a2 a3
      unfold ws4
      have HR9 := hide (((unhide HR2).puts (m := w.heap.size + 1) (by omega) (.int .u64 (g2 0 : Nat)) (.int .u64 (g2 1 : Nat)) (.int .u64 (g2 2 : Nat)) (.int .u64 (g2 3 : Nat))).puts (m := w.heap.size) hqs (.int .u64 (g2 0 : Nat)) (.int .u64 (g2 1 : Nat)) (.int .u64 (g2 2 : Nat)) (.int .u64 (g2 3 : Nat)))
      have HG9 := hide (gw_puts (gw_puts (unhide HG2) (m := w.heap.size + 1) (by omega) (.int .u64 (g2 0 : Nat)) (.int .u64 (g2 1 : Nat)) (.int .u64 (g2 2 : Nat)) (.int .u64 (g2 3 : Nat))) (m := w.heap.size) (Nat.le_refl _) (.int .u64 (g2 0 : Nat)) (.int .u64 (g2 1 : Nat)) (.int .u64 (g2 2 : Nat)) (.int .u64 (g2 3 : Nat)))
      obtain ⟨⟨s0, s1, s2, s3⟩, k0, k1, k2, k3⟩ := row4f (unhide RS2)
      obtain ⟨⟨r0, r1, r2, r3⟩, j0, j1, j2, j3⟩ := row4f (unhide RR2)
      have HX : Hid (sesc (xs.drop at') = some ([48, 57], xs.drop (at' + 1))) := by show sesc _ = _; rw [unhide HD]; rfl
      have BT9 : Hid (∀ b : Nat, Bt g2 b = inR [48, 57] b) := fun b => by
        rw [unhide BT2 b, zero_bt, Bool.eq_iff_iff]
        simp [inR]
        try omega
      go_wp2
      refine bodyPost_ret (v := .tuple #[.agg #[.int .u64 (g2 0 : Nat), .int .u64 (g2 1 : Nat), .int .u64 (g2 2 : Nat), .int .u64 (g2 3 : Nat)], .int .i64 (-1)]) (by simp [results, Try.results60, go_sem, r0, r1, r2, r3]) rfl ⟨unhide HG9, .inr ⟨g2, -1, _, rfl, unhide HF2, hle1, unhide HR9, .inl ⟨rfl, _, unhide HX, unhide BT9⟩⟩⟩
    by_cases e115 : c = 115
    · subst e115
      obtain ⟨⟨a0, a1, a2, a3⟩, -⟩ := row4f rS1
      have RR1 := hide rR1
      have RS1 := hide rS1
      clear rR1 rS1
      go_wp2_with fail
      refine (with_w (fun _ => 0) 9 10 w1 zero_fit (by omega) (by omega) (by omega)).mono ?_
      rintro e w2 ⟨g2, rfl, hf2, hbt2, hb2⟩
      have HF2 := hide hf2
      have BT2 := hide hbt2
      have RR2 := hide (rk (unhide RR1) hb2 (Nat.le_refl _))
      have RS2 := hide (rk (unhide RS1) hb2 (Nat.le_refl _))
      have HR2 := hide ((unhide HR1).keep hb2 (Nat.le_refl _))
      have HG2 := hide ((unhide HG1).trans (gw_of hb2 (Nat.le_refl _)))
      have hz2 := hb2.size
      clear hf2 hbt2 hb2 RR1 RS1 HR1 HG1 a0 a1 a2 a3
      unfold ws4
      go_wp2_with fail
      refine (with_w g2 13 13 w2 (unhide HF2) (by omega) (by omega) (by omega)).mono ?_
      rintro e w3 ⟨g3, rfl, hf3, hbt3, hb3⟩
      have HF3 := hide hf3
      have BT3 := hide hbt3
      have RR3 := hide (rk (unhide RR2) hb3 (Nat.le_refl _))
      have RS3 := hide (rk (unhide RS2) hb3 (Nat.le_refl _))
      have HR3 := hide ((unhide HR2).keep hb3 (Nat.le_refl _))
      have HG3 := hide ((unhide HG2).trans (gw_of hb3 (Nat.le_refl _)))
      have hz3 := hb3.size
      clear hf3 hbt3 hb3 RR2 RS2 HR2 HG2
      unfold ws4
      go_wp2_with fail
      refine (with_w g3 32 32 w3 (unhide HF3) (by omega) (by omega) (by omega)).mono ?_
      rintro e w4 ⟨g4, rfl, hf4, hbt4, hb4⟩
      have HF4 := hide hf4
      have BT4 := hide hbt4
      have RR4 := hide (rk (unhide RR3) hb4 (Nat.le_refl _))
      have RS4 := hide (rk (unhide RS3) hb4 (Nat.le_refl _))
      have HR4 := hide ((unhide HR3).keep hb4 (Nat.le_refl _))
      have HG4 := hide ((unhide HG3).trans (gw_of hb4 (Nat.le_refl _)))
      have hz4 := hb4.size
      clear hf4 hbt4 hb4 RR3 RS3 HR3 HG3
      unfold ws4
      have HR9 := hide (((unhide HR4).puts (m := w.heap.size + 1) (by omega) (.int .u64 (g4 0 : Nat)) (.int .u64 (g4 1 : Nat)) (.int .u64 (g4 2 : Nat)) (.int .u64 (g4 3 : Nat))).puts (m := w.heap.size) hqs (.int .u64 (g4 0 : Nat)) (.int .u64 (g4 1 : Nat)) (.int .u64 (g4 2 : Nat)) (.int .u64 (g4 3 : Nat)))
      have HG9 := hide (gw_puts (gw_puts (unhide HG4) (m := w.heap.size + 1) (by omega) (.int .u64 (g4 0 : Nat)) (.int .u64 (g4 1 : Nat)) (.int .u64 (g4 2 : Nat)) (.int .u64 (g4 3 : Nat))) (m := w.heap.size) (Nat.le_refl _) (.int .u64 (g4 0 : Nat)) (.int .u64 (g4 1 : Nat)) (.int .u64 (g4 2 : Nat)) (.int .u64 (g4 3 : Nat)))
      obtain ⟨⟨s0, s1, s2, s3⟩, k0, k1, k2, k3⟩ := row4f (unhide RS4)
      obtain ⟨⟨r0, r1, r2, r3⟩, j0, j1, j2, j3⟩ := row4f (unhide RR4)
      have HX : Hid (sesc (xs.drop at') = some ([9, 10, 13, 13, 32, 32], xs.drop (at' + 1))) := by show sesc _ = _; rw [unhide HD]; rfl
      have BT9 : Hid (∀ b : Nat, Bt g4 b = inR [9, 10, 13, 13, 32, 32] b) := fun b => by
        rw [unhide BT4 b, unhide BT3 b, unhide BT2 b, zero_bt, Bool.eq_iff_iff]
        simp [inR]
        try omega
      go_wp2
      refine bodyPost_ret (v := .tuple #[.agg #[.int .u64 (g4 0 : Nat), .int .u64 (g4 1 : Nat), .int .u64 (g4 2 : Nat), .int .u64 (g4 3 : Nat)], .int .i64 (-1)]) (by simp [results, Try.results60, go_sem, r0, r1, r2, r3]) rfl ⟨unhide HG9, .inr ⟨g4, -1, _, rfl, unhide HF4, hle1, unhide HR9, .inl ⟨rfl, _, unhide HX, unhide BT9⟩⟩⟩
    have HS : Hid (sesc (xs.drop at') = none) := by
      show sesc _ = none
      rw [unhide HD, sesc, if_neg e100, if_neg e1, if_neg e115]
    have HE := hide (escapedByte_any w1 N q tv xs c (at' + 1) d ov (unhide HR1) (unhide HB) hle1 hl c0 c1)
    have RR1 := hide rR1
    clear rR1 rS1 HR1
    go_wp2_with fail
    refine (unhide HE).mono ?_
    rintro e w2 ⟨hob, ⟨hno, z, rfl⟩ | ⟨v, at2, hy, hle, v0, v1, rfl, hR2⟩⟩
    · have HX : Hid (besc (xs.drop at') = none) := by rw [unhide HD]; exact hno
      have HG2 := hide ((unhide HG1).trans hob.gw)
      clear hno hob
      go_wp2
      exact ⟨rfl, unhide HG2, .inl ⟨unhide HS, unhide HX, _, rfl⟩⟩
    · have HX : Hid (besc (xs.drop at') = some (v, xs.drop at2)) := by rw [unhide HD]; exact hy
      have HG2 := hide ((unhide HG1).trans hob.gw)
      have RR2 := hide (hob.gw.row (unhide RR1) (row_lt (unhide RR1)) (by omega))
      have HR2 := hide hR2
      have hz2 := hob.gw.size
      clear hy hob hR2 HG1 RR1
      go_wp2_with fail
      refine (single_any v w2 v0 v1).mono ?_
      rintro e w3 ⟨⟨g3, rfl, hf3, hbt3⟩, hb3⟩
      have HF3 := hide hf3
      have BT3 := hide hbt3
      have HR9 := hide (((unhide HR2).keep hb3 (Nat.le_refl _)).puts (m := w.heap.size) hqs (.int .u64 (g3 0 : Nat)) (.int .u64 (g3 1 : Nat)) (.int .u64 (g3 2 : Nat)) (.int .u64 (g3 3 : Nat)))
      have HG9 := hide (gw_puts ((unhide HG2).trans (gw_of hb3 (Nat.le_refl _))) (m := w.heap.size) (Nat.le_refl _) (.int .u64 (g3 0 : Nat)) (.int .u64 (g3 1 : Nat)) (.int .u64 (g3 2 : Nat)) (.int .u64 (g3 3 : Nat)))
      obtain ⟨⟨r0, r1, r2, r3⟩, j0, j1, j2, j3⟩ := row4f (rk (unhide RR2) hb3 (Nat.le_refl _))
      clear hf3 hbt3 hb3 RR2 HR2 HG2
      unfold ws4
      go_wp2
      refine bodyPost_ret (v := .tuple #[.agg #[.int .u64 (g3 0 : Nat), .int .u64 (g3 1 : Nat), .int .u64 (g3 2 : Nat), .int .u64 (g3 3 : Nat)], .int .i64 v]) (by simp [results, Try.results60, go_sem, r0, r1, r2, r3]) rfl ⟨unhide HG9, .inr ⟨g3, v, _, rfl, unhide HF3, hle, unhide HR9, .inr ⟨unhide HS, unhide HX, v0, v1, unhide BT3⟩⟩⟩


set_option maxHeartbeats 8000000 in
set_option maxRecDepth 100000 in
theorem readPart_any (w : World) (N q : Nat) (tv : Value) (xs : List Int) (at' d : Nat) (ov : Bool) (h : Rdr w N q tv xs at' d ov) (hb : ∀ x ∈ xs, 0 ≤ x ∧ x ≤ 255) (ha : at' ≤ xs.length) (hl : xs.length ≤ 100000) :
    Calls Try.prog 72 #[.pointer (some ⟨q, 0, none⟩)] w fun e w' => PrR sesB chr1 e w w' N q tv xs at' d ov := by
  have hqs := h.in
  have hB0 := below1 w (.cells #[.int .u64 0, .int .u64 0, .int .u64 0, .int .u64 0] 98)
  obtain ⟨W, hW⟩ : ∃ W, W = w.alloc (.cells #[.int .u64 0, .int .u64 0, .int .u64 0, .int .u64 0] 98) := ⟨_, rfl⟩
  have rR := zero_row w 98
  rw [← hW] at rR hB0
  have HP := hide (next_any W N q tv xs at' d ov (h.keep hB0 (Nat.le_refl _)) hb ha hl)
  have HRR := hide rR
  have HB0 := hide hB0
  have HB := hide hb
  clear h hb rR hB0
  go_enter Try.func72, Try.ntmps72
  go_wp2_with fail
  rw [← hW]
  clear hW
  refine (unhide HP).mono ?_
  rintro e w1 (⟨hat, rfl, n1, rfl⟩ | ⟨hlt, rfl, hR1, hob⟩)
  · have HX : Hid (sesB (xs.drop at') = none ∧ chr1 (xs.drop at') = none) := by
      show _ ∧ _
      rw [List.drop_eq_nil_of_le (by omega)]
      exact ⟨rfl, rfl⟩
    clear hat
    go_wp2
    exact ⟨rfl, (gw_of (unhide HB0) (Nat.le_refl _)).trans (obk_drewN q W n1).gw, .inl ⟨(unhide HX).1, (unhide HX).2, _, rfl⟩⟩
  · have hG1 : Gw q w w1 := (gw_of (unhide HB0) (Nat.le_refl _)).trans hob.gw
    have rR1 := hob.gw.row (unhide HRR) (row_lt (unhide HRR)) (by omega)
    obtain ⟨c, hce⟩ : ∃ c, c = xs[at']?.getD 0 := ⟨_, rfl⟩
    have hc9 := unhide HB (xs[at']?.getD 0) (by rw [List.getElem?_eq_getElem hlt]; exact List.getElem_mem hlt)
    have HD := hide (drop_at hlt)
    rw [← hce] at hc9 HD ⊢
    obtain ⟨c0, c1⟩ := hc9
    have hsz1 := row_lt rR1
    have HR1 := hide hR1
    have HG1 := hide hG1
    have RR1 := hide rR1
    have hle1 : at' + 1 ≤ xs.length := hlt
    clear HP hob hce hlt hR1 hG1 HB0 HRR rR1
    by_cases e1 : c = 92
    · subst e1
      have HE := hide (readEscape_any w1 N q tv xs (at' + 1) d ov (unhide HR1) (unhide HB) hle1 hl)
      have H1 : Hid (sesB (xs.drop at') = sesc (xs.drop (at' + 1)) ∧ chr1 (xs.drop at') = besc (xs.drop (at' + 1))) := by
        show _ ∧ _
        rw [unhide HD, sesB, chr1, if_pos rfl, if_pos rfl]
        exact ⟨rfl, rfl⟩
      clear HR1
      go_wp2_with fail
      refine (unhide HE).mono ?_
      rintro e w2 ⟨hG2, ⟨hn1, hn2, z, rfl⟩ | ⟨g, lo, at2, rfl, hf, hle, hR2, hcase⟩⟩
      · have HX : Hid (sesB (xs.drop at') = none ∧ chr1 (xs.drop at') = none) := ⟨by rw [(unhide H1).1]; exact hn1, by rw [(unhide H1).2]; exact hn2⟩
        have HG2 := hide ((unhide HG1).trans hG2)
        clear hn1 hn2 hG2
        go_wp2
        exact ⟨rfl, unhide HG2, .inl ⟨(unhide HX).1, (unhide HX).2, _, rfl⟩⟩
      · obtain ⟨⟨r0, r1, r2, r3⟩, j0, j1, j2, j3⟩ := row4f (hG2.row (unhide RR1) (row_lt (unhide RR1)) (by omega))
        have HG9 := hide (gw_puts ((unhide HG1).trans hG2) (m := w.heap.size) (Nat.le_refl _) (.int .u64 (g 0 : Nat)) (.int .u64 (g 1 : Nat)) (.int .u64 (g 2 : Nat)) (.int .u64 (g 3 : Nat)))
        have HR9 := hide (hR2.puts (m := w.heap.size) hqs (.int .u64 (g 0 : Nat)) (.int .u64 (g 1 : Nat)) (.int .u64 (g 2 : Nat)) (.int .u64 (g 3 : Nat)))
        have HF := hide hf
        rw [← (unhide H1).1, ← (unhide H1).2] at hcase
        have HC := hide hcase
        clear hf hG2 hR2 hcase RR1 HG1
        unfold ws4
        go_wp2
        refine bodyPost_ret (v := .tuple #[.agg #[.int .u64 (g 0 : Nat), .int .u64 (g 1 : Nat), .int .u64 (g 2 : Nat), .int .u64 (g 3 : Nat)], .int .i64 lo]) (by simp [results, Try.results72, go_sem, r0, r1, r2, r3]) rfl ⟨unhide HG9, .inr ⟨g, lo, _, rfl, unhide HF, hle, unhide HR9, unhide HC⟩⟩
    have HS : Hid (sesB (xs.drop at') = none) := by show sesB _ = none; rw [unhide HD, sesB, if_neg e1]
    by_cases e2 : c = 93 ∨ c = 91 ∨ c = 94 ∨ c = 45
    · have HX : Hid (chr1 (xs.drop at') = none) := by show chr1 _ = none; rw [unhide HD, chr1, if_neg e1, if_pos e2]
      have HF := hide (fail_any w1 N q tv xs (at' + 1) d ov (unhide HR1))
      rcases e2 with rfl | rfl | rfl | rfl <;>
      · go_wp2_with fail
        refine (unhide HF).mono ?_
        rintro e w2 ⟨rfl, rfl⟩
        go_wp2
        exact ⟨rfl, unhide HG1, .inl ⟨unhide HS, unhide HX, _, rfl⟩⟩
    · have HX : Hid (chr1 (xs.drop at') = some (c, xs.drop (at' + 1))) := by show chr1 _ = _; rw [unhide HD, chr1, if_neg e1, if_neg e2]
      have e3 : ¬ c = 91 := by omega
      have e4 : ¬ c = 93 := by omega
      have e5 : ¬ c = 94 := by omega
      have e6 : ¬ c = 45 := by omega
      clear e2
      go_wp2_with fail
      refine (single_any c w1 c0 c1).mono ?_
      rintro e w3 ⟨⟨g3, rfl, hf3, hbt3⟩, hb3⟩
      have HF3 := hide hf3
      have BT3 := hide hbt3
      have HR9 := hide (((unhide HR1).keep hb3 (Nat.le_refl _)).puts (m := w.heap.size) hqs (.int .u64 (g3 0 : Nat)) (.int .u64 (g3 1 : Nat)) (.int .u64 (g3 2 : Nat)) (.int .u64 (g3 3 : Nat)))
      have HG9 := hide (gw_puts ((unhide HG1).trans (gw_of hb3 (Nat.le_refl _))) (m := w.heap.size) (Nat.le_refl _) (.int .u64 (g3 0 : Nat)) (.int .u64 (g3 1 : Nat)) (.int .u64 (g3 2 : Nat)) (.int .u64 (g3 3 : Nat)))
      obtain ⟨⟨r0, r1, r2, r3⟩, j0, j1, j2, j3⟩ := row4f (rk (unhide RR1) hb3 (Nat.le_refl _))
      clear hf3 hbt3 hb3 RR1 HR1 HG1
      unfold ws4
      go_wp2
      refine bodyPost_ret (v := .tuple #[.agg #[.int .u64 (g3 0 : Nat), .int .u64 (g3 1 : Nat), .int .u64 (g3 2 : Nat), .int .u64 (g3 3 : Nat)], .int .i64 c]) (by simp [results, Try.results72, go_sem, r0, r1, r2, r3]) rfl ⟨unhide HG9, .inr ⟨g3, c, _, rfl, unhide HF3, hle1, unhide HR9, .inr ⟨unhide HS, unhide HX, c0, c1, unhide BT3⟩⟩⟩

end Go.Proofs.Ytjjmgegbeccjoaa
