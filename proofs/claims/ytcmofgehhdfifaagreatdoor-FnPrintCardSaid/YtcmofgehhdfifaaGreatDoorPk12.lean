import Derived.Test.YtcmofgehhdfifaaGreatDoorPk11
import Derived.RegionDies
namespace Go.Proofs.YtcmofgehhdfifaaGreatDoor
open Go.RowKit
def PrR (se : List Int → Option (List Int × List Int)) (be : List Int → Option (Int × List Int)) (e : Ending) (w w' : World) (N q : Nat) (tv : Value) (xs : List Int) (at' d : Nat) (ov : Bool) : Prop :=
  Gw q w w' ∧ ((se (xs.drop at') = none ∧ be (xs.drop at') = none ∧ Flt e) ∨ ∃ (g : Nat → Nat) (lo : Int) (at2 : Nat), e = .returned (.tuple #[ws4 g, .int .i64 lo]) ∧ Fit g ∧ at2 ≤ xs.length ∧ Rdr w' N q tv xs at2 d ov ∧
    ((lo = -1 ∧ ∃ cs, se (xs.drop at') = some (cs, xs.drop at2) ∧ ∀ b : Nat, Bt g b = inR cs b) ∨ (se (xs.drop at') = none ∧ be (xs.drop at') = some (lo, xs.drop at2) ∧ 0 ≤ lo ∧ lo ≤ 255 ∧ ∀ b : Nat, Bt g b = decide (lo ≤ (b : Int) ∧ (b : Int) ≤ lo))))
theorem rk {w w' : World} {B m n : Nat} {t : TypeId} {F : Nat → Value} (hr : w.rowIs B t n F) (hb : Below m w w') (hm : w.heap.size ≤ m) : w'.rowIs B t n F := World.rowIs.of_block hr (hb.block B (Nat.lt_of_lt_of_le (row_lt hr) hm))
theorem Rdr.puts {w : World} {N q m : Nat} {tv : Value} {xs : List Int} {at' d : Nat} {ov : Bool} (h : Rdr w N q tv xs at' d ov) (hm : q < m) (u0 u1 u2 u3 : Value) : Rdr ((((w.setCell ⟨m, 0, none⟩ u0).setCell ⟨m, 1, none⟩ u1).setCell ⟨m, 2, none⟩ u2).setCell ⟨m, 3, none⟩ u3) N q tv xs at' d ov := (((h.put hm _).put hm _).put hm _).put hm _
theorem gw_puts {q m : Nat} {a b : World} (h : Gw q a b) (hm : a.heap.size ≤ m) (u0 u1 u2 u3 : Value) : Gw q a ((((b.setCell ⟨m, 0, none⟩ u0).setCell ⟨m, 1, none⟩ u1).setCell ⟨m, 2, none⟩ u2).setCell ⟨m, 3, none⟩ u3) := gw_put (gw_put (gw_put (gw_put h hm _ _) hm _ _) hm _ _) hm _ _
theorem row_puts {w : World} {B : Nat} {t : TypeId} {F : Nat → Value} (h : w.rowIs B t 4 F) (g : Nat → Nat) : ((((w.setCell ⟨B, 0, none⟩ (.int .u64 (g 0 : Nat))).setCell ⟨B, 1, none⟩ (.int .u64 (g 1 : Nat))).setCell ⟨B, 2, none⟩ (.int .u64 (g 2 : Nat))).setCell ⟨B, 3, none⟩ (.int .u64 (g 3 : Nat))).rowIs B t 4 (fun j => .int .u64 (g j : Nat)) :=
  (World.rowIs.set (World.rowIs.set (World.rowIs.set (World.rowIs.set h 0 _) 1 _) 2 _) 3 _).congr (fun j hj => by
    match j, hj with
    | 0, _ => rfl
    | 1, _ => rfl
    | 2, _ => rfl
    | 3, _ => rfl)
theorem row_oths {w : World} {B m : Nat} {t : TypeId} {F : Nat → Value} (h : w.rowIs B t 4 F) (hm : B ≠ m) (u0 u1 u2 u3 : Value) : ((((w.setCell ⟨m, 0, none⟩ u0).setCell ⟨m, 1, none⟩ u1).setCell ⟨m, 2, none⟩ u2).setCell ⟨m, 3, none⟩ u3).rowIs B t 4 F := (((h.setOther hm _).setOther hm _).setOther hm _).setOther hm _
theorem row4f {w : World} {B : Nat} {t : TypeId} {F : Nat → Value} (h : w.rowIs B t 4 F) : (w.cell? ⟨B, 0, none⟩ = some (F 0) ∧ w.cell? ⟨B, 1, none⟩ = some (F 1) ∧ w.cell? ⟨B, 2, none⟩ = some (F 2) ∧ w.cell? ⟨B, 3, none⟩ = some (F 3)) ∧ w.frozen? ⟨B, 0, none⟩ = false ∧ w.frozen? ⟨B, 1, none⟩ = false ∧ w.frozen? ⟨B, 2, none⟩ = false ∧ w.frozen? ⟨B, 3, none⟩ = false :=
  ⟨⟨h.cell (i := 0) (by omega), h.cell (i := 1) (by omega), h.cell (i := 2) (by omega), h.cell (i := 3) (by omega)⟩, h.frozen 0, h.frozen 1, h.frozen 2, h.frozen 3⟩
theorem esc_bt {g1 g2 g3 g4 : Nat → Nat} {b : Nat} (h1 : Bt g1 b = (Bt (fun _ => 0) b || decide ((65 : Int) ≤ (b : Int) ∧ (b : Int) ≤ 90))) (h2 : Bt g2 b = (Bt g1 b || decide ((97 : Int) ≤ (b : Int) ∧ (b : Int) ≤ 122))) (h3 : Bt g3 b = (Bt g2 b || decide ((95 : Int) ≤ (b : Int) ∧ (b : Int) ≤ 95))) (h4 : Bt g4 b = (Bt g3 b || decide ((48 : Int) ≤ (b : Int) ∧ (b : Int) ≤ 57))) : Bt g4 b = inR [48, 57, 65, 90, 95, 95, 97, 122] b := by
  rw [h4, h3, h2, h1, zero_bt, Bool.eq_iff_iff]
  simp [inR]
  omega
set_option maxHeartbeats 8000000 in
set_option maxRecDepth 100000 in
theorem readEscape_any (w : World) (N q : Nat) (tv : Value) (xs : List Int) (at' d : Nat) (ov : Bool) (h : Rdr w N q tv xs at' d ov) (hb : ∀ x ∈ xs, 0 ≤ x ∧ x ≤ 255) (ha : at' ≤ xs.length) (hl : xs.length ≤ 100000) :
    Calls Tryz.prog 104 #[.pointer (some ⟨q, 0, none⟩)] w fun e w' => PrR sesc besc e w w' N q tv xs at' d ov := by
  have hqs := h.in
  have hB0 := below2 w (.cells #[.int .u64 0, .int .u64 0, .int .u64 0, .int .u64 0] 102) (.cells #[.int .u64 0, .int .u64 0, .int .u64 0, .int .u64 0] 102)
  obtain ⟨W, hW⟩ : ∃ W, W = (w.alloc (.cells #[.int .u64 0, .int .u64 0, .int .u64 0, .int .u64 0] 102)).alloc (.cells #[.int .u64 0, .int .u64 0, .int .u64 0, .int .u64 0] 102) := ⟨_, rfl⟩
  have rR := World.rowIs.alloc (zero_row w 102) (.cells #[.int .u64 0, .int .u64 0, .int .u64 0, .int .u64 0] 102)
  have rS := zero_row (w.alloc (.cells #[.int .u64 0, .int .u64 0, .int .u64 0, .int .u64 0] 102)) 102
  rw [sz_alloc] at rS
  rw [← hW] at rR rS hB0
  have HP := hide (rdNext_any W N q tv xs at' d ov (h.keep hB0 (Nat.le_refl _)) hb ha hl)
  have HRR := hide rR
  have HRS := hide rS
  have HB0 := hide hB0
  have HB := hide hb
  have HW := hide hW
  clear h hb rR rS hB0
  go_enter Tryz.func104, Tryz.ntmps104
  go_wp2_with fail
  rw [← hW]
  clear hW
  refine (unhide HP).mono ?_
  rintro e w1 (⟨hat, rfl, n1, rfl⟩ | ⟨hlt, rfl, hR1, hob⟩)
  · have HX : Hid (sesc (xs.drop at') = none ∧ besc (xs.drop at') = none) := by
      show _ ∧ _
      rw [List.drop_eq_nil_of_le (by omega)]
      exact ⟨rfl, rfl⟩
    clear hat
    go_wp2
    exact ⟨rfl, (gw_of (unhide HB0) (Nat.le_refl _)).trans (obk_drewN q W n1).gw, .inl ⟨(unhide HX).1, (unhide HX).2, _, rfl⟩⟩
  · have hG1 : Gw q w w1 := (gw_of (unhide HB0) (Nat.le_refl _)).trans hob.gw
    have rR1 := hob.gw.row (unhide HRR) (row_lt (unhide HRR)) (by omega)
    have rS1 := hob.gw.row (unhide HRS) (row_lt (unhide HRS)) (by omega)
    obtain ⟨c, hce⟩ : ∃ c, c = xs[at']?.getD 0 := ⟨_, rfl⟩
    have hc9 := unhide HB (xs[at']?.getD 0) (by rw [List.getElem?_eq_getElem hlt]; exact List.getElem_mem hlt)
    have HD := hide (drop_at hlt)
    rw [← hce] at hc9 HD ⊢
    obtain ⟨c0, c1⟩ := hc9
    have hsz1 := row_lt rS1
    have HR1 := hide hR1
    have HG1 := hide hG1
    have hle1 : at' + 1 ≤ xs.length := hlt
    clear HP hob hce hlt hR1 hG1 HB0 HRR HRS HW
    by_cases e1 : c = 119
    · subst e1
      obtain ⟨⟨a0, a1, a2, a3⟩, -⟩ := row4f rS1
      have RR1 := hide rR1
      have RS1 := hide rS1
      clear rR1 rS1
      go_wp2_with fail
      refine (with_w (fun _ => 0) 65 90 w1 zero_fit (by omega) (by omega) (by omega)).mono ?_
      rintro e w2 ⟨g2, rfl, hf2, hbt2, hb2⟩
      have HF2 := hide hf2
      have BT2 := hide hbt2
      have RR2 := hide (rk (unhide RR1) hb2 (Nat.le_refl _))
      have RS2 := hide (rk (unhide RS1) hb2 (Nat.le_refl _))
      have HR2 := hide ((unhide HR1).keep hb2 (Nat.le_refl _))
      have HG2 := hide ((unhide HG1).trans (gw_of hb2 (Nat.le_refl _)))
      have hz2 := hb2.size
      clear hf2 hbt2 hb2 RR1 RS1 HR1 HG1 a0 a1 a2 a3
      unfold ws4
      go_wp2_with fail
      refine (with_w g2 97 122 w2 (unhide HF2) (by omega) (by omega) (by omega)).mono ?_
      rintro e w3 ⟨g3, rfl, hf3, hbt3, hb3⟩
      have HF3 := hide hf3
      have BT3 := hide hbt3
      have RR3 := hide (rk (unhide RR2) hb3 (Nat.le_refl _))
      have RS3 := hide (rk (unhide RS2) hb3 (Nat.le_refl _))
      have HR3 := hide ((unhide HR2).keep hb3 (Nat.le_refl _))
      have HG3 := hide ((unhide HG2).trans (gw_of hb3 (Nat.le_refl _)))
      have hz3 := hb3.size
      clear hf3 hbt3 hb3 RR2 RS2 HR2 HG2
      unfold ws4
      go_wp2_with fail
      refine (with_w g3 95 95 w3 (unhide HF3) (by omega) (by omega) (by omega)).mono ?_
      rintro e w4 ⟨g4, rfl, hf4, hbt4, hb4⟩
      have HF4 := hide hf4
      have BT4 := hide hbt4
      have rS4 := rk (unhide RS3) hb4 (Nat.le_refl _)
      have RR4 := hide (row_oths (rk (unhide RR3) hb4 (Nat.le_refl _)) (m := w.heap.size + 1) (by omega) (.int .u64 (g4 0 : Nat)) (.int .u64 (g4 1 : Nat)) (.int .u64 (g4 2 : Nat)) (.int .u64 (g4 3 : Nat)))
      have HR4 := hide (((unhide HR3).keep hb4 (Nat.le_refl _)).puts (m := w.heap.size + 1) (by omega) (.int .u64 (g4 0 : Nat)) (.int .u64 (g4 1 : Nat)) (.int .u64 (g4 2 : Nat)) (.int .u64 (g4 3 : Nat)))
      have HG4 := hide (gw_puts ((unhide HG3).trans (gw_of hb4 (Nat.le_refl _))) (m := w.heap.size + 1) (by omega) (.int .u64 (g4 0 : Nat)) (.int .u64 (g4 1 : Nat)) (.int .u64 (g4 2 : Nat)) (.int .u64 (g4 3 : Nat)))
      have hz4 := hb4.size
      obtain ⟨⟨z0, z1, z2, z3⟩, f0, f1, f2, f3⟩ := row4f rS4
      have RS4 := hide (row_puts rS4 g4)
      clear hf4 hbt4 hb4 RR3 RS3 HR3 HG3 rS4
      unfold ws4
      go_wp2_with fail
      refine (with_w g4 48 57 _ (unhide HF4) (by omega) (by omega) (by omega)).mono ?_
      rintro e w5 ⟨g5, rfl, hf5, hbt5, hb5⟩
      have HF5 := hide hf5
      have BT5 : Hid (∀ b : Nat, Bt g5 b = inR [48, 57, 65, 90, 95, 95, 97, 122] b) := fun b => esc_bt (unhide BT2 b) (unhide BT3 b) (unhide BT4 b) (hbt5 b)
      have rS5 := rk (unhide RS4) hb5 (Nat.le_refl _)
      have rR5 := rk (unhide RR4) hb5 (Nat.le_refl _)
      have HR5 := hide ((((unhide HR4).keep hb5 (Nat.le_refl _)).puts (m := w.heap.size + 1) (by omega) (.int .u64 (g5 0 : Nat)) (.int .u64 (g5 1 : Nat)) (.int .u64 (g5 2 : Nat)) (.int .u64 (g5 3 : Nat))).puts (m := w.heap.size) hqs (.int .u64 (g5 0 : Nat)) (.int .u64 (g5 1 : Nat)) (.int .u64 (g5 2 : Nat)) (.int .u64 (g5 3 : Nat)))
      have HG5 := hide (gw_puts (gw_puts ((unhide HG4).trans (gw_of hb5 (Nat.le_refl _))) (m := w.heap.size + 1) (by omega) (.int .u64 (g5 0 : Nat)) (.int .u64 (g5 1 : Nat)) (.int .u64 (g5 2 : Nat)) (.int .u64 (g5 3 : Nat))) (m := w.heap.size) (Nat.le_refl _) (.int .u64 (g5 0 : Nat)) (.int .u64 (g5 1 : Nat)) (.int .u64 (g5 2 : Nat)) (.int .u64 (g5 3 : Nat)))
      obtain ⟨⟨s0, s1, s2, s3⟩, k0, k1, k2, k3⟩ := row4f rS5
      obtain ⟨⟨r0, r1, r2, r3⟩, j0, j1, j2, j3⟩ := row4f rR5
      have HX : Hid (sesc (xs.drop at') = some ([48, 57, 65, 90, 95, 95, 97, 122], xs.drop (at' + 1))) := by show sesc _ = _; rw [unhide HD]; rfl
      clear hf5 hbt5 hb5 rS5 rR5 HR4 HG4 RR4 RS4 BT2 BT3 BT4 HF2 HF3 HF4 f0 f1 f2 f3 z0 z1 z2 z3
      unfold ws4
      go_wp2
      refine bodyPost_ret (v := .tuple #[.agg #[.int .u64 (g5 0 : Nat), .int .u64 (g5 1 : Nat), .int .u64 (g5 2 : Nat), .int .u64 (g5 3 : Nat)], .int .i64 (-1)]) (by simp [results, Tryz.results104, go_sem, r0, r1, r2, r3]) rfl ⟨unhide HG5, .inr ⟨g5, -1, _, rfl, unhide HF5, hle1, unhide HR5, .inl ⟨rfl, _, unhide HX, unhide BT5⟩⟩⟩
    by_cases e100 : c = 100
    · subst e100
      obtain ⟨⟨a0, a1, a2, a3⟩, -⟩ := row4f rS1
      have RR1 := hide rR1
      have RS1 := hide rS1
      clear rR1 rS1
      go_wp2_with fail
      refine (with_w (fun _ => 0) 48 57 w1 zero_fit (by omega) (by omega) (by omega)).mono ?_
      rintro e w2 ⟨g2, rfl, hf2, hbt2, hb2⟩
      have HF2 := hide hf2
      have BT2 := hide hbt2
      have RR2 := hide (rk (unhide RR1) hb2 (Nat.le_refl _))
      have RS2 := hide (rk (unhide RS1) hb2 (Nat.le_refl _))
      have HR2 := hide ((unhide HR1).keep hb2 (Nat.le_refl _))
      have HG2 := hide ((unhide HG1).trans (gw_of hb2 (Nat.le_refl _)))
      have hz2 := hb2.size
      clear hf2 hbt2 hb2 RR1 RS1 HR1 HG1 a0 a1 a2 a3
      unfold ws4
      have HR9 := hide (((unhide HR2).puts (m := w.heap.size + 1) (by omega) (.int .u64 (g2 0 : Nat)) (.int .u64 (g2 1 : Nat)) (.int .u64 (g2 2 : Nat)) (.int .u64 (g2 3 : Nat))).puts (m := w.heap.size) hqs (.int .u64 (g2 0 : Nat)) (.int .u64 (g2 1 : Nat)) (.int .u64 (g2 2 : Nat)) (.int .u64 (g2 3 : Nat)))
      have HG9 := hide (gw_puts (gw_puts (unhide HG2) (m := w.heap.size + 1) (by omega) (.int .u64 (g2 0 : Nat)) (.int .u64 (g2 1 : Nat)) (.int .u64 (g2 2 : Nat)) (.int .u64 (g2 3 : Nat))) (m := w.heap.size) (Nat.le_refl _) (.int .u64 (g2 0 : Nat)) (.int .u64 (g2 1 : Nat)) (.int .u64 (g2 2 : Nat)) (.int .u64 (g2 3 : Nat)))
      obtain ⟨⟨s0, s1, s2, s3⟩, k0, k1, k2, k3⟩ := row4f (unhide RS2)
      obtain ⟨⟨r0, r1, r2, r3⟩, j0, j1, j2, j3⟩ := row4f (unhide RR2)
      have HX : Hid (sesc (xs.drop at') = some ([48, 57], xs.drop (at' + 1))) := by show sesc _ = _; rw [unhide HD]; rfl
      have BT9 : Hid (∀ b : Nat, Bt g2 b = inR [48, 57] b) := fun b => by
        rw [unhide BT2 b, zero_bt, Bool.eq_iff_iff]
        simp [inR]
        try omega
      go_wp2
      refine bodyPost_ret (v := .tuple #[.agg #[.int .u64 (g2 0 : Nat), .int .u64 (g2 1 : Nat), .int .u64 (g2 2 : Nat), .int .u64 (g2 3 : Nat)], .int .i64 (-1)]) (by simp [results, Tryz.results104, go_sem, r0, r1, r2, r3]) rfl ⟨unhide HG9, .inr ⟨g2, -1, _, rfl, unhide HF2, hle1, unhide HR9, .inl ⟨rfl, _, unhide HX, unhide BT9⟩⟩⟩
    by_cases e115 : c = 115
    · subst e115
      obtain ⟨⟨a0, a1, a2, a3⟩, -⟩ := row4f rS1
      have RR1 := hide rR1
      have RS1 := hide rS1
      clear rR1 rS1
      go_wp2_with fail
      refine (with_w (fun _ => 0) 9 10 w1 zero_fit (by omega) (by omega) (by omega)).mono ?_
      rintro e w2 ⟨g2, rfl, hf2, hbt2, hb2⟩
      have HF2 := hide hf2
      have BT2 := hide hbt2
      have RR2 := hide (rk (unhide RR1) hb2 (Nat.le_refl _))
      have RS2 := hide (rk (unhide RS1) hb2 (Nat.le_refl _))
      have HR2 := hide ((unhide HR1).keep hb2 (Nat.le_refl _))
      have HG2 := hide ((unhide HG1).trans (gw_of hb2 (Nat.le_refl _)))
      have hz2 := hb2.size
      clear hf2 hbt2 hb2 RR1 RS1 HR1 HG1 a0 a1 a2 a3
      unfold ws4
      go_wp2_with fail
      refine (with_w g2 13 13 w2 (unhide HF2) (by omega) (by omega) (by omega)).mono ?_
      rintro e w3 ⟨g3, rfl, hf3, hbt3, hb3⟩
      have HF3 := hide hf3
      have BT3 := hide hbt3
      have RR3 := hide (rk (unhide RR2) hb3 (Nat.le_refl _))
      have RS3 := hide (rk (unhide RS2) hb3 (Nat.le_refl _))
      have HR3 := hide ((unhide HR2).keep hb3 (Nat.le_refl _))
      have HG3 := hide ((unhide HG2).trans (gw_of hb3 (Nat.le_refl _)))
      have hz3 := hb3.size
      clear hf3 hbt3 hb3 RR2 RS2 HR2 HG2
      unfold ws4
      go_wp2_with fail
      refine (with_w g3 32 32 w3 (unhide HF3) (by omega) (by omega) (by omega)).mono ?_
      rintro e w4 ⟨g4, rfl, hf4, hbt4, hb4⟩
      have HF4 := hide hf4
      have BT4 := hide hbt4
      have RR4 := hide (rk (unhide RR3) hb4 (Nat.le_refl _))
      have RS4 := hide (rk (unhide RS3) hb4 (Nat.le_refl _))
      have HR4 := hide ((unhide HR3).keep hb4 (Nat.le_refl _))
      have HG4 := hide ((unhide HG3).trans (gw_of hb4 (Nat.le_refl _)))
      have hz4 := hb4.size
      clear hf4 hbt4 hb4 RR3 RS3 HR3 HG3
      unfold ws4
      have HR9 := hide (((unhide HR4).puts (m := w.heap.size + 1) (by omega) (.int .u64 (g4 0 : Nat)) (.int .u64 (g4 1 : Nat)) (.int .u64 (g4 2 : Nat)) (.int .u64 (g4 3 : Nat))).puts (m := w.heap.size) hqs (.int .u64 (g4 0 : Nat)) (.int .u64 (g4 1 : Nat)) (.int .u64 (g4 2 : Nat)) (.int .u64 (g4 3 : Nat)))
      have HG9 := hide (gw_puts (gw_puts (unhide HG4) (m := w.heap.size + 1) (by omega) (.int .u64 (g4 0 : Nat)) (.int .u64 (g4 1 : Nat)) (.int .u64 (g4 2 : Nat)) (.int .u64 (g4 3 : Nat))) (m := w.heap.size) (Nat.le_refl _) (.int .u64 (g4 0 : Nat)) (.int .u64 (g4 1 : Nat)) (.int .u64 (g4 2 : Nat)) (.int .u64 (g4 3 : Nat)))
      obtain ⟨⟨s0, s1, s2, s3⟩, k0, k1, k2, k3⟩ := row4f (unhide RS4)
      obtain ⟨⟨r0, r1, r2, r3⟩, j0, j1, j2, j3⟩ := row4f (unhide RR4)
      have HX : Hid (sesc (xs.drop at') = some ([9, 10, 13, 13, 32, 32], xs.drop (at' + 1))) := by show sesc _ = _; rw [unhide HD]; rfl
      have BT9 : Hid (∀ b : Nat, Bt g4 b = inR [9, 10, 13, 13, 32, 32] b) := fun b => by
        rw [unhide BT4 b, unhide BT3 b, unhide BT2 b, zero_bt, Bool.eq_iff_iff]
        simp [inR]
        try omega
      go_wp2
      refine bodyPost_ret (v := .tuple #[.agg #[.int .u64 (g4 0 : Nat), .int .u64 (g4 1 : Nat), .int .u64 (g4 2 : Nat), .int .u64 (g4 3 : Nat)], .int .i64 (-1)]) (by simp [results, Tryz.results104, go_sem, r0, r1, r2, r3]) rfl ⟨unhide HG9, .inr ⟨g4, -1, _, rfl, unhide HF4, hle1, unhide HR9, .inl ⟨rfl, _, unhide HX, unhide BT9⟩⟩⟩
    have HS : Hid (sesc (xs.drop at') = none) := by
      show sesc _ = none
      rw [unhide HD, sesc, if_neg e100, if_neg e1, if_neg e115]
    have HE := hide (escapedByte_any w1 N q tv xs c (at' + 1) d ov (unhide HR1) (unhide HB) hle1 hl c0 c1)
    have RR1 := hide rR1
    clear rR1 rS1 HR1
    go_wp2_with fail
    refine (unhide HE).mono ?_
    rintro e w2 ⟨hob, ⟨hno, z, rfl⟩ | ⟨v, at2, hy, hle, v0, v1, rfl, hR2⟩⟩
    · have HX : Hid (besc (xs.drop at') = none) := by rw [unhide HD]; exact hno
      have HG2 := hide ((unhide HG1).trans hob.gw)
      clear hno hob
      go_wp2
      exact ⟨rfl, unhide HG2, .inl ⟨unhide HS, unhide HX, _, rfl⟩⟩
    · have HX : Hid (besc (xs.drop at') = some (v, xs.drop at2)) := by rw [unhide HD]; exact hy
      have HG2 := hide ((unhide HG1).trans hob.gw)
      have RR2 := hide (hob.gw.row (unhide RR1) (row_lt (unhide RR1)) (by omega))
      have HR2 := hide hR2
      have hz2 := hob.gw.size
      clear hy hob hR2 HG1 RR1
      go_wp2_with fail
      refine (single_any v w2 v0 v1).mono ?_
      rintro e w3 ⟨⟨g3, rfl, hf3, hbt3⟩, hb3⟩
      have HF3 := hide hf3
      have BT3 := hide hbt3
      have HR9 := hide (((unhide HR2).keep hb3 (Nat.le_refl _)).puts (m := w.heap.size) hqs (.int .u64 (g3 0 : Nat)) (.int .u64 (g3 1 : Nat)) (.int .u64 (g3 2 : Nat)) (.int .u64 (g3 3 : Nat)))
      have HG9 := hide (gw_puts ((unhide HG2).trans (gw_of hb3 (Nat.le_refl _))) (m := w.heap.size) (Nat.le_refl _) (.int .u64 (g3 0 : Nat)) (.int .u64 (g3 1 : Nat)) (.int .u64 (g3 2 : Nat)) (.int .u64 (g3 3 : Nat)))
      obtain ⟨⟨r0, r1, r2, r3⟩, j0, j1, j2, j3⟩ := row4f (rk (unhide RR2) hb3 (Nat.le_refl _))
      clear hf3 hbt3 hb3 RR2 HR2 HG2
      unfold ws4
      go_wp2
      refine bodyPost_ret (v := .tuple #[.agg #[.int .u64 (g3 0 : Nat), .int .u64 (g3 1 : Nat), .int .u64 (g3 2 : Nat), .int .u64 (g3 3 : Nat)], .int .i64 v]) (by simp [results, Tryz.results104, go_sem, r0, r1, r2, r3]) rfl ⟨unhide HG9, .inr ⟨g3, v, _, rfl, unhide HF3, hle, unhide HR9, .inr ⟨unhide HS, unhide HX, v0, v1, unhide BT3⟩⟩⟩
set_option maxHeartbeats 8000000 in
set_option maxRecDepth 100000 in
theorem readPart_any (w : World) (N q : Nat) (tv : Value) (xs : List Int) (at' d : Nat) (ov : Bool) (h : Rdr w N q tv xs at' d ov) (hb : ∀ x ∈ xs, 0 ≤ x ∧ x ≤ 255) (ha : at' ≤ xs.length) (hl : xs.length ≤ 100000) :
    Calls Tryz.prog 122 #[.pointer (some ⟨q, 0, none⟩)] w fun e w' => PrR sesB chr1 e w w' N q tv xs at' d ov := by
  have hqs := h.in
  have hB0 := below1 w (.cells #[.int .u64 0, .int .u64 0, .int .u64 0, .int .u64 0] 102)
  obtain ⟨W, hW⟩ : ∃ W, W = w.alloc (.cells #[.int .u64 0, .int .u64 0, .int .u64 0, .int .u64 0] 102) := ⟨_, rfl⟩
  have rR := zero_row w 102
  rw [← hW] at rR hB0
  have HP := hide (rdNext_any W N q tv xs at' d ov (h.keep hB0 (Nat.le_refl _)) hb ha hl)
  have HRR := hide rR
  have HB0 := hide hB0
  have HB := hide hb
  clear h hb rR hB0
  go_enter Tryz.func122, Tryz.ntmps122
  go_wp2_with fail
  rw [← hW]
  clear hW
  refine (unhide HP).mono ?_
  rintro e w1 (⟨hat, rfl, n1, rfl⟩ | ⟨hlt, rfl, hR1, hob⟩)
  · have HX : Hid (sesB (xs.drop at') = none ∧ chr1 (xs.drop at') = none) := by
      show _ ∧ _
      rw [List.drop_eq_nil_of_le (by omega)]
      exact ⟨rfl, rfl⟩
    clear hat
    go_wp2
    exact ⟨rfl, (gw_of (unhide HB0) (Nat.le_refl _)).trans (obk_drewN q W n1).gw, .inl ⟨(unhide HX).1, (unhide HX).2, _, rfl⟩⟩
  · have hG1 : Gw q w w1 := (gw_of (unhide HB0) (Nat.le_refl _)).trans hob.gw
    have rR1 := hob.gw.row (unhide HRR) (row_lt (unhide HRR)) (by omega)
    obtain ⟨c, hce⟩ : ∃ c, c = xs[at']?.getD 0 := ⟨_, rfl⟩
    have hc9 := unhide HB (xs[at']?.getD 0) (by rw [List.getElem?_eq_getElem hlt]; exact List.getElem_mem hlt)
    have HD := hide (drop_at hlt)
    rw [← hce] at hc9 HD ⊢
    obtain ⟨c0, c1⟩ := hc9
    have hsz1 := row_lt rR1
    have HR1 := hide hR1
    have HG1 := hide hG1
    have RR1 := hide rR1
    have hle1 : at' + 1 ≤ xs.length := hlt
    clear HP hob hce hlt hR1 hG1 HB0 HRR rR1
    by_cases e1 : c = 92
    · subst e1
      have HE := hide (readEscape_any w1 N q tv xs (at' + 1) d ov (unhide HR1) (unhide HB) hle1 hl)
      have H1 : Hid (sesB (xs.drop at') = sesc (xs.drop (at' + 1)) ∧ chr1 (xs.drop at') = besc (xs.drop (at' + 1))) := by
        show _ ∧ _
        rw [unhide HD, sesB, chr1, if_pos rfl, if_pos rfl]
        exact ⟨rfl, rfl⟩
      clear HR1
      go_wp2_with fail
      refine (unhide HE).mono ?_
      rintro e w2 ⟨hG2, ⟨hn1, hn2, z, rfl⟩ | ⟨g, lo, at2, rfl, hf, hle, hR2, hcase⟩⟩
      · have HX : Hid (sesB (xs.drop at') = none ∧ chr1 (xs.drop at') = none) := ⟨by rw [(unhide H1).1]; exact hn1, by rw [(unhide H1).2]; exact hn2⟩
        have HG2 := hide ((unhide HG1).trans hG2)
        clear hn1 hn2 hG2
        go_wp2
        exact ⟨rfl, unhide HG2, .inl ⟨(unhide HX).1, (unhide HX).2, _, rfl⟩⟩
      · obtain ⟨⟨r0, r1, r2, r3⟩, j0, j1, j2, j3⟩ := row4f (hG2.row (unhide RR1) (row_lt (unhide RR1)) (by omega))
        have HG9 := hide (gw_puts ((unhide HG1).trans hG2) (m := w.heap.size) (Nat.le_refl _) (.int .u64 (g 0 : Nat)) (.int .u64 (g 1 : Nat)) (.int .u64 (g 2 : Nat)) (.int .u64 (g 3 : Nat)))
        have HR9 := hide (hR2.puts (m := w.heap.size) hqs (.int .u64 (g 0 : Nat)) (.int .u64 (g 1 : Nat)) (.int .u64 (g 2 : Nat)) (.int .u64 (g 3 : Nat)))
        have HF := hide hf
        rw [← (unhide H1).1, ← (unhide H1).2] at hcase
        have HC := hide hcase
        clear hf hG2 hR2 hcase RR1 HG1
        unfold ws4
        go_wp2
        refine bodyPost_ret (v := .tuple #[.agg #[.int .u64 (g 0 : Nat), .int .u64 (g 1 : Nat), .int .u64 (g 2 : Nat), .int .u64 (g 3 : Nat)], .int .i64 lo]) (by simp [results, Tryz.results122, go_sem, r0, r1, r2, r3]) rfl ⟨unhide HG9, .inr ⟨g, lo, _, rfl, unhide HF, hle, unhide HR9, unhide HC⟩⟩
    have HS : Hid (sesB (xs.drop at') = none) := by show sesB _ = none; rw [unhide HD, sesB, if_neg e1]
    by_cases e2 : c = 93 ∨ c = 91 ∨ c = 94 ∨ c = 45
    · have HX : Hid (chr1 (xs.drop at') = none) := by show chr1 _ = none; rw [unhide HD, chr1, if_neg e1, if_pos e2]
      have HF := hide (fail_any w1 N q tv xs (at' + 1) d ov (unhide HR1))
      rcases e2 with rfl | rfl | rfl | rfl <;>
      · go_wp2_with fail
        refine (unhide HF).mono ?_
        rintro e w2 ⟨rfl, rfl⟩
        go_wp2
        exact ⟨rfl, unhide HG1, .inl ⟨unhide HS, unhide HX, _, rfl⟩⟩
    · have HX : Hid (chr1 (xs.drop at') = some (c, xs.drop (at' + 1))) := by show chr1 _ = _; rw [unhide HD, chr1, if_neg e1, if_neg e2]
      have e3 : ¬ c = 91 := by omega
      have e4 : ¬ c = 93 := by omega
      have e5 : ¬ c = 94 := by omega
      have e6 : ¬ c = 45 := by omega
      clear e2
      go_wp2_with fail
      refine (single_any c w1 c0 c1).mono ?_
      rintro e w3 ⟨⟨g3, rfl, hf3, hbt3⟩, hb3⟩
      have HF3 := hide hf3
      have BT3 := hide hbt3
      have HR9 := hide (((unhide HR1).keep hb3 (Nat.le_refl _)).puts (m := w.heap.size) hqs (.int .u64 (g3 0 : Nat)) (.int .u64 (g3 1 : Nat)) (.int .u64 (g3 2 : Nat)) (.int .u64 (g3 3 : Nat)))
      have HG9 := hide (gw_puts ((unhide HG1).trans (gw_of hb3 (Nat.le_refl _))) (m := w.heap.size) (Nat.le_refl _) (.int .u64 (g3 0 : Nat)) (.int .u64 (g3 1 : Nat)) (.int .u64 (g3 2 : Nat)) (.int .u64 (g3 3 : Nat)))
      obtain ⟨⟨r0, r1, r2, r3⟩, j0, j1, j2, j3⟩ := row4f (rk (unhide RR1) hb3 (Nat.le_refl _))
      clear hf3 hbt3 hb3 RR1 HR1 HG1
      unfold ws4
      go_wp2
      refine bodyPost_ret (v := .tuple #[.agg #[.int .u64 (g3 0 : Nat), .int .u64 (g3 1 : Nat), .int .u64 (g3 2 : Nat), .int .u64 (g3 3 : Nat)], .int .i64 c]) (by simp [results, Tryz.results122, go_sem, r0, r1, r2, r3]) rfl ⟨unhide HG9, .inr ⟨g3, c, _, rfl, unhide HF3, hle1, unhide HR9, .inr ⟨unhide HS, unhide HX, c0, c1, unhide BT3⟩⟩⟩
theorem ses_chr {s : List Int} {x : List Int × List Int} (h : sesB s = some x) : chr1 s = none := by
  match s, h with
  | c :: r, h =>
    rw [sesB] at h
    by_cases e : c = 92
    · rw [if_pos e] at h
      rw [chr1, if_pos e]
      match r, h with
      | b :: t, h =>
        rw [sesc] at h
        rw [besc]
        by_cases h1 : b = 100
        · subst h1; rfl
        rw [if_neg h1] at h
        by_cases h2 : b = 119
        · subst h2; rfl
        rw [if_neg h2] at h
        by_cases h3 : b = 115
        · subst h3; rfl
        rw [if_neg h3] at h
        cases h
    · rw [if_neg e] at h; cases h
def MbR (e : Ending) (w w' : World) (N q : Nat) (tv : Value) (xs : List Int) (at' d : Nat) (ov : Bool) : Prop :=
  Gw q w w' ∧ (((∀ p, mem1 p (xs.drop at') = none) ∧ Flt e) ∨ ∃ (g : Nat → Nat) (at2 : Nat), e = .returned (ws4 g) ∧ Fit g ∧ at2 ≤ xs.length ∧ Rdr w' N q tv xs at2 d ov ∧ ∀ p, mem1 p (xs.drop at') = some (fun b => p b || Bt g b, xs.drop at2))
theorem mem1_set {s r cs : List Int} {g : Nat → Nat} (h : sesB s = some (cs, r)) (hb : ∀ b : Nat, Bt g b = inR cs b) (p : Nat → Bool) : mem1 p s = some (fun b => p b || Bt g b, r) := by
  unfold mem1
  rw [h]
  simp only [hb]
theorem mem1_one {s r : List Int} {lo : Int} {g : Nat → Nat} (h : sesB s = none) (hc : chr1 s = some (lo, r)) (hb : ∀ b : Nat, Bt g b = decide (lo ≤ (b : Int) ∧ (b : Int) ≤ lo)) (hr : ∀ t, r ≠ 45 :: t) (p : Nat → Bool) : mem1 p s = some (fun b => p b || Bt g b, r) := by
  unfold mem1
  rw [h]
  simp only
  rw [hc, Option.bind_some]
  have e : (fun b => p b || Bt g b) = rngB p lo lo := by funext b; rw [rngB, hb]
  rw [e]
  cases r with
  | nil => rfl
  | cons c t => rw [mem2, if_neg (fun e => hr t (by rw [e]))]
theorem mem1_two {s r : List Int} {lo : Int} (h : sesB s = none) (hc : chr1 s = some (lo, 45 :: r)) (p : Nat → Bool) : mem1 p s = (chr1 r).bind fun x => if x.1 < lo then none else some (rngB p lo x.1, x.2) := by
  unfold mem1
  rw [h]
  simp only
  rw [hc, Option.bind_some, mem2, if_pos rfl]
theorem rng_bt {g g' : Nat → Nat} {lo hi : Int} (hb : ∀ b : Nat, Bt g b = decide (lo ≤ (b : Int) ∧ (b : Int) ≤ lo)) (hb' : ∀ b : Nat, Bt g' b = (Bt g b || decide (lo ≤ (b : Int) ∧ (b : Int) ≤ hi))) (hle : lo ≤ hi) (p : Nat → Bool) : rngB p lo hi = (fun b => p b || Bt g' b) := by
  funext b
  rw [rngB, hb', hb]
  congr 1
  rw [Bool.eq_iff_iff]
  simp
  omega
set_option maxHeartbeats 8000000 in
set_option maxRecDepth 100000 in
theorem readMember_any (w : World) (N q : Nat) (tv : Value) (xs : List Int) (at' d : Nat) (ov : Bool) (h : Rdr w N q tv xs at' d ov) (hb : ∀ x ∈ xs, 0 ≤ x ∧ x ≤ 255) (ha : at' ≤ xs.length) (hl : xs.length ≤ 100000) :
    Calls Tryz.prog 113 #[.pointer (some ⟨q, 0, none⟩)] w fun e w' => MbR e w w' N q tv xs at' d ov := by
  have hqs := h.in
  have hB0 := below1 w (.cells #[.int .u64 0, .int .u64 0, .int .u64 0, .int .u64 0] 102)
  obtain ⟨W, hW⟩ : ∃ W, W = w.alloc (.cells #[.int .u64 0, .int .u64 0, .int .u64 0, .int .u64 0] 102) := ⟨_, rfl⟩
  have rR := zero_row w 102
  rw [← hW] at rR hB0
  have HP := hide (readPart_any W N q tv xs at' d ov (h.keep hB0 (Nat.le_refl _)) hb ha hl)
  have HRR := hide rR
  have HB0 := hide hB0
  have HB := hide hb
  clear h hb rR hB0
  go_enter Tryz.func113, Tryz.ntmps113
  go_wp2_with fail
  rw [← hW]
  clear hW
  refine (unhide HP).mono ?_
  rintro e w1 ⟨hG1, ⟨hn1, hn2, z, rfl⟩ | ⟨g, lo, at2, rfl, hf, hle, hR1, hcase⟩⟩
  · have HX : Hid (∀ p, mem1 p (xs.drop at') = none) := fun p => by unfold mem1; rw [hn1]; simp only; rw [hn2]; rfl
    have HG2 := hide ((gw_of (unhide HB0) (Nat.le_refl _)).trans hG1)
    clear hn1 hn2 hG1
    go_wp2
    exact ⟨rfl, unhide HG2, .inl ⟨unhide HX, _, rfl⟩⟩
  · have rR1 := hG1.row (unhide HRR) (row_lt (unhide HRR)) (by omega)
    have hsz1 := row_lt rR1
    have hb1 := below1 w1 (.cells #[.int .u64 (g 0 : Nat), .int .u64 (g 1 : Nat), .int .u64 (g 2 : Nat), .int .u64 (g 3 : Nat)] 102)
    have rS2 := four_row w1 102 g
    obtain ⟨W2, hW2⟩ : ∃ W2, W2 = w1.alloc (.cells #[.int .u64 (g 0 : Nat), .int .u64 (g 1 : Nat), .int .u64 (g 2 : Nat), .int .u64 (g 3 : Nat)] 102) := ⟨_, rfl⟩
    rw [← hW2] at hb1 rS2
    have rR2 := rk rR1 hb1 (Nat.le_refl _)
    have hR2 := hR1.keep hb1 (Nat.le_refl _)
    have HG2 := hide (((gw_of (unhide HB0) (Nat.le_refl _)).trans hG1).trans (gw_of hb1 (Nat.le_refl _)))
    have HF := hide hf
    have hz2 := row_lt rS2
    have HT := hide (take_any W2 N q tv xs at2 d ov 45 hR2 (unhide HB) hle hl)
    have HR2 := hide hR2
    have RR2 := hide rR2
    have RS2 := hide rS2
    rcases hcase with ⟨rfl, cs, hs, hbt⟩ | ⟨hs, hc, l0, l1, hbt⟩
    · have HM := hide (mem1_set hs hbt)
      obtain ⟨⟨r0, r1, r2, r3⟩, j0, j1, j2, j3⟩ := row4f rR1
      have M9 := hide (row4f (rk (row_puts rR1 g) (below1 _ (.cells #[.int .u64 (g 0 : Nat), .int .u64 (g 1 : Nat), .int .u64 (g 2 : Nat), .int .u64 (g 3 : Nat)] 102)) (Nat.le_refl _))).1
      have HR9 := hide ((hR1.puts (m := w.heap.size) hqs (.int .u64 (g 0 : Nat)) (.int .u64 (g 1 : Nat)) (.int .u64 (g 2 : Nat)) (.int .u64 (g 3 : Nat))).keep (below1 _ (.cells #[.int .u64 (g 0 : Nat), .int .u64 (g 1 : Nat), .int .u64 (g 2 : Nat), .int .u64 (g 3 : Nat)] 102)) (Nat.le_refl _))
      have HG9 := hide ((gw_puts ((gw_of (unhide HB0) (Nat.le_refl _)).trans hG1) (m := w.heap.size) (Nat.le_refl _) (.int .u64 (g 0 : Nat)) (.int .u64 (g 1 : Nat)) (.int .u64 (g 2 : Nat)) (.int .u64 (g 3 : Nat))).trans (gw_of (below1 _ (.cells #[.int .u64 (g 0 : Nat), .int .u64 (g 1 : Nat), .int .u64 (g 2 : Nat), .int .u64 (g 3 : Nat)] 102)) (Nat.le_refl _)))
      clear hs hbt hf hG1 rR1 rS2 rR2 hR2 hR1 hb1
      unfold ws4
      go_wp2
      refine bodyPost_ret (v := .agg #[.int .u64 (g 0 : Nat), .int .u64 (g 1 : Nat), .int .u64 (g 2 : Nat), .int .u64 (g 3 : Nat)]) (by simp [results, Tryz.results113, go_sem, (unhide M9).1, (unhide M9).2.1, (unhide M9).2.2.1, (unhide M9).2.2.2]) rfl ⟨unhide HG9, .inr ⟨g, at2, rfl, unhide HF, hle, unhide HR9, unhide HM⟩⟩
    · have hne : ¬ lo = -1 := by omega
      clear hf hG1 rR1 rS2 rR2 hR2 hR1 hb1 HRR HB0 HP
      unfold ws4
      have HS := hide hs
      have HC := hide hc
      have BT := hide hbt
      clear hs hc hbt
      go_wp2_with fail
      rw [← hW2]
      clear hW2
      refine (unhide HT).mono ?_
      rintro e w3 (⟨hno, rfl, n3, rfl⟩ | ⟨hye, rfl, hR3, hob3⟩)
      · have HM := hide (mem1_one (unhide HS) (unhide HC) (unhide BT) (drop_ne hno))
        obtain ⟨⟨r0, r1, r2, r3⟩, j0, j1, j2, j3⟩ := row4f (unhide RR2)
        obtain ⟨⟨s0, s1, s2, s3⟩, -⟩ := row4f (unhide RS2)
        have HR9 := hide (((unhide HR2).drewN n3).puts (m := w.heap.size) hqs (.int .u64 (g 0 : Nat)) (.int .u64 (g 1 : Nat)) (.int .u64 (g 2 : Nat)) (.int .u64 (g 3 : Nat)))
        have HG9 := hide (gw_puts ((unhide HG2).trans (obk_drewN q W2 n3).gw) (m := w.heap.size) (Nat.le_refl _) (.int .u64 (g 0 : Nat)) (.int .u64 (g 1 : Nat)) (.int .u64 (g 2 : Nat)) (.int .u64 (g 3 : Nat)))
        clear HT hno RR2 RS2 HR2 HG2
        go_wp2
        refine bodyPost_ret (v := .agg #[.int .u64 (g 0 : Nat), .int .u64 (g 1 : Nat), .int .u64 (g 2 : Nat), .int .u64 (g 3 : Nat)]) (by simp [results, Tryz.results113, go_sem, r0, r1, r2, r3]) rfl ⟨unhide HG9, .inr ⟨g, at2, rfl, unhide HF, hle, unhide HR9, unhide HM⟩⟩
      · obtain ⟨hdr, hlt⟩ := drop_pk (by omega) hye
        have HM2 := hide (mem1_two (unhide HS) (by rw [unhide HC, hdr]))
        have hle3 : at2 + 1 ≤ xs.length := hlt
        have RR3 := hide (hob3.gw.row (unhide RR2) (row_lt (unhide RR2)) (by omega))
        have RS3 := hide (hob3.gw.row (unhide RS2) (row_lt (unhide RS2)) (by omega))
        have HG3 := hide ((unhide HG2).trans hob3.gw)
        have hz3 := hob3.gw.size
        have HP3 := hide (readPart_any w3 N q tv xs (at2 + 1) d ov hR3 (unhide HB) hle3 hl)
        clear HT hye hdr hlt hob3 RR2 RS2 HR2 HG2 hR3
        go_wp2_with fail
        refine (unhide HP3).mono ?_
        rintro e w4 ⟨hG4, ⟨hn1, hn2, z, rfl⟩ | ⟨g4, hi, at4, rfl, hf4, hle4, hR4, hcase4⟩⟩
        · have HX : Hid (∀ p, mem1 p (xs.drop at') = none) := fun p => by rw [unhide HM2, hn2]; rfl
          have HG4 := hide ((unhide HG3).trans hG4)
          clear hn1 hn2 hG4
          go_wp2
          exact ⟨rfl, unhide HG4, .inl ⟨unhide HX, _, rfl⟩⟩
        · have rR4 := hG4.row (unhide RR3) (row_lt (unhide RR3)) (by omega)
          have rS4 := hG4.row (unhide RS3) (row_lt (unhide RS3)) (by omega)
          have hsz4 := row_lt rS4
          have hb4 := below1 w4 (.cells #[.int .u64 (g4 0 : Nat), .int .u64 (g4 1 : Nat), .int .u64 (g4 2 : Nat), .int .u64 (g4 3 : Nat)] 102)
          obtain ⟨W5, hW5⟩ : ∃ W5, W5 = w4.alloc (.cells #[.int .u64 (g4 0 : Nat), .int .u64 (g4 1 : Nat), .int .u64 (g4 2 : Nat), .int .u64 (g4 3 : Nat)] 102) := ⟨_, rfl⟩
          rw [← hW5] at hb4
          have RR5 := hide (rk rR4 hb4 (Nat.le_refl _))
          have rS5 := rk rS4 hb4 (Nat.le_refl _)
          have hR5 := hR4.keep hb4 (Nat.le_refl _)
          have HG5 := hide (((unhide HG3).trans hG4).trans (gw_of hb4 (Nat.le_refl _)))
          have hz5 := hb4.size
          have HF5 := hide (fail_any W5 N q tv xs at4 d ov hR5)
          have HR5 := hide hR5
          rcases hcase4 with ⟨rfl, cs, hs4, hbt4⟩ | ⟨hs4, hc4, l40, l41, hbt4⟩
          · have HX : Hid (∀ p, mem1 p (xs.drop at') = none) := fun p => by rw [unhide HM2, ses_chr hs4]; rfl
            clear hs4 hbt4 hf4 hG4 rR4 rS4 rS5 hR4 hR5 hb4 HP3 RR3 RS3 HG3
            unfold ws4
            go_wp2_with fail
            rw [← hW5]
            clear hW5
            refine (unhide HF5).mono ?_
            rintro e w6 ⟨rfl, rfl⟩
            go_wp2
            exact ⟨rfl, unhide HG5, .inl ⟨unhide HX, _, rfl⟩⟩
          · have hne4 : ¬ hi = -1 := by omega
            by_cases hlh : hi < lo
            · have HX : Hid (∀ p, mem1 p (xs.drop at') = none) := fun p => by rw [unhide HM2, hc4, Option.bind_some, if_pos hlh]
              clear hs4 hc4 hbt4 hf4 hG4 rR4 rS4 rS5 hR4 hR5 hb4 HP3 RR3 RS3 HG3
              unfold ws4
              go_wp2_with fail
              rw [← hW5]
              clear hW5
              refine (unhide HF5).mono ?_
              rintro e w6 ⟨rfl, rfl⟩
              go_wp2
              exact ⟨rfl, unhide HG5, .inl ⟨unhide HX, _, rfl⟩⟩
            · have HC4 : Hid (∀ p, mem1 p (xs.drop at') = some (rngB p lo hi, xs.drop at4)) := fun p => by rw [unhide HM2, hc4, Option.bind_some, if_neg hlh]
              obtain ⟨⟨s0, s1, s2, s3⟩, -⟩ := row4f rS4
              have hg1 : (hi == -1) = false := by simp [hne4]
              have hg2 : decide (hi < lo) = false := by simp; omega
              clear hs4 hc4 hbt4 hf4 hG4 rR4 rS4 rS5 hR4 hR5 hb4 HP3 RR3 RS3 HG3
              unfold ws4
              go_wp2_with fail
              rw [← hW5]
              clear hW5
              refine (with_w g lo hi W5 (unhide HF) l0 l41 (by omega)).mono ?_
              rintro e w6 ⟨g6, rfl, hf6, hbt6, hb6⟩
              have HM : Hid (∀ p, mem1 p (xs.drop at') = some (fun b => p b || Bt g6 b, xs.drop at4)) := fun p => by rw [unhide HC4, rng_bt (unhide BT) hbt6 (by omega)]
              have HF6 := hide hf6
              have HR9 := hide (((unhide HR5).keep hb6 (Nat.le_refl _)).puts (m := w.heap.size) hqs (.int .u64 (g6 0 : Nat)) (.int .u64 (g6 1 : Nat)) (.int .u64 (g6 2 : Nat)) (.int .u64 (g6 3 : Nat)))
              have HG9 := hide (gw_puts ((unhide HG5).trans (gw_of hb6 (Nat.le_refl _))) (m := w.heap.size) (Nat.le_refl _) (.int .u64 (g6 0 : Nat)) (.int .u64 (g6 1 : Nat)) (.int .u64 (g6 2 : Nat)) (.int .u64 (g6 3 : Nat)))
              obtain ⟨⟨r0, r1, r2, r3⟩, j0, j1, j2, j3⟩ := row4f (rk (unhide RR5) hb6 (Nat.le_refl _))
              clear hf6 hbt6 hb6 RR5 HR5 HG5 s0 s1 s2 s3
              unfold ws4
              go_wp2
              refine bodyPost_ret (v := .agg #[.int .u64 (g6 0 : Nat), .int .u64 (g6 1 : Nat), .int .u64 (g6 2 : Nat), .int .u64 (g6 3 : Nat)]) (by simp [results, Tryz.results113, go_sem, r0, r1, r2, r3]) rfl ⟨unhide HG9, .inr ⟨g6, at4, rfl, unhide HF6, hle4, unhide HR9, unhide HM⟩⟩
def posOf (q : Nat) (w : World) : Nat := match w.cell? ⟨q, 1, none⟩ with
  | some (.int _ n) => n.toNat
  | _ => 0
theorem Rdr.pos {w : World} {N q : Nat} {tv : Value} {xs : List Int} {at' d : Nat} {ov : Bool} (h : Rdr w N q tv xs at' d ov) : posOf q w = at' := by
  unfold posOf
  rw [h.row.facts.2.1]
  simp
def pn (neg : Bool) (p : Nat → Bool) : Nat → Bool := fun b => if neg then !p b else p b
theorem cls_of {xs : List Int} {at' : Nat} : (pkB xs at' = 94 → cls (xs.drop at') = (clsG (xs.length - (at' + 1) + 1) (fun _ => false) (xs.drop (at' + 1))).map fun x => (cnn (pn true x.1), x.2)) ∧ (pkB xs at' ≠ 94 → cls (xs.drop at') = (clsG (xs.length - at' + 1) (fun _ => false) (xs.drop at')).map fun x => (cnn (pn false x.1), x.2)) := by
  constructor
  · intro h
    obtain ⟨h1, h2⟩ := drop_pk (by omega) h
    rw [h1, cls, if_pos rfl, List.length_drop]
    rfl
  · intro h
    have h9 := drop_ne h
    cases hs : xs.drop at' with
    | nil => rfl
    | cons c r =>
      have hl : r.length + 1 = xs.length - at' := by rw [← List.length_drop, hs]; rfl
      rw [cls, if_neg (fun e => h9 r (by rw [hs, e])), ← hl]
      rfl
def ClR (e : Ending) (w w' : World) (N q : Nat) (tv : Value) (xs : List Int) (at' d : Nat) (ov : Bool) : Prop :=
  Gw q w w' ∧ ((cls (xs.drop at') = none ∧ Flt e) ∨ ∃ (g : Nat → Nat) (cs : List Int) (at2 : Nat), e = .returned (ws4 g) ∧ cls (xs.drop at') = some (cs, xs.drop at2) ∧ at2 ≤ xs.length ∧ Rdr w' N q tv xs at2 d ov ∧ WordsOf cs g ∧ Canon cs)
theorem clsG_stop {xs : List Int} {i : Nat} {p : Nat → Bool} (h : pkB xs i = 93) : clsG (xs.length - i + 1) p (xs.drop i) = some (p, xs.drop (i + 1)) := by
  rw [(drop_pk (by omega) h).1, clsG, if_pos rfl]
theorem clsG_bad {xs : List Int} {i : Nat} {p : Nat → Bool} (h : pkB xs i ≠ 93) (hm : mem1 p (xs.drop i) = none) : clsG (xs.length - i + 1) p (xs.drop i) = none := by
  cases hs : xs.drop i with
  | nil => rfl
  | cons c r =>
    rw [clsG, if_neg (fun e => drop_ne h r (by rw [hs, e])), ← hs, hm]
    rfl
theorem mem1_lt {xs : List Int} {i j : Nat} {p p' : Nat → Bool} (hm : mem1 p (xs.drop i) = some (p', xs.drop j)) (hj : j ≤ xs.length) : i < j := by
  obtain ⟨pre, h1, h2, -⟩ := mem1_loc p _ _ _ hm
  have := congrArg List.length h1
  rw [List.length_append, List.length_drop, List.length_drop] at this
  omega
theorem clsG_go {xs : List Int} {i j : Nat} {p p' : Nat → Bool} (h : pkB xs i ≠ 93) (hm : mem1 p (xs.drop i) = some (p', xs.drop j)) (hj : j ≤ xs.length) : clsG (xs.length - i + 1) p (xs.drop i) = clsG (xs.length - j + 1) p' (xs.drop j) := by
  have hlt := mem1_lt hm hj
  cases hs : xs.drop i with
  | nil =>
    have := congrArg List.length hs
    rw [List.length_drop] at this
    simp at this
    omega
  | cons c r =>
    rw [clsG, if_neg (fun e => drop_ne h r (by rw [hs, e])), ← hs, hm, Option.bind_some]
    exact clsG_fuel (xs.length - j + 1) p' (xs.drop j) (by rw [List.length_drop]; omega) (xs.length - i) (by omega)
theorem Rdr.drew {w : World} {N q : Nat} {tv : Value} {xs : List Int} {at' d : Nat} {ov : Bool} (h : Rdr w N q tv xs at' d ov) : Rdr w.drew N q tv xs at' d ov := ⟨h.row, h.txt, h.lt⟩
theorem gw_drew (q : Nat) (w : World) : Gw q w w.drew := ⟨rfl, rfl, rfl, Nat.le_refl _, fun _ _ _ => rfl⟩
theorem row_gw {q m : Nat} {a b : World} {B : Nat} {t : TypeId} {F : Nat → Value} (h : Gw q a b) (hr : a.rowIs B t m F) (hq : B ≠ q) : b.rowIs B t m F := h.row hr (row_lt hr) hq
set_option maxHeartbeats 8000000 in
set_option maxRecDepth 100000 in
theorem readClass_any (w : World) (N q : Nat) (tv : Value) (xs : List Int) (at' d : Nat) (ov : Bool) (h : Rdr w N q tv xs at' d ov) (hb : ∀ x ∈ xs, 0 ≤ x ∧ x ≤ 255) (ha : at' ≤ xs.length) (hl : xs.length ≤ 100000) :
    Calls Tryz.prog 103 #[.pointer (some ⟨q, 0, none⟩)] w fun e w' => ClR e w w' N q tv xs at' d ov := by
  have hqs := h.in
  have hB0 := below1 w (.cells #[.int .u64 0, .int .u64 0, .int .u64 0, .int .u64 0] 102)
  obtain ⟨W, hW⟩ : ∃ W, W = w.alloc (.cells #[.int .u64 0, .int .u64 0, .int .u64 0, .int .u64 0] 102) := ⟨_, rfl⟩
  have rR := zero_row w 102
  rw [← hW] at rR hB0
  have hRW := h.keep hB0 (Nat.le_refl _)
  have HP := hide (take_any W N q tv xs at' d ov 94 hRW hb ha hl)
  have HRW := hide hRW
  have HRR := hide rR
  have HB0 := hide hB0
  have HB := hide hb
  clear h hb rR hB0 hRW
  go_enter Tryz.func103, Tryz.ntmps103
  go_wp2_with fail
  rw [← hW]
  clear hW
  refine (unhide HP).mono ?_
  rintro e w1 hcase
  obtain ⟨neg, at1, rfl, hR1, hob1, hle1, hcl⟩ : ∃ (neg : Bool) (at1 : Nat), e = .returned (.bool neg) ∧ Rdr w1 N q tv xs at1 d ov ∧ Gw q W w1 ∧ at1 ≤ xs.length ∧ cls (xs.drop at') = (clsG (xs.length - at1 + 1) (fun _ => false) (xs.drop at1)).map fun x => (cnn (pn neg x.1), x.2) := by
    rcases hcase with ⟨hno, rfl, n, rfl⟩ | ⟨hye, rfl, hR, hob⟩
    · exact ⟨false, at', rfl, (unhide HRW).drewN n, (obk_drewN q W n).gw, ha, cls_of.2 hno⟩
    · exact ⟨true, at' + 1, rfl, hR, hob.gw, (drop_pk (by omega) hye).2, cls_of.1 hye⟩
  have hb1 := below1 w1 (.cells #[.int .u64 0, .int .u64 0, .int .u64 0, .int .u64 0] 102)
  have rR1 := row_gw hob1 (unhide HRR) (by omega)
  have hz1 := row_lt rR1
  have HR2 := hide (hR1.keep hb1 (Nat.le_refl _))
  have RR2 := hide (rk rR1 hb1 (Nat.le_refl _))
  have HG2 := hide (((gw_of (unhide HB0) (Nat.le_refl _)).trans hob1).trans (gw_of hb1 (Nat.le_refl _)))
  have hq1 := hR1.in
  have HCL := hide hcl
  clear hb1 rR1 hR1 hob1 hcl HP HRR HB0 HRW hcase
  go_wp2
  go_loopw [7] (fun _ wr => ∃ (i : Nat) (g : Nat → Nat), i ≤ xs.length ∧ Rdr wr N q tv xs i d ov ∧ Fit g ∧ wr.rowIs w1.heap.size 102 4 (fun j => .int .u64 (g j : Nat)) ∧ wr.rowIs w.heap.size 102 4 (fun j => .int .u64 ((fun _ => 0 : Nat → Nat) j : Nat)) ∧ Gw q w wr ∧ clsG (xs.length - at1 + 1) (fun _ => false) (xs.drop at1) = clsG (xs.length - i + 1) (fun b => Bt g b) (xs.drop i)) (fun _ wr => xs.length - posOf q wr)
  case atStart => exact ⟨at1, fun _ => 0, hle1, unhide HR2, zero_fit, zero_row w1 _, unhide RR2, unhide HG2, by rw [show (fun b => Bt (fun _ => 0) b) = fun _ => false from funext zero_bt]⟩
  case round =>
    clear HR2 RR2 HG2
    obtain ⟨i, g, hi, hR, hf, rS, rR, hG, hcg⟩ := hrel
    obtain ⟨w3, rfl⟩ : ∃ w3, w3 = wr := ⟨_, rfl⟩
    have HT := hide (take_any w3 N q tv xs i d ov 93 hR (unhide HB) hi hl)
    have HR := hide hR
    have HF := hide hf
    have RS := hide rS
    have RR := hide rR
    have HG := hide hG
    have HCG := hide hcg
    have hz3 := row_lt rS
    have HPO := hide hR.pos
    clear hR hf rS rR hG hcg
    go_wp2_with fail
    refine (unhide HT).mono ?_
    rintro e w4 (⟨hno, rfl, n4, rfl⟩ | ⟨hye, rfl, hR4, hob4⟩)
    · have hR4 := (unhide HR).drewN n4
      obtain ⟨w5, hw5⟩ : ∃ w5, w5 = w3.drewN n4 := ⟨_, rfl⟩
      rw [← hw5] at hR4 ⊢
      have hG5 : Gw q w3 w5 := by rw [hw5]; exact (obk_drewN q w3 n4).gw
      have rS5 := row_gw hG5 (unhide RS) (by omega)
      have rR5 := row_gw hG5 (unhide RR) (by omega)
      have HM := readMember_any w5.drew N q tv xs i d ov hR4.drew (unhide HB) hi hl
      obtain ⟨⟨s0, s1, s2, s3⟩, -⟩ := row4f rS5
      clear hw5 HT
      cases hm : mem1 (fun b => Bt g b) (xs.drop i) with
      | none =>
        have HMN : Hid (Calls Tryz.prog 113 #[.pointer (some ⟨q, 0, none⟩)] w5.drew fun e w' => Flt e ∧ Gw q w5.drew w') := HM.mono fun e w' h => by
          rcases h with ⟨h1, ⟨-, h2⟩ | ⟨g', a2, -, -, -, -, h3⟩⟩
          · exact ⟨h2, h1⟩
          · rw [h3] at hm; cases hm
        have HX : Hid (cls (xs.drop at') = none) := by show cls _ = none; rw [unhide HCL, unhide HCG, clsG_bad hno hm]; rfl
        have HG5 := hide ((unhide HG).trans (hG5.trans (gw_drew q w5)))
        clear HM hm hno hG5 rS5 rR5 hR4
        go_wp2
        go_region_dies
        all_goals
          (with_reducible refine (unhide HMN).mono ?_)
          rintro e w6 ⟨⟨z, rfl⟩, hg6⟩
          exact ⟨rfl, (unhide HG5).trans hg6, .inl ⟨unhide HX, _, rfl⟩⟩
      | some x =>
        have HMS : Hid (Calls Tryz.prog 113 #[.pointer (some ⟨q, 0, none⟩)] w5.drew fun e w' => Gw q w5.drew w' ∧ ∃ (g' : Nat → Nat) (at2 : Nat), e = .returned (.agg #[.int .u64 (g' 0 : Nat), .int .u64 (g' 1 : Nat), .int .u64 (g' 2 : Nat), .int .u64 (g' 3 : Nat)]) ∧ Fit g' ∧ at2 ≤ xs.length ∧ Rdr w' N q tv xs at2 d ov ∧ ∀ p, mem1 p (xs.drop i) = some (fun b => p b || Bt g' b, xs.drop at2)) := HM.mono fun e w' h => by
          rcases h with ⟨h1, ⟨h2, -⟩ | h2⟩
          · rw [h2] at hm; cases hm
          · exact ⟨h1, h2⟩
        have HNO := hide hno
        have HG5 := hide ((unhide HG).trans (hG5.trans (gw_drew q w5)))
        have RS5 := hide rS5
        have RR5 := hide rR5
        clear HM hm hno hG5 rS5 rR5 hR4
        go_wp2
        go_region_with ((first | ((with_reducible refine (unhide HMS).mono ?_); rintro e w6 ⟨hg6, g6, at6, rfl, hf6, hle6, hR6, hm6⟩; have HG6 := hide hg6; have HF6 := hide hf6; have HR6 := hide hR6; have HM6 := hide hm6; have HU6 : Hid (Calls Tryz.prog 112 #[.agg #[.int .u64 (g 0 : Nat), .int .u64 (g 1 : Nat), .int .u64 (g 2 : Nat), .int .u64 (g 3 : Nat)], .agg #[.int .u64 (g6 0 : Nat), .int .u64 (g6 1 : Nat), .int .u64 (g6 2 : Nat), .int .u64 (g6 3 : Nat)]] w6 fun e w' => e = .returned (.agg #[.int .u64 (or4 g g6 0 : Nat), .int .u64 (or4 g g6 1 : Nat), .int .u64 (or4 g g6 2 : Nat), .int .u64 (or4 g g6 3 : Nat)]) ∧ Below w6.heap.size w6 w') := (union_w g g6 w6 (unhide HF) (unhide HF6)); have rS6 := row_gw hg6 (B := w1.heap.size) (unhide RS5) (by omega); have RR6 := hide (row_gw hg6 (B := w.heap.size) (unhide RR5) (by omega)); obtain ⟨⟨t0, t1, t2, t3⟩, -⟩ := row4f rS6; have RS6 := hide rS6; clear hg6 hf6 hR6 hm6 rS6) | ((with_reducible refine (unhide HU6).mono ?_); rintro e w7 ⟨rfl, hb7⟩; have RS7 := hide (rk (unhide RS6) hb7 (Nat.le_refl _)); obtain ⟨⟨u0, u1, u2, u3⟩, y0, y1, y2, y3⟩ := row4f (unhide RS7); have HB7 := hide hb7; clear hb7)))
        all_goals
          have hqz : q < w1.heap.size := hq1
          have HR9 := hide (((unhide HR6).keep (unhide HB7) (Nat.le_refl _)).puts (m := w1.heap.size) hq1 (.int .u64 (or4 g g6 0 : Nat)) (.int .u64 (or4 g g6 1 : Nat)) (.int .u64 (or4 g g6 2 : Nat)) (.int .u64 (or4 g g6 3 : Nat)))
          have HG9 := hide (gw_puts (((unhide HG5).trans (unhide HG6)).trans (gw_of (unhide HB7) (Nat.le_refl _))) (m := w1.heap.size) (by omega) (.int .u64 (or4 g g6 0 : Nat)) (.int .u64 (or4 g g6 1 : Nat)) (.int .u64 (or4 g g6 2 : Nat)) (.int .u64 (or4 g g6 3 : Nat)))
          have RS9 := hide (row_puts (unhide RS7) (or4 g g6))
          have RR9 := hide (row_oths (rk (unhide RR6) (unhide HB7) (Nat.le_refl _)) (m := w1.heap.size) (by omega) (.int .u64 (or4 g g6 0 : Nat)) (.int .u64 (or4 g g6 1 : Nat)) (.int .u64 (or4 g g6 2 : Nat)) (.int .u64 (or4 g g6 3 : Nat)))
          have hlt6 := mem1_lt (unhide HM6 (fun b => Bt g b)) hle6
          have HC9 : Hid (clsG (xs.length - at1 + 1) (fun _ => false) (xs.drop at1) = clsG (xs.length - at6 + 1) (fun b => Bt (or4 g g6) b) (xs.drop at6)) := by
            show _ = _
            rw [unhide HCG, clsG_go (unhide HNO) (unhide HM6 (fun b => Bt g b)) hle6, show (fun b => Bt (or4 g g6) b) = (fun b => Bt g b || Bt g6 b) from funext (or4_bt g g6)]
          have HM9 : Hid (xs.length - at6 < xs.length - i) := by show _ < _; omega
          clear t0 t1 t2 t3 u0 u1 u2 u3 y0 y1 y2 y3 HG5 HG6 HB7 RS7 RR6 RS6 HU6 HMS RS5 RR5 s0 s1 s2 s3
          go_wp2
          go_roundw
          case rel => exact ⟨at6, or4 g g6, hle6, unhide HR9, or4_fit (unhide HF) (unhide HF6), unhide RS9, unhide RR9, unhide HG9, unhide HC9⟩
          case measure => rw [(unhide HR9).pos, unhide HPO]; exact unhide HM9
    · have HX := hide (clsG_stop (p := fun b => Bt g b) hye)
      have hle4 : i + 1 ≤ xs.length := (drop_pk (by omega) hye).2
      have HG4 := hide ((unhide HG).trans hob4.gw)
      have rS4 := row_gw hob4.gw (unhide RS) (by omega)
      have rR4 := row_gw hob4.gw (unhide RR) (by omega)
      have HR4 := hide hR4
      obtain ⟨⟨s0, s1, s2, s3⟩, -⟩ := row4f rS4
      have RR4 := hide rR4
      clear hye hob4 rS4 rR4 hR4 HT
      cases neg with
      | true =>
        have HY : Hid (cls (xs.drop at') = some (cnn (pn true (fun b => Bt g b)), xs.drop (i + 1))) := by show cls _ = _; rw [unhide HCL, unhide HCG, unhide HX]; rfl
        have HW : Hid (WordsOf (cnn (pn true (fun b => Bt g b))) (cmp4 g)) := ⟨cmp4_fit g, fun b => by rw [cmp4_bt (unhide HF), (cnn_ok _).2 b]; rfl⟩
        have HU : Hid (Calls Tryz.prog 91 #[.agg #[.int .u64 (g 0 : Nat), .int .u64 (g 1 : Nat), .int .u64 (g 2 : Nat), .int .u64 (g 3 : Nat)]] w4 fun e w' => e = .returned (.agg #[.int .u64 (cmp4 g 0 : Nat), .int .u64 (cmp4 g 1 : Nat), .int .u64 (cmp4 g 2 : Nat), .int .u64 (cmp4 g 3 : Nat)]) ∧ Below w4.heap.size w4 w') := complement_w g w4 (unhide HF)
        go_wp2_with fail
        refine (unhide HU).mono ?_
        rintro e w5 ⟨rfl, hb5⟩
        obtain ⟨⟨r0, r1, r2, r3⟩, j0, j1, j2, j3⟩ := row4f (rk (unhide RR4) hb5 (Nat.le_refl _))
        have HR9 := hide (((unhide HR4).keep hb5 (Nat.le_refl _)).puts (m := w.heap.size) hqs (.int .u64 (cmp4 g 0 : Nat)) (.int .u64 (cmp4 g 1 : Nat)) (.int .u64 (cmp4 g 2 : Nat)) (.int .u64 (cmp4 g 3 : Nat)))
        have HG9 := hide (gw_puts ((unhide HG4).trans (gw_of hb5 (Nat.le_refl _))) (m := w.heap.size) (Nat.le_refl _) (.int .u64 (cmp4 g 0 : Nat)) (.int .u64 (cmp4 g 1 : Nat)) (.int .u64 (cmp4 g 2 : Nat)) (.int .u64 (cmp4 g 3 : Nat)))
        clear hb5 HU s0 s1 s2 s3
        go_wp2
        refine bodyPost_ret (v := .agg #[.int .u64 (cmp4 g 0 : Nat), .int .u64 (cmp4 g 1 : Nat), .int .u64 (cmp4 g 2 : Nat), .int .u64 (cmp4 g 3 : Nat)]) (by simp [results, Tryz.results103, go_sem, r0, r1, r2, r3]) rfl ⟨unhide HG9, .inr ⟨cmp4 g, _, _, rfl, unhide HY, hle4, unhide HR9, unhide HW, (cnn_ok _).1⟩⟩
      | false =>
        have HY : Hid (cls (xs.drop at') = some (cnn (pn false (fun b => Bt g b)), xs.drop (i + 1))) := by show cls _ = _; rw [unhide HCL, unhide HCG, unhide HX]; rfl
        have HW : Hid (WordsOf (cnn (pn false (fun b => Bt g b))) (trc g)) := words_cnn (unhide HF) (fun b => rfl)
        obtain ⟨⟨r0, r1, r2, r3⟩, j0, j1, j2, j3⟩ := row4f (unhide RR4)
        have HR9 := hide ((unhide HR4).puts (m := w.heap.size) hqs (.int .u64 (g 0 : Nat)) (.int .u64 (g 1 : Nat)) (.int .u64 (g 2 : Nat)) (.int .u64 (g 3 : Nat)))
        have HG9 := hide (gw_puts (unhide HG4) (m := w.heap.size) (Nat.le_refl _) (.int .u64 (g 0 : Nat)) (.int .u64 (g 1 : Nat)) (.int .u64 (g 2 : Nat)) (.int .u64 (g 3 : Nat)))
        go_wp2
        refine bodyPost_ret (v := .agg #[.int .u64 (g 0 : Nat), .int .u64 (g 1 : Nat), .int .u64 (g 2 : Nat), .int .u64 (g 3 : Nat)]) (by simp [results, Tryz.results103, go_sem, r0, r1, r2, r3]) rfl ⟨unhide HG9, .inr ⟨trc g, _, _, rfl, unhide HY, hle4, unhide HR9, unhide HW, (cnn_ok _).1⟩⟩
end Go.Proofs.YtcmofgehhdfifaaGreatDoor
