import Derived.Test.YtjjmgegbeccjoaaPk19
namespace Go.Proofs.Ytjjmgegbeccjoaa
open Go.RowKit

/-- The reader has given up. -/
def Flt (e : Ending) : Prop := ∃ k : Nat, e = .panicked [{ v := fltV k, recovered := false }]

set_option maxHeartbeats 1000000 in
theorem isDigit_any (b : Int) (w : World) : Calls Try.prog 71 #[.int .i64 b] w fun e w' => e = .returned (.bool (isD b)) ∧ w' = w := by
  by_cases h1 : 48 ≤ b
  · by_cases h2 : b ≤ 57
    · have HD : Hid (isD b = true) := by show isD b = true; simp [isD, h1, h2]
      go_enter Try.func71, Try.ntmps71
      go_wp2
      go_ret
      rw [unhide HD]
      exact ⟨rfl, rfl⟩
    · have HD : Hid (isD b = false) := by show isD b = false; simp [isD, h2]
      go_enter Try.func71, Try.ntmps71
      go_wp2
      go_ret
      rw [unhide HD]
      exact ⟨rfl, rfl⟩
  · have HD : Hid (isD b = false) := by show isD b = false; simp [isD, h1]
    go_enter Try.func71, Try.ntmps71
    go_wp2
    go_ret
    rw [unhide HD]
    exact ⟨rfl, rfl⟩

set_option maxHeartbeats 4000000 in
theorem hexDigit_any (w : World) (N q : Nat) (tv : Value) (xs : List Int) (at' d : Nat) (ov : Bool) (h : Rdr w N q tv xs at' d ov) (hb : ∀ x ∈ xs, 0 ≤ x ∧ x ≤ 255) (ha : at' ≤ xs.length) (hl : xs.length ≤ 100000) :
    Calls Try.prog 73 #[.pointer (some ⟨q, 0, none⟩)] w fun e w' => ((at' = xs.length ∨ hexv (xs[at']?.getD 0) = none) ∧ Flt e ∧ Obk q w w') ∨ (at' < xs.length ∧ (∃ v, hexv (xs[at']?.getD 0) = some v ∧ e = .returned (.int .i64 v)) ∧ Rdr w' N q tv xs (at' + 1) d ov ∧ Obk q w w') := by
  have HP := hide (next_any w N q tv xs at' d ov h hb ha hl)
  have hx : at' < xs.length → 0 ≤ xs[at']?.getD 0 ∧ xs[at']?.getD 0 ≤ 255 := fun hlt => hb (xs[at']?.getD 0) (by rw [List.getElem?_eq_getElem hlt]; exact List.getElem_mem hlt)
  obtain ⟨x, hxe⟩ : ∃ x, x = xs[at']?.getD 0 := ⟨_, rfl⟩
  rw [← hxe] at HP hx ⊢
  have HX := hide hx
  clear h hb hxe hx
  go_enter Try.func73, Try.ntmps73
  go_wp2_with fail
  refine (unhide HP).mono ?_
  rintro e w1 (⟨hat, rfl, n1, rfl⟩ | ⟨hlt, rfl, h1, hob⟩)
  · have HA := hide hat
    clear hat
    go_wp2
    exact ⟨rfl, .inl ⟨.inl (unhide HA), ⟨_, rfl⟩, obk_drewN q w n1⟩⟩
  · obtain ⟨hx0, hx1⟩ := unhide HX hlt
    have H1 := hide h1
    have HOB := hide hob
    have HID := hide (isDigit_any x w1)
    have HLT := hide hlt
    clear h1 hob hlt
    by_cases e1 : 48 ≤ x ∧ x ≤ 57
    · have hd : isD x = true := by simp [isD, e1]
      have HV : Hid (hexv x = some (x - 48)) := by show hexv x = _; unfold hexv; rw [if_pos e1]
      rw [hd] at HID
      obtain ⟨e1a, e1b⟩ := e1
      clear hd
      go_wp2_with fail
      refine (unhide HID).mono ?_
      rintro e w2 ⟨rfl, rfl⟩
      go_wp2
      go_ret
      exact .inr ⟨unhide HLT, ⟨_, unhide HV, rfl⟩, unhide H1, unhide HOB⟩
    · have hd : isD x = false := by simp [isD]; omega
      rw [hd] at HID
      clear hd
      go_wp2_with fail
      refine (unhide HID).mono ?_
      rintro e w2 ⟨rfl, rfl⟩
      by_cases e2 : 97 ≤ x ∧ x ≤ 102
      · have HV : Hid (hexv x = some (x - 97 + 10)) := by show hexv x = _; unfold hexv; rw [if_neg e1, if_pos e2]
        obtain ⟨e2a, e2b⟩ := e2
        clear e1
        go_wp2
        go_ret
        exact .inr ⟨unhide HLT, ⟨_, unhide HV, rfl⟩, unhide H1, unhide HOB⟩
      · by_cases e3 : 65 ≤ x ∧ x ≤ 70
        · have HV : Hid (hexv x = some (x - 65 + 10)) := by show hexv x = _; unfold hexv; rw [if_neg e1, if_neg e2, if_pos e3]
          obtain ⟨e3a, e3b⟩ := e3
          have e2c : ¬ 97 ≤ x := by omega
          clear e1 e2
          go_wp2
          go_ret
          exact .inr ⟨unhide HLT, ⟨_, unhide HV, rfl⟩, unhide H1, unhide HOB⟩
        · have HV : Hid (hexv x = none) := by show hexv x = _; unfold hexv; rw [if_neg e1, if_neg e2, if_neg e3]
          have HF := hide (fail_any _ N q tv xs (at' + 1) d ov (unhide H1))
          rcases (show (97 ≤ x ∧ ¬ x ≤ 102) ∨ (¬ 97 ≤ x ∧ 65 ≤ x ∧ ¬ x ≤ 70) ∨ (¬ 97 ≤ x ∧ ¬ 65 ≤ x) by omega) with ⟨a1, a2⟩ | ⟨a1, a2, a3⟩ | ⟨a1, a2⟩
          · have a3 : 65 ≤ x := by omega
            have a4 : ¬ x ≤ 70 := by omega
            clear e1 e2 e3
            go_wp2_with fail
            refine (unhide HF).mono ?_
            rintro e w3 ⟨rfl, rfl⟩
            go_wp2
            exact ⟨rfl, .inl ⟨.inr (unhide HV), ⟨_, rfl⟩, unhide HOB⟩⟩
          · clear e1 e2 e3
            go_wp2_with fail
            refine (unhide HF).mono ?_
            rintro e w3 ⟨rfl, rfl⟩
            go_wp2
            exact ⟨rfl, .inl ⟨.inr (unhide HV), ⟨_, rfl⟩, unhide HOB⟩⟩
          · clear e1 e2 e3
            go_wp2_with fail
            refine (unhide HF).mono ?_
            rintro e w3 ⟨rfl, rfl⟩
            go_wp2
            exact ⟨rfl, .inl ⟨.inr (unhide HV), ⟨_, rfl⟩, unhide HOB⟩⟩


/-- The first j bytes from at' on are digits. -/
def DgI (xs : List Int) (at' j : Nat) : Prop := j ≤ 4 ∧ at' + j ≤ xs.length ∧ ∀ i, i < j → isD (xs[at' + i]?.getD 0) = true
theorem numV_snoc (ds : List Int) (c : Int) : numV (ds ++ [c]) = numV ds * 10 + (c - 48) := by unfold numV; rw [List.foldl_append]; rfl
theorem drop_take {xs : List Int} {at' j : Nat} (h : at' + j < xs.length) : (xs.drop at').take (j + 1) = (xs.drop at').take j ++ [xs[at' + j]?.getD 0] := by
  rw [List.take_add_one, List.getElem?_drop, List.getElem?_eq_getElem h]
  rfl
theorem pow_le4 {j : Nat} (h : j < 4) : (10 : Int) ^ j ≤ 1000 := by
  match j, h with
  | 0, _ => exact (by decide)
  | 1, _ => exact (by decide)
  | 2, _ => exact (by decide)
  | 3, _ => exact (by decide)
theorem DgI.next {xs : List Int} {at' j : Nat} (h : DgI xs at' j) (h4 : j < 4) (hd : isD (pkB xs (at' + j)) = true) : DgI xs at' (j + 1) ∧ pkB xs (at' + j) = xs[at' + j]?.getD 0 := by
  have hlt : at' + j < xs.length := by
    apply Nat.lt_of_not_le
    intro e
    unfold pkB at hd
    rw [List.getElem?_eq_none e] at hd
    revert hd
    decide
  have hp : pkB xs (at' + j) = xs[at' + j]?.getD 0 := by unfold pkB; rw [List.getElem?_eq_getElem hlt]; rfl
  refine ⟨⟨by omega, by omega, fun i hi => ?_⟩, hp⟩
  by_cases e : i = j
  · subst e; rw [← hp]; exact hd
  · exact h.2.2 i (by omega)

theorem Row4.p3 {w : World} {b : Nat} {t : TypeId} {c0 c1 c2 c3 u : Value} (h : Row4 w b t c0 c1 c2 c3) : Row4 (w.setCell ⟨b, 3, none⟩ u) b t c0 c1 c2 u := (World.rowIs.set h 3 u).congr (fun i hi => by
    match i, hi with
    | 0, _ => rfl
    | 1, _ => rfl
    | 2, _ => rfl
    | 3, _ => rfl
    | k + 4, h => exact absurd h (by omega))
/-- A limit is broken. -/
theorem Rdr.over {w : World} {N q : Nat} {tv : Value} {xs : List Int} {at' d : Nat} {ov : Bool} (h : Rdr w N q tv xs at' d ov) : Rdr (w.setCell ⟨q, 3, none⟩ (.bool true)) N q tv xs at' d true := by
  have hb : Below N w (w.setCell ⟨q, 3, none⟩ (.bool true)) := by
    have h9 := obk_put (w := w) (b := q) 3 (.bool true)
    exact ⟨h9.os, h9.tape, h9.output, by rw [h9.size]; exact Nat.le_refl _, fun k hk => h9.block k (by have := h.lt; omega)⟩
  exact ⟨Row4.p3 h.row, h.txt.undr hb (Nat.le_refl _), h.lt⟩

set_option maxHeartbeats 4000000 in
theorem readNumber_any (w : World) (N q : Nat) (tv : Value) (xs : List Int) (at' d : Nat) (ov : Bool) (h : Rdr w N q tv xs at' d ov) (hb : ∀ x ∈ xs, 0 ≤ x ∧ x ≤ 255) (ha : at' ≤ xs.length) (hl : xs.length ≤ 100000) :
    Calls Try.prog 63 #[.pointer (some ⟨q, 0, none⟩)] w fun e w' => ∃ k : Nat, DgI xs at' k ∧ (k < 4 → isD (pkB xs (at' + k)) = false) ∧ Obk q w w' ∧ ((k = 0 ∧ Flt e) ∨ (0 < k ∧ e = .returned (.int .i64 (numV ((xs.drop at').take k))) ∧ Rdr w' N q tv xs (at' + k) d (ov || decide (250 < numV ((xs.drop at').take k))))) := by
  have H := hide h
  have HB := hide hb
  clear h hb
  go_enter Try.func63, Try.ntmps63
  go_wp2_with fail
  go_loopw [3, 4] (fun nv jv wr => ∃ (j : Nat) (v : Int), jv = .int .i64 (j : Nat) ∧ nv = .int .i64 v ∧ v = numV ((xs.drop at').take j) ∧ 0 ≤ v ∧ v < (10 : Int) ^ j ∧ DgI xs at' j ∧ Rdr wr N q tv xs (at' + j) d ov ∧ Obk q w wr) (fun _ jv _ => 4 - (intOf jv).toNat)
  case atStart => exact ⟨0, 0, rfl, rfl, by simp [numV], by omega, by simp, ⟨by omega, by omega, fun i hi => by omega⟩, unhide H, obk_drewN q w 0⟩
  case round =>
    clear H
    obtain ⟨j, v, rfl, rfl, hv, hv0, hv1, hD, hR, hob⟩ := hrel
    obtain ⟨w1, rfl⟩ : ∃ w1, w1 = wr := ⟨_, rfl⟩
    by_cases hj : j < 4
    · have hj' : (j : Int) < 4 := by omega
      have hvb : v ≤ 999 := by have := pow_le4 hj; omega
      have HPK := hide (peek_any w1 N q tv xs (at' + j) d ov hR (unhide HB) hD.2.1 hl)
      have HVV := hide hv
      have HV1 := hide hv1
      have HD := hide hD
      have HR := hide hR
      have HOB := hide hob
      obtain ⟨y, hy⟩ : ∃ y, y = pkB xs (at' + j) := ⟨_, rfl⟩
      rw [← hy] at HPK
      have HY := hide hy
      clear hv hv1 hD hR hob hy
      go_wp2_with fail
      refine (unhide HPK).mono ?_
      rintro e w2 ⟨rfl, n2, rfl⟩
      have HID := hide (isDigit_any y (w1.drewN n2))
      cases hd : isD y with
      | true =>
        rw [hd] at HID
        obtain ⟨hD2, hp⟩ := (unhide HD).next hj (by rw [← unhide HY]; exact hd)
        have hyy : 48 ≤ y ∧ y ≤ 57 := by simpa [isD] using hd
        obtain ⟨y0, y1⟩ := hyy
        have HNX := hide (next_any (w1.drewN n2) N q tv xs (at' + j) d ov ((unhide HR).drewN n2) (unhide HB) (unhide HD).2.1 hl)
        have hlt : at' + j < xs.length := by have := hD2.2.1; omega
        have hxy : xs[at' + j]?.getD 0 = y := by rw [← hp]; exact (unhide HY).symm
        have HVN : Hid (v * 10 + y - 48 = numV ((xs.drop at').take (j + 1))) := by
          show v * 10 + y - 48 = _
          rw [drop_take hlt, numV_snoc, ← unhide HVV, hxy]
          omega
        have HVB : Hid (v * 10 + y - 48 < (10 : Int) ^ (j + 1)) := by
          show _ < _
          have := unhide HV1
          rw [Int.pow_succ]
          omega
        rw [hxy] at HNX
        have HD2 := hide hD2
        have HLT := hide hlt
        clear hd hD2 hp hlt hxy
        go_wp2_with fail
        refine (unhide HID).mono ?_
        rintro e w3 ⟨rfl, rfl⟩
        go_wp2_with fail
        refine (unhide HNX).mono ?_
        rintro e w4 (⟨hat, -⟩ | ⟨-, rfl, h4, hob4⟩)
        · exact absurd hat (by have := unhide HLT; omega)
        have H4 := hide h4
        have HOB4 := hide (((unhide HOB).trans (obk_drewN q w1 n2)).trans hob4)
        clear h4 hob4
        go_wp2
        go_roundw
        case rel => exact ⟨j + 1, _, by go_num, rfl, unhide HVN, by omega, unhide HVB, unhide HD2, unhide H4, unhide HOB4⟩
        case measure => simp [intOf]; omega
      | false =>
        rw [hd] at HID
        have HDF : Hid (isD (pkB xs (at' + j)) = false) := by rw [← unhide HY]; exact hd
        clear hd
        go_wp2_with fail
        refine (unhide HID).mono ?_
        rintro e w3 ⟨rfl, rfl⟩
        have HEN : Hid (j < 4 → isD (pkB xs (at' + j)) = false) := fun _ => unhide HDF
        have HRX : Hid (Rdr (w1.drewN n2) N q tv xs (at' + j) d ov) := (unhide HR).drewN n2
        have HOX : Hid (Obk q w (w1.drewN n2)) := (unhide HOB).trans (obk_drewN q w1 n2)
        obtain ⟨k0, k1, k2, k3, -⟩ := (unhide HRX).row.facts
        have hfz := World.rowIs.frozen (unhide HRX).row 3
        by_cases hj0 : j = 0
        · have HF := hide (fail_any _ N q tv xs (at' + j) d ov (unhide HRX))
          have hj0' : (j : Int) = 0 := by omega
          go_wp2_with fail
          refine (unhide HF).mono ?_
          rintro e w5 ⟨rfl, rfl⟩
          go_wp2
          exact ⟨rfl, j, unhide HD, unhide HEN, unhide HOX, .inl ⟨hj0, _, rfl⟩⟩
        · have hj0' : ¬ (j : Int) = 0 := by omega
          have hj1 : 0 < j := by omega
          by_cases hbig : 250 < v
          · go_wp2
            go_ret
            refine ⟨j, unhide HD, unhide HEN, (unhide HOX).trans (obk_put 3 _), .inr ⟨hj1, by rw [← unhide HVV]; rfl, ?_⟩⟩
            rw [← unhide HVV, show (ov || decide (250 < v)) = true by simp [hbig]]
            exact (unhide HRX).over
          · go_wp2
            go_ret
            refine ⟨j, unhide HD, unhide HEN, unhide HOX, .inr ⟨hj1, by rw [← unhide HVV]; rfl, ?_⟩⟩
            rw [← unhide HVV, show (ov || decide (250 < v)) = ov by rw [decide_eq_false (by omega), Bool.or_false]]
            exact unhide HRX
    · have hj' : ¬ (j : Int) < 4 := by omega
      have HVV := hide hv
      have HD := hide hD
      have HEN : Hid (j < 4 → isD (pkB xs (at' + j)) = false) := fun q => absurd q hj
      have HR := hide hR
      have HOB := hide hob
      clear hv hv1 hD hR hob
      have HRX : Hid (Rdr w1 N q tv xs (at' + j) d ov) := unhide HR
      have HOX : Hid (Obk q w w1) := unhide HOB
      obtain ⟨k0, k1, k2, k3, -⟩ := (unhide HRX).row.facts
      have hfz := World.rowIs.frozen (unhide HRX).row 3
      by_cases hj0 : j = 0
      · exact absurd hj0 (by omega)
      · have hj0' : ¬ (j : Int) = 0 := by omega
        have hj1 : 0 < j := by omega
        by_cases hbig : 250 < v
        · go_wp2
          go_ret
          refine ⟨j, unhide HD, unhide HEN, (unhide HOX).trans (obk_put 3 _), .inr ⟨hj1, by rw [← unhide HVV]; rfl, ?_⟩⟩
          rw [← unhide HVV, show (ov || decide (250 < v)) = true by simp [hbig]]
          exact (unhide HRX).over
        · go_wp2
          go_ret
          refine ⟨j, unhide HD, unhide HEN, unhide HOX, .inr ⟨hj1, by rw [← unhide HVV]; rfl, ?_⟩⟩
          rw [← unhide HVV, show (ov || decide (250 < v)) = ov by rw [decide_eq_false (by omega), Bool.or_false]]
          exact unhide HRX

end Go.Proofs.Ytjjmgegbeccjoaa
