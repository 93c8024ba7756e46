import Derived.Test.YtpkghafpelilfaaEn3
namespace Go.Proofs.Ytpkghafpelilfaa
open Go.RowKit

theorem EncAt.alloc {lo B : Nat} {w : World} {os : List Int} (h : EncAt lo B w os) (o : Obj) : EncAt lo B (w.alloc o) os := by
  obtain ⟨hB, ov, h1, h2⟩ := h
  exact ⟨hB, ov, h1.alloc o, h2.alloc o⟩
theorem EncAny.alloc {lo B : Nat} {w : World} {os : List Int} (h : EncAny lo B w os) (o : Obj) : EncAny lo B (w.alloc o) os := by
  obtain ⟨hB, ov, h1, h2⟩ := h
  exact ⟨hB, ov, h1.alloc o, h2.alloc o⟩
theorem row1 (w : World) (x : Int) : (w.alloc (.cells #[.int .i64 x] 3)).rowIs w.heap.size 3 1 (fun i => mI ([x][i]?.getD 0)) :=
  World.rowIs_alloc w #[.int .i64 x] 3 _ (fun i hi => by
    have hi' : i < 1 := hi
    match i, hi' with
    | 0, _ => rfl)
theorem row2 (w : World) (x y : Int) : (w.alloc (.cells #[.int .i64 x, .int .i64 y] 3)).rowIs w.heap.size 3 2 (fun i => mI ([x, y][i]?.getD 0)) :=
  World.rowIs_alloc w #[.int .i64 x, .int .i64 y] 3 _ (fun i hi => by
    have hi' : i < 2 := hi
    match i, hi' with
    | 0, _ => rfl
    | 1, _ => rfl)
theorem in64_1 {x : Int} (h : In64 x) : ∀ i : Nat, In64 ([x][i]?.getD 0) := fun i => by
  match i with
  | 0 => exact h
  | i + 1 => simp [In64]
theorem in64_2 {x y : Int} (h : In64 x) (k : In64 y) : ∀ i : Nat, In64 ([x, y][i]?.getD 0) := fun i => by
  match i with
  | 0 => exact h
  | 1 => exact k
  | i + 2 => simp [In64]
theorem flat1 (x : Int) : [x].flatMap vi = vi x := by simp
theorem flat2 (x y : Int) : [x, y].flatMap vi = vi x ++ vi y := by simp

/-- One number, two numbers. -/
theorem put1_any (lo B nb : Nat) (x : Int) (os : List Int) (w : World) (he : EncAny lo B w os) (hlo : lo ≤ w.heap.size) (h64 : In64 x) (hos : os.length ≤ 536870912) (hnb : nb = w.heap.size) :
    Calls Try.prog 50 #[.pointer (some ⟨B, 0, none⟩), .slice (some ⟨nb, 0, none⟩) 1 1] (w.alloc (.cells #[.int .i64 x] 3)) fun e w' => (∃ v, e = .returned v) ∧ EncAt lo B w' (os ++ vi x) ∧ Below lo w w' := by
  subst hnb
  refine (putVarints_any lo B w.heap.size [x] os (w.alloc (.cells #[.int .i64 x] 3)) (he.alloc _) (by rw [sz_alloc]; omega) (row1 w x) (in64_1 h64) (by simp) (by simp) hos).mono ?_
  rintro e w' ⟨h1, h2, h3, -⟩
  rw [flat1] at h2
  exact ⟨h1, h2, ((Below.refl lo w).alloc hlo _).trans h3⟩
theorem put2_any (lo B nb : Nat) (x y : Int) (os : List Int) (w : World) (he : EncAny lo B w os) (hlo : lo ≤ w.heap.size) (h64 : In64 x) (k64 : In64 y) (hos : os.length ≤ 536870912) (hnb : nb = w.heap.size) :
    Calls Try.prog 50 #[.pointer (some ⟨B, 0, none⟩), .slice (some ⟨nb, 0, none⟩) 2 2] (w.alloc (.cells #[.int .i64 x, .int .i64 y] 3)) fun e w' => (∃ v, e = .returned v) ∧ EncAt lo B w' (os ++ (vi x ++ vi y)) ∧ Below lo w w' := by
  subst hnb
  refine (putVarints_any lo B w.heap.size [x, y] os (w.alloc (.cells #[.int .i64 x, .int .i64 y] 3)) (he.alloc _) (by rw [sz_alloc]; omega) (row2 w x y) (in64_2 h64 k64) (by simp) (by simp) hos).mono ?_
  rintro e w' ⟨h1, h2, h3, -⟩
  rw [flat2] at h2
  exact ⟨h1, h2, ((Below.refl lo w).alloc hlo _).trans h3⟩

theorem SlAt.under {α : Type} {mk : α → Value} {d : α} {lo n m : Nat} {w w' : World} {v : Value} {xs : List α} (h : SlAt mk d lo n w v xs) (hb : Below m w w') (hm : n ≤ m) : SlAt mk d lo n w' v xs := h.same (Same.of_below hb hm)

set_option maxHeartbeats 4000000 in
set_option maxRecDepth 100000 in
theorem putLine_any (lo B : Nat) (v : Value) (x os : List Int) (w : World) (he : EncAt lo B w os) (hlo : lo ≤ w.heap.size) (hv : SlAt mB 0 0 lo w v x) (hx : x.length ≤ 268435456) (hos : os.length ≤ 268435456) :
    Calls Try.prog 51 #[.pointer (some ⟨B, 0, none⟩), v] w fun e w' => (∃ v, e = .returned v) ∧ EncAt lo B w' (os ++ (vi x.length ++ x)) ∧ Below lo w w' := by
  have HE := hide he
  have HV := hide hv
  obtain ⟨a, cap, rfl, -, -⟩ := hv
  clear he
  go_enter Try.func51, Try.ntmps51
  go_wp2_with fail
  refine (put1_any lo B _ x.length os w (unhide HE).any hlo ⟨by omega, by omega⟩ (by omega) rfl).mono ?_
  rintro e w1 ⟨⟨v1, rfl⟩, henc, hb1⟩
  have hz1 := hb1.size
  have hvl := vi_len9 (n := (x.length : Int)) (by omega)
  obtain ⟨ts, hts⟩ : ∃ ts, ts = os ++ vi x.length := ⟨_, rfl⟩
  rw [← hts] at henc
  have htl : ts.length + x.length ≤ 1073741824 := by rw [hts, List.length_append]; omega
  have Hts := hide hts
  obtain ⟨hB, ov, hbx, hown⟩ := henc
  have Hbx := hide hbx
  have Hown := hide hown
  have c0 := hbx.cell
  have HV1 := hide (((unhide HV).under hb1 (Nat.le_refl _)).mono (Nat.le_refl _) (show lo ≤ w1.heap.size by omega))
  obtain ⟨oa, oc, rfl⟩ := own_is hown
  clear hbx hown hts
  go_wp2_with (at_builtin; refine app_moreG rfl _ _ rfl lo _ rfl ts (by exact unhide Hown) (by omega) _ rfl x (by exact unhide HV1) htl ?_; intro v3 w3 hg3 ho3 hoc3; obtain ⟨hb3, henc3, hbel3, -⟩ := enc_app (t := 3) hB (unhide Hbx) (Or.inl (unhide Hown)) (grownBy_refl _ _) hg3 ho3 (by decide) (by decide); have c3 := hb3.cell; have z3 := hb3.frozen; have He3 := hide henc3; rw [List.length_append] at ho3; obtain ⟨oa3, oc3, rfl⟩ := own_is ho3; clear hg3 ho3 hb3 henc3)
  go_end0
  have e1 : os ++ (vi x.length ++ x) = ts ++ x := by rw [unhide Hts, List.append_assoc]
  rw [e1]
  exact ⟨⟨_, rfl⟩, unhide He3, hb1.trans hbel3⟩

/-- The way from each number to the next. -/
def dst : Int → List Int → List Int
  | _, [] => []
  | b, p :: r => vi (p - b) ++ dst p r

theorem dst_drop {b : Int} {ps : List Int} {k : Nat} (h : k < ps.length) : dst b (ps.drop k) = vi (ps[k]?.getD 0 - b) ++ dst (ps[k]?.getD 0) (ps.drop (k + 1)) := by
  rw [List.drop_eq_getElem_cons h, List.getElem?_eq_getElem h]
  rfl
/-- Numbers that are not too great. -/
def Mid (x : Int) : Prop := 0 ≤ x ∧ x ≤ 1099511627776
theorem dst_len : ∀ (ps : List Int) (b : Int), 0 ≤ b → (∀ x ∈ ps, Mid x) → (dst b ps).length ≤ 9 * ps.length
  | [], _, _, _ => by simp [dst]
  | p :: r, b, hb, h => by
    have hp := h p (List.mem_cons_self ..)
    have h1 := dst_len r p hp.1 (fun y hy => h y (List.mem_cons_of_mem _ hy))
    have h2 := vi_len9 (n := p - b) (by have := hp.2; omega)
    simp only [dst, List.length_append, List.length_cons]
    omega

set_option maxHeartbeats 4000000 in
set_option maxRecDepth 100000 in
theorem putDistances_any (lo B : Nat) (v : Value) (b : Int) (ps os : List Int) (w : World) (he : EncAt lo B w os) (hlo : lo ≤ w.heap.size) (hv : SlAt mI 0 0 lo w v ps) (hb0 : Mid b) (hps : ∀ x ∈ ps, Mid x) (hl : ps.length ≤ 1048576) (hos : os.length ≤ 268435456) :
    Calls Try.prog 52 #[.pointer (some ⟨B, 0, none⟩), .int .i64 b, v] w fun e w' => (∃ v, e = .returned v) ∧ EncAt lo B w' (os ++ dst b ps) ∧ Below lo w w' := by
  have HE := hide he
  have HV := hide hv
  have HP := hide hps
  obtain ⟨a, cap, rfl, -, -⟩ := hv
  clear he hps
  go_enter Try.func52, Try.ntmps52
  go_wp2_with fail
  go_loopw [1, 10] (fun bv iv wr => ∃ (k : Nat) (c : Int) (ds : List Int), k ≤ ps.length ∧ iv = .int .i64 k ∧ bv = .int .i64 c ∧ Mid c ∧ dst b ps = ds ++ dst c (ps.drop k) ∧ EncAt lo B wr (os ++ ds) ∧ Below lo w wr) (fun _ iv _ => ps.length - (intOf iv).toNat)
  case atStart => exact ⟨0, b, [], Nat.zero_le _, rfl, rfl, hb0, rfl, by simpa using unhide HE, Below.refl _ _⟩
  case round =>
    obtain ⟨k, c, ds, hk, rfl, rfl, hc, hds, henc, hb⟩ := hrel
    have hz := hb.size
    have hdl : ds.length ≤ 9 * 1048576 := by
      have h1 := dst_len ps b hb0.1 (unhide HP)
      rw [hds, List.length_append] at h1
      omega
    have Hds := hide hds
    have Henc := hide henc
    clear hds henc
    by_cases hlt : k < ps.length
    · have hlt' : (k : Int) < (ps.length : Int) := by omega
      obtain ⟨_, _, e, -, hcc⟩ := (unhide HV).under hb (Nat.le_refl _)
      cases e
      obtain ⟨b2, off, rfl, -, -, hcell⟩ := hcc (by omega)
      have hx := hcell k hlt
      unfold mI at hx
      have hm : Mid (ps[k]?.getD 0) := unhide HP _ (by rw [List.getElem?_eq_getElem hlt]; exact List.getElem_mem hlt)
      have Hdd := hide (dst_drop (b := c) hlt)
      clear hcell hcc
      generalize ps[k]?.getD 0 = p at *
      unfold Mid at hc hm
      go_wp2_with fail
      refine (put1_any lo B _ (p - c) (os ++ ds) wr (unhide Henc).any (by omega) ⟨by omega, by omega⟩ (by rw [List.length_append]; omega) rfl).mono ?_
      rintro e w1 ⟨⟨v1, rfl⟩, henc1, hb1⟩
      have He1 := hide henc1
      clear henc1
      go_wp2
      go_roundw
      case rel => exact ⟨k + 1, p, ds ++ vi (p - c), by omega, by go_num, rfl, hm, by rw [unhide Hds, unhide Hdd, List.append_assoc], by rw [← List.append_assoc]; exact unhide He1, hb.trans hb1⟩
      case measure => simp [intOf]; omega
    · obtain rfl : k = ps.length := by omega
      have e1 : dst b ps = ds := by rw [unhide Hds, List.drop_length]; simp [dst]
      have Hf : Hid (EncAt lo B wr (os ++ dst b ps)) := by rw [e1]; exact unhide Henc
      clear e1
      go_wp2
      go_end0
      exact ⟨⟨_, rfl⟩, unhide Hf, hb⟩

theorem lit_four {w : World} {x y z t : Int} : SlAt mB 0 0 (w.alloc (.cells #[.int .u8 x, .int .u8 y, .int .u8 z, .int .u8 t] 5)).heap.size (w.alloc (.cells #[.int .u8 x, .int .u8 y, .int .u8 z, .int .u8 t] 5)) (.slice (some ⟨w.heap.size, 0, none⟩) 4 4) [x, y, z, t] :=
  own_rdB (base := w.heap.size) (n := 4) (World.ownsRow_lit w #[.int .u8 x, .int .u8 y, .int .u8 z, .int .u8 t] 4 (Nat.le_refl _) (by unfold maxLen; omega) rfl) (by unfold maxLen; omega)

set_option maxHeartbeats 4000000 in
set_option maxRecDepth 100000 in
theorem putChecksum_any (lo B : Nat) (os : List Int) (w : World) (he : EncAt lo B w os) (hlo : lo ≤ w.heap.size) (hbb : Bytes os) (hos : os.length ≤ 536870912) :
    Calls Try.prog 53 #[.pointer (some ⟨B, 0, none⟩)] w fun e w' => (∃ v, e = .returned v) ∧ EncAt lo B w' (os ++ ckB (ck os)) ∧ Below lo w w' := by
  obtain ⟨hB, ov, hbx, hown⟩ := he
  have Hbx := hide hbx
  have Hown := hide hown
  have HS := hide (own_rdB hown (by unfold maxLen; omega))
  have HBB := hide hbb
  have c0 := hbx.cell
  obtain ⟨oa, oc, rfl⟩ := own_is hown
  clear hbx hown hbb
  have hck := ck_bounds os
  go_enter Try.func53, Try.ntmps53
  go_wp2_with fail
  refine (checksum_any _ os _ _ (unhide HS) (unhide HBB)).mono ?_
  rintro e w1 ⟨rfl, rfl⟩
  obtain ⟨h, hh⟩ : ∃ h, h = ck os := ⟨_, rfl⟩
  rw [← hh] at hck ⊢
  have HH := hide hh
  clear hh
  go_wp2_with (at_builtin; refine app_moreG rfl _ _ rfl lo _ rfl os (by exact (unhide Hown).alloc _) (by rw [sz_alloc]; omega) _ rfl [h / 16777216, h / 65536 % 256, h / 256 % 256, h % 256] (by exact lit_four) (by simp; omega) ?_; intro v3 w3 hg3 ho3 hoc3; obtain ⟨hb3, henc3, hbel3, -⟩ := enc_app (t := 3) hB (unhide Hbx) (Or.inl (unhide Hown)) (World.grownBy_alloc _ _ _) hg3 ho3 (by decide) (by decide); have c3 := hb3.cell; have z3 := hb3.frozen; have He3 := hide henc3; rw [List.length_append] at ho3; obtain ⟨oa3, oc3, rfl⟩ := own_is ho3; clear hg3 ho3 hb3 henc3)
  go_end0
  rw [← unhide HH]
  exact ⟨⟨_, rfl⟩, unhide He3, hbel3⟩

end Go.Proofs.Ytpkghafpelilfaa
