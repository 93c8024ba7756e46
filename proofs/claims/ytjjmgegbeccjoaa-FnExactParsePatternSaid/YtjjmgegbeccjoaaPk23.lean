import Derived.Test.YtjjmgegbeccjoaaPk22
import Derived.Test.YtjjmgegbeccjoaaIsp
import Derived.Test.YtjjmgegbeccjoaaPk20
namespace Go.Proofs.Ytjjmgegbeccjoaa
open Go.RowKit

theorem hexv_bd {c v : Int} (h : hexv c = some v) : 0 ≤ v ∧ v ≤ 15 := by
  unfold hexv at h
  split at h
  · cases h; omega
  · split at h
    · cases h; omega
    · split at h
      · cases h; omega
      · cases h
theorem drop_at {xs : List Int} {at' : Nat} (h : at' < xs.length) : xs.drop at' = xs[at']?.getD 0 :: xs.drop (at' + 1) := by
  rw [List.drop_eq_getElem_cons h, List.getElem?_eq_getElem h]
  rfl
/-- What escapedByte leaves. -/
def EsR (e : Ending) (w w' : World) (N q : Nat) (tv : Value) (xs : List Int) (c : Int) (at' d : Nat) (ov : Bool) : Prop :=
  Obk q w w' ∧ ((besc (c :: xs.drop at') = none ∧ Flt e) ∨ ∃ (v : Int) (at2 : Nat), besc (c :: xs.drop at') = some (v, xs.drop at2) ∧ at2 ≤ xs.length ∧ 0 ≤ v ∧ v ≤ 255 ∧ e = .returned (.int .i64 v) ∧ Rdr w' N q tv xs at2 d ov)

set_option maxHeartbeats 8000000 in
theorem escapedByte_any (w : World) (N q : Nat) (tv : Value) (xs : List Int) (c : Int) (at' d : Nat) (ov : Bool) (h : Rdr w N q tv xs at' d ov) (hb : ∀ x ∈ xs, 0 ≤ x ∧ x ≤ 255) (ha : at' ≤ xs.length) (hl : xs.length ≤ 100000) (c0 : 0 ≤ c) (c1 : c ≤ 255) :
    Calls Try.prog 69 #[.pointer (some ⟨q, 0, none⟩), .int .i64 c] w fun e w' => EsR e w w' N q tv xs c at' d ov := by
  have H := hide h
  have HB := hide hb
  by_cases e1 : c = 110
  · subst e1
    go_enter Try.func69, Try.ntmps69
    go_wp2
    go_ret
    exact ⟨obk_drewN q w 0, .inr ⟨10, at', rfl, ha, by omega, by omega, rfl, unhide H⟩⟩
  by_cases e2 : c = 116
  · subst e2
    go_enter Try.func69, Try.ntmps69
    go_wp2
    go_ret
    exact ⟨obk_drewN q w 0, .inr ⟨9, at', rfl, ha, by omega, by omega, rfl, unhide H⟩⟩
  by_cases e3 : c = 114
  · subst e3
    go_enter Try.func69, Try.ntmps69
    go_wp2
    go_ret
    exact ⟨obk_drewN q w 0, .inr ⟨13, at', rfl, ha, by omega, by omega, rfl, unhide H⟩⟩
  by_cases e4 : c = 120
  · subst e4
    have HX := hide (hexDigit_any w N q tv xs at' d ov h hb ha hl)
    have HE : Hid (besc (120 :: xs.drop at') = hex2 (xs.drop at')) := rfl
    clear h hb
    go_enter Try.func69, Try.ntmps69
    go_wp2_with fail
    refine (unhide HX).mono ?_
    rintro e w1 (⟨hno, ⟨z, rfl⟩, hob⟩ | ⟨hlt, ⟨a, hva, rfl⟩, hR, hob⟩)
    · have HZ : Hid (besc (120 :: xs.drop at') = none) := by
        show besc _ = none
        rw [unhide HE]
        rcases hno with e | e
        · rw [List.drop_eq_nil_of_le (by omega)]; rfl
        · by_cases hlt : at' < xs.length
          · rw [drop_at hlt]
            cases hs : xs.drop (at' + 1) with
            | nil => rfl
            | cons y r => simp only [hex2]; rw [e]; rfl
          · rw [List.drop_eq_nil_of_le (by omega)]; rfl
      have HOB := hide hob
      clear hno hob
      go_wp2
      exact ⟨rfl, unhide HOB, .inl ⟨unhide HZ, _, rfl⟩⟩
    · have HX2 := hide (hexDigit_any w1 N q tv xs (at' + 1) d ov hR (unhide HB) hlt hl)
      have HA := hide hva
      obtain ⟨a0, a1⟩ := hexv_bd hva
      have HOB := hide hob
      have HLT := hide hlt
      clear hva hR hob hlt
      go_wp2_with fail
      refine (unhide HX2).mono ?_
      rintro e w2 (⟨hno, ⟨z, rfl⟩, hob2⟩ | ⟨hlt2, ⟨b, hvb, rfl⟩, hR2, hob2⟩)
      · have HZ : Hid (besc (120 :: xs.drop at') = none) := by
          show besc _ = none
          rw [unhide HE, drop_at (unhide HLT)]
          by_cases hlt : at' + 1 < xs.length
          · rw [drop_at hlt]
            simp only [hex2]
            rcases hno with e | e
            · omega
            · rw [unhide HA, e]; rfl
          · rw [List.drop_eq_nil_of_le (by omega)]; rfl
        have HOB2 := hide ((unhide HOB).trans hob2)
        clear hno hob2
        go_wp2
        exact ⟨rfl, unhide HOB2, .inl ⟨unhide HZ, _, rfl⟩⟩
      · obtain ⟨b0, b1⟩ := hexv_bd hvb
        have HZ : Hid (besc (120 :: xs.drop at') = some (a * 16 + b, xs.drop (at' + 1 + 1))) := by
          show besc _ = _
          rw [unhide HE, drop_at (unhide HLT), drop_at hlt2]
          simp only [hex2]
          rw [unhide HA, hvb]
          rfl
        have HOB2 := hide ((unhide HOB).trans hob2)
        have HR2 := hide hR2
        have hle : at' + 1 + 1 ≤ xs.length := by omega
        clear hvb hob2 hR2 hlt2
        go_wp2
        go_ret
        exact ⟨unhide HOB2, .inr ⟨a * 16 + b, _, unhide HZ, hle, by omega, by omega, rfl, unhide HR2⟩⟩
  by_cases e5 : c = 45
  · subst e5
    go_enter Try.func69, Try.ntmps69
    go_wp2
    go_ret
    exact ⟨obk_drewN q w 0, .inr ⟨45, at', rfl, ha, by omega, by omega, rfl, unhide H⟩⟩
  have HS := hide (isSpecial_any c w c0 c1)
  have HF := hide (fail_any w N q tv xs at' d ov h)
  clear h hb
  go_enter Try.func69, Try.ntmps69
  go_wp2_with fail
  refine (unhide HS).mono ?_
  rintro e w1 ⟨hret, rfl⟩
  rcases hret.cases with ⟨rfl, hy⟩ | ⟨rfl, hy⟩
  · have HZ : Hid (besc (c :: xs.drop at') = some (c, xs.drop at')) := by show besc _ = _; rw [besc, if_pos (.inl hy)]
    clear hy
    go_wp2
    go_ret
    exact ⟨obk_drewN q w1 0, .inr ⟨c, at', unhide HZ, ha, c0, c1, rfl, unhide H⟩⟩
  · have HZ : Hid (besc (c :: xs.drop at') = none) := by
      show besc _ = _
      rw [besc, if_neg (by rintro (k | k); exact hy k; exact e5 k), if_neg e1, if_neg e2, if_neg e3, if_neg e4]
    clear hy
    go_wp2_with fail
    refine (unhide HF).mono ?_
    rintro e w2 ⟨rfl, rfl⟩
    go_wp2
    exact ⟨rfl, obk_drewN q _ 0, .inl ⟨unhide HZ, _, rfl⟩⟩


/-- Of what there was, nothing but one block has changed. -/
structure Gw (q : Nat) (w w' : World) : Prop where
  os : w'.os = w.os
  tape : w'.tape = w.tape
  output : w'.output = w.output
  size : w.heap.size ≤ w'.heap.size
  block : ∀ k, k < w.heap.size → k ≠ q → w'.heap[k]? = w.heap[k]?
theorem Gw.refl (q : Nat) (w : World) : Gw q w w := ⟨rfl, rfl, rfl, Nat.le_refl _, fun _ _ _ => rfl⟩
theorem Gw.trans {q : Nat} {a b c : World} (h : Gw q a b) (k : Gw q b c) : Gw q a c := ⟨k.os.trans h.os, k.tape.trans h.tape, k.output.trans h.output, Nat.le_trans h.size k.size, fun i hi hq => (k.block i (Nat.lt_of_lt_of_le hi h.size) hq).trans (h.block i hi hq)⟩
theorem Obk.gw {q : Nat} {a b : World} (h : Obk q a b) : Gw q a b := ⟨h.os, h.tape, h.output, by rw [h.size]; exact Nat.le_refl _, fun k _ hq => h.block k hq⟩
theorem gw_of {q m : Nat} {a b : World} (h : Below m a b) (hm : a.heap.size ≤ m) : Gw q a b := ⟨h.os, h.tape, h.output, h.size, fun k hk _ => h.block k (by omega)⟩
theorem gw_put {q m : Nat} {a b : World} (h : Gw q a b) (hm : a.heap.size ≤ m) (o : Nat) (u : Value) : Gw q a (b.setCell ⟨m, o, none⟩ u) := ⟨h.os, h.tape, h.output, by simp [World.setCell]; exact h.size, fun k hk hq => (Below.heap_setCell _ _ _ _ (by show k ≠ m; omega)).trans (h.block k hk hq)⟩
theorem Gw.row {q m : Nat} {a b : World} {B : Nat} {t : TypeId} {F : Nat → Value} (h : Gw q a b) (hr : a.rowIs B t m F) (hB : B < a.heap.size) (hq : B ≠ q) : b.rowIs B t m F := World.rowIs.of_block hr (h.block B hB hq)
theorem Gw.below {q m : Nat} {a b : World} (h : Gw q a b) (hm : m ≤ q) (ha : m ≤ a.heap.size) : Below m a b := ⟨h.os, h.tape, h.output, h.size, fun k hk => h.block k (by omega) (by omega)⟩
theorem row_lt {w : World} {B m : Nat} {t : TypeId} {F : Nat → Value} (hr : w.rowIs B t m F) : B < w.heap.size := by
  obtain ⟨c, hc, -⟩ := hr
  rcases Nat.lt_or_ge B w.heap.size with h | h
  · exact h
  · rw [Array.getElem?_eq_none h] at hc; cases hc
theorem Rdr.in {w : World} {N q : Nat} {tv : Value} {xs : List Int} {at' d : Nat} {ov : Bool} (h : Rdr w N q tv xs at' d ov) : q < w.heap.size := row_lt h.row
/-- The reader's box under a frame that leaves it alone. -/
theorem Rdr.keep {w w' : World} {N q m : Nat} {tv : Value} {xs : List Int} {at' d : Nat} {ov : Bool} (h : Rdr w N q tv xs at' d ov) (hb : Below m w w') (hm : w.heap.size ≤ m) : Rdr w' N q tv xs at' d ov := by
  have := h.in
  have := h.lt
  exact ⟨World.rowIs.of_block h.row (hb.block q (by omega)), h.txt.undr hb (by omega), h.lt⟩
theorem Rdr.put {w : World} {N q m o : Nat} {tv : Value} {xs : List Int} {at' d : Nat} {ov : Bool} (h : Rdr w N q tv xs at' d ov) (hm : q < m) (u : Value) : Rdr (w.setCell ⟨m, o, none⟩ u) N q tv xs at' d ov := by
  have h9 := h.lt
  refine ⟨World.rowIs.setOther h.row (by show q ≠ m; omega) u, h.txt.undr (m := N) ⟨rfl, rfl, rfl, by simp [World.setCell], fun k hk => Below.heap_setCell _ _ _ _ (by show k ≠ m; omega)⟩ (Nat.le_refl _), h.lt⟩

def or4 (g h : Nat → Nat) (j : Nat) : Nat := g j ||| h j
theorem or4_fit {g h : Nat → Nat} (hg : Fit g) (hh : Fit h) : Fit (or4 g h) := fun j => by
  have := Nat.or_lt_two_pow (n := 64) (show g j < 2 ^ 64 from hg j) (show h j < 2 ^ 64 from hh j)
  exact this
theorem or4_bt (g h : Nat → Nat) (b : Nat) : Bt (or4 g h) b = (Bt g b || Bt h b) := by unfold Bt or4; rw [Nat.testBit_or]

set_option maxHeartbeats 2000000 in
set_option maxRecDepth 100000 in
theorem union_w (g h : Nat → Nat) (w : World) (hg : Fit g) (hh : Fit h) : Calls Try.prog 66 #[ws4 g, ws4 h] w fun e w' => e = .returned (ws4 (or4 g h)) ∧ Below w.heap.size w w' := by
  unfold ws4
  have Hg := hide hg
  have Hh := hide hh
  clear hg hh
  go_enter Try.func66, Try.ntmps66
  go_wp2
  go_loopw [6] (fun iv wr => ∃ i : Nat, i ≤ 4 ∧ iv = .int .i64 i ∧ wr.rowIs w.heap.size 98 4 (fun j => .int .u64 ((if j < i then or4 g h j else g j : Nat) : Int)) ∧ wr.rowIs (w.heap.size + 1) 98 4 (fun j => .int .u64 (h j : Nat)) ∧ (∃ g : Nat → Value, wr.rowIs (w.heap.size + 2) 98 4 g) ∧ Below w.heap.size w wr) (fun iv _ => 4 - (intOf iv).toNat)
  case atStart =>
    refine ⟨0, by omega, rfl, (((four_row w _ g).alloc _).alloc _).congr (fun j hj => by simp), ?_, ⟨fun j => .int .u64 ((fun _ => 0 : Nat → Nat) j : Nat), ?_⟩, below3 w _ _ _⟩
    · have h9 := (four_row (w.alloc (.cells #[.int .u64 (g 0 : Nat), .int .u64 (g 1 : Nat), .int .u64 (g 2 : Nat), .int .u64 (g 3 : Nat)] 98)) 98 h)
      rw [sz_alloc] at h9; exact h9.alloc _
    · have h9 := zero_row ((w.alloc (.cells #[.int .u64 (g 0 : Nat), .int .u64 (g 1 : Nat), .int .u64 (g 2 : Nat), .int .u64 (g 3 : Nat)] 98)).alloc (.cells #[.int .u64 (h 0 : Nat), .int .u64 (h 1 : Nat), .int .u64 (h 2 : Nat), .int .u64 (h 3 : Nat)] 98)) 98
      rw [sz_alloc, sz_alloc] at h9; exact h9
  case round =>
    obtain ⟨i, hi, rfl, hrow, hrow1, ⟨g2, hrow2⟩, hb⟩ := hrel
    by_cases hlt : i < 4
    · have hlt' : (i : Int) < 4 := by omega
      have c0 := hrow.cell hlt
      rw [if_neg (Nat.lt_irrefl _)] at c0
      have c1 := hrow1.cell hlt
      have f0 := hrow.frozen i
      have hgi := unhide Hg i
      have hhi := unhide Hh i
      have Hrow := hide hrow
      have Hrow1 := hide hrow1
      have Hrow2 := hide hrow2
      have HX := hide (bits_or_u64_nat (g i) (h i) hgi hhi)
      clear hrow hrow1 hrow2
      go_wp2
      go_region
      go_wp2
      rw [unhide HX]
      refine ⟨⟨i + 1, by omega, by go_num, ?_, ?_, ⟨g2, ?_⟩, ?_⟩, by simp [intOf]; omega⟩
      · refine (((unhide Hrow).set i _).congr (fun j hj => ?_)).drew
        by_cases e : j = i
        · subst e; simp [or4]
        · have e2 : (j < i + 1) ↔ j < i := by omega
          simp [e, e2]
      · exact ((unhide Hrow1).setOther (by show w.heap.size + 1 ≠ w.heap.size; omega) _).drew
      · exact ((unhide Hrow2).setOther (by show w.heap.size + 2 ≠ w.heap.size; omega) _).drew
      · exact (bput hb (Nat.le_refl _) _).drew
    · obtain rfl : i = 4 := by omega
      have c0 := hrow.cell (i := 0) (by omega)
      have c1 := hrow.cell (i := 1) (by omega)
      have c2 := hrow.cell (i := 2) (by omega)
      have c3 := hrow.cell (i := 3) (by omega)
      rw [if_pos (by omega)] at c0 c1 c2 c3
      have d0 := hrow2.cell (i := 0) (by omega)
      have d1 := hrow2.cell (i := 1) (by omega)
      have d2 := hrow2.cell (i := 2) (by omega)
      have d3 := hrow2.cell (i := 3) (by omega)
      have f0 := hrow2.frozen 0
      have f1 := hrow2.frozen 1
      have f2 := hrow2.frozen 2
      have f3 := hrow2.frozen 3
      clear hrow hrow1 hrow2
      go_wp2
      refine bodyPost_ret (v := .agg #[.int .u64 (or4 g h 0 : Nat), .int .u64 (or4 g h 1 : Nat), .int .u64 (or4 g h 2 : Nat), .int .u64 (or4 g h 3 : Nat)]) (by simp [results, Try.results66, go_sem, d0, d1, d2, d3]) rfl ⟨rfl, ?_⟩
      exact bput (bput (bput (bput hb (by omega) _) (by omega) _) (by omega) _) (by omega) _

set_option maxHeartbeats 2000000 in
set_option maxRecDepth 100000 in
theorem single_any (x : Int) (w : World) (x0 : 0 ≤ x) (x1 : x ≤ 255) : Calls Try.prog 62 #[.int .i64 x] w fun e w' => (∃ g, e = .returned (ws4 g) ∧ Fit g ∧ ∀ b : Nat, Bt g b = decide (x ≤ (b : Int) ∧ (b : Int) ≤ x)) ∧ Below w.heap.size w w' := by
  have hB0 := below1 w (.cells #[.int .u64 0, .int .u64 0, .int .u64 0, .int .u64 0] 98)
  go_enter Try.func62, Try.ntmps62
  go_wp2_with fail
  refine (with_w (fun _ => 0) x x _ zero_fit (by omega) (by omega) (by omega)).mono ?_
  rintro e w1 ⟨q, rfl, hq, hbt, hb1⟩
  have hrow := box4 (hb1.mono (by rw [sz_alloc]; omega))
  have hB1 : Below w.heap.size w w1 := hB0.trans (hb1.mono (by rw [sz_alloc]; omega))
  have d0 := hrow.cell (i := 0) (by omega)
  have d1 := hrow.cell (i := 1) (by omega)
  have d2 := hrow.cell (i := 2) (by omega)
  have d3 := hrow.cell (i := 3) (by omega)
  have f0 := hrow.frozen 0
  have f1 := hrow.frozen 1
  have f2 := hrow.frozen 2
  have f3 := hrow.frozen 3
  have HQ := hide hq
  have HB : Hid (∀ b : Nat, Bt q b = decide (x ≤ (b : Int) ∧ (b : Int) ≤ x)) := fun b => by rw [hbt b, zero_bt, Bool.false_or]
  clear hrow hb1 hq hbt
  unfold ws4
  go_wp2
  refine bodyPost_ret (v := .agg #[.int .u64 (q 0 : Nat), .int .u64 (q 1 : Nat), .int .u64 (q 2 : Nat), .int .u64 (q 3 : Nat)]) (by simp [results, Try.results62, go_sem, d0, d1, d2, d3]) rfl ⟨⟨q, rfl, unhide HQ, unhide HB⟩, ?_⟩
  exact bput (bput (bput (bput hB1 (by omega) _) (by omega) _) (by omega) _) (by omega) _

set_option maxHeartbeats 2000000 in
set_option maxRecDepth 100000 in
theorem allBut_any (w : World) : Calls Try.prog 58 #[] w fun e w' => (∃ g, e = .returned (ws4 g) ∧ WordsOf [0, 9, 11, 255] g) ∧ Below w.heap.size w w' := by
  have hB0 := below1 w (.cells #[.int .u64 0, .int .u64 0, .int .u64 0, .int .u64 0] 98)
  go_enter Try.func58, Try.ntmps58
  go_wp2_with fail
  refine (single_any 10 _ (by omega) (by omega)).mono ?_
  rintro e w0 ⟨⟨g0, rfl, hf0, hbt0⟩, hb0⟩
  have HF := hide hf0
  have HW := hide (words_dot hf0 (fun b => by rw [hbt0 b, Bool.false_or]))
  have hz0 := hb0.size
  rw [sz_alloc] at hz0
  have Hb0 := hide hb0
  clear hf0 hbt0 hb0
  unfold ws4
  go_wp2_with fail
  refine (complement_w g0 _ (unhide HF)).mono ?_
  rintro e w1 ⟨rfl, hb1⟩
  have hrow := box4 (Below.trans ((unhide Hb0).mono (by rw [sz_alloc]; omega)) (hb1.mono (by omega)))
  have hB1 : Below w.heap.size w w1 := hB0.trans ((Below.trans ((unhide Hb0).mono (by rw [sz_alloc]; omega)) (hb1.mono (by omega))))
  have d0 := hrow.cell (i := 0) (by omega)
  have d1 := hrow.cell (i := 1) (by omega)
  have d2 := hrow.cell (i := 2) (by omega)
  have d3 := hrow.cell (i := 3) (by omega)
  have f0 := hrow.frozen 0
  have f1 := hrow.frozen 1
  have f2 := hrow.frozen 2
  have f3 := hrow.frozen 3
  clear hrow hb1 Hb0
  generalize cmp4 g0 = q at *
  unfold ws4
  go_wp2
  refine bodyPost_ret (v := .agg #[.int .u64 (q 0 : Nat), .int .u64 (q 1 : Nat), .int .u64 (q 2 : Nat), .int .u64 (q 3 : Nat)]) (by simp [results, Try.results58, go_sem, d0, d1, d2, d3]) rfl ⟨⟨q, rfl, unhide HW⟩, ?_⟩
  exact bput (bput (bput (bput hB1 (by omega) _) (by omega) _) (by omega) _) (by omega) _

end Go.Proofs.Ytjjmgegbeccjoaa
