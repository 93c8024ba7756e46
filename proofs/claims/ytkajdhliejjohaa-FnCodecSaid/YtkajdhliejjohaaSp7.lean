import Derived.Test.YtkajdhliejjohaaSp6
import Derived.Test.YtkajdhliejjohaaFc10
import Derived.Test.YtkajdhliejjohaaFc18
namespace Go.Proofs.Ytkajdhliejjohaa
open Go.RowKit

theorem bodL_mid {base : Int} {xss pss : List (List Int)} {ks : List Int} (h : EncIn base xss ks pss) (t1 : tot xss ≤ 1000) (l1 : xss.length ≤ 1000) (l2 : ks.length ≤ 1000) (t3 : tot pss ≤ 1000) : (bodL base xss ks pss).length ≤ 100000 := by
  have h1 := lnL_len xss h.t1
  have h2 := kyL_len base h.b ks pss 0 (Int.le_refl _) h.k h.p h.t3
  have h3 := vi_len9 (n := base) (by have := h.b.2; omega)
  have h4 := vi_len9 (n := (xss.length : Int)) (by have := h.l1; omega)
  have h5 := vi_len9 (n := (ks.length : Int)) (by have := h.l2; omega)
  simp only [bodL, List.length_append, List.length_cons, List.length_nil]
  omega
/-- What l4spoil makes of the segment that is drawn. -/
def SpC (zs : List Int) (base : Int) (xss : List (List Int)) (ks : List Int) (pss : List (List Int)) (b' : Int) (xss' : List (List Int)) (ks' : List Int) (pss' : List (List Int)) (kept : Prop) : Prop :=
  ∀ (N D lo : Nat) (v : Value) (w : World), CdAt N D w zs → D < lo → lo ≤ w.heap.size → SegO lo w v base xss ks pss → Calls Try.prog 15 #[v, .pointer (some ⟨D, 0, none⟩)] w (Spoilt N D lo w zs.tail.tail b' xss' ks' pss' (fun w' => kept → Kept D w v base xss ks pss w'))

set_option maxHeartbeats 8000000 in
set_option maxRecDepth 100000 in
theorem drawDec_1b (code : List Int) (hc : Cod code) (hk : (code.take 600).headD 0 % 16 = 1) (ks : List Int) (pss : List (List Int)) (hsr0 : SegR (dSg (code.take 600).tail).2.1 (dSg (code.take 600).tail).1 ks pss) (b' : Int) (xss' : List (List Int)) (ks' : List Int) (pss' : List (List Int)) (hin : EncIn b' xss' ks' pss') (h0 : 0 ≤ b') (s1 : tot xss' ≤ 1000) (s2 : xss'.length ≤ 1000) (s3 : ks'.length ≤ 1000) (s4 : tot pss' ≤ 1000) (hsp : SpC (dSg (code.take 600).tail).2.2.tail.tail (dSg (code.take 600).tail).2.1 (dSg (code.take 600).tail).1 ks pss b' xss' ks' pss' False) : DrawOk code := by
  obtain ⟨xs, hxs⟩ : ∃ xs, code.take 600 = xs := ⟨_, rfl⟩
  have hx : Cod xs := by rw [← hxs]; exact fun x h => hc x (List.mem_of_mem_take h)
  rw [hxs] at hk hsr0 hsp
  have hok := dSg_ok xs.tail hx.tail
  have hh := hx.head
  have HX := hide hx
  have HXS := hide hxs
  have HOK := hide hok
  obtain ⟨k, hy⟩ : ∃ y, xs.headD 0 = y := ⟨_, rfl⟩
  rw [hy] at hk hh
  have HY := hide hy
  have HI := hide (dSg_enc xs.tail hx.tail hsr0)
  have HSR := hide hsr0
  have HSP := hide hsp
  have hsm := dSg_small xs.tail hx.tail hsr0
  have HEB := hide (encL_bytes (base := (dSg xs.tail).2.1) (ks := ks) (pss := pss) (unhide HI).bytes)
  have HEL := hide (encL_is (dSg xs.tail).2.1 (dSg xs.tail).1 pss ks)
  obtain ⟨R, hR⟩ : ∃ R, dSg xs.tail = R := ⟨_, rfl⟩
  rw [hR] at HI HSR HOK HSP hsm HEB HEL
  have HRe := hide hR
  clear hx hxs hy hc hok hsr0 hsp hR
  have hbl := bodL_mid hin s1 s2 s3 s4
  obtain ⟨T, hT⟩ : ∃ T, bodL b' xss' ks' pss' = T := ⟨_, rfl⟩
  have hTB : Bytes T := by rw [← hT]; exact bodL_bytes hin.bytes
  have hTl : T.length ≤ 100000 := by rw [← hT]; exact hbl
  have HT := hide hT
  have HTB := hide hTB
  have HIN := hide hin
  have hl3 := hin.l3
  clear hT hTB hbl hin
  obtain ⟨X, hXX⟩ : ∃ X, T ++ ckB (ck T) = X := ⟨_, rfl⟩
  have hXb : Bytes X := by rw [← hXX]; exact cod_ck (unhide HTB)
  have hXl : X.length ≤ 100004 := by rw [← hXX, List.length_append, ckB_len]; omega
  refine ⟨X, hXb, by omega, fun v w hv hcap => ?_⟩
  have HXe := hide hXX
  clear hXX hXb
  have HV := hide hv
  have HCAP := hide hcap
  obtain ⟨a, cap, rfl, -, -⟩ := hv
  clear hcap
  go_enter Try.func4, Try.ntmps4
  go_wp2_with fail
  refine (l1open_any _ code w (unhide HV) (unhide HCAP)).mono ?_
  rintro e w1 ⟨rfl, hc1, hz1, hb1⟩
  rw [unhide HXS] at hc1
  have HC1 := hide hc1
  have hz1' : w.heap.size < w1.heap.size := by omega
  clear hc1 hz1
  go_wp2_with fail
  refine (next_any w.heap.size w.heap.size xs w1 (unhide HC1) (unhide HX)).mono ?_
  rintro e w2 ⟨he, hc2, ho2⟩
  rw [unhide HY] at he
  subst he
  have hz2 : w.heap.size < w2.heap.size := Nat.lt_of_lt_of_le hz1' (Nat.le_of_eq ho2.size.symm)
  have hB2 : Below w.heap.size w w2 := hb1.trans (ho2.below (Nat.le_refl _))
  have HC2 := hide hc2
  clear hc2 ho2 HC1 hb1
  go_wp2_with fail
  refine (l4drawSegment_own w.heap.size w.heap.size xs.tail w2 (unhide HC2) (unhide HX).tail hz2).mono ?_
  rintro e w3 ⟨⟨sv, ks9, pss9, rfl, hsr, hat⟩, hc3, hm3⟩
  rw [unhide HRe] at hsr hat hc3
  obtain ⟨e1, e2⟩ := SegR.uniq hsr (unhide HSR)
  rw [e1, e2] at hat
  clear hsr e1 e2
  have hz3 : w2.heap.size ≤ w3.heap.size := hm3.size
  have hB3 : Below w.heap.size w w3 := hB2.trans (hm3.below (Nat.le_of_lt hz2))
  have HS3 := hide hat
  obtain ⟨la, lc, ka, kc, pa, pc, rfl, -⟩ := hat.rd.parts
  have HC3 := hide hc3
  have hb4 := below1 w3 (.cells #[.int .i64 R.2.1, .slice la R.1.length lc, .slice ka ks.length kc, .slice pa pss.length pc] 28)
  have R4 := Row4.new w3 28 (.int .i64 R.2.1) (.slice la R.1.length lc) (.slice ka ks.length kc) (.slice pa pss.length pc)
  have hz4 : (w3.alloc (.cells #[.int .i64 R.2.1, .slice la R.1.length lc, .slice ka ks.length kc, .slice pa pss.length pc] 28)).heap.size = w3.heap.size + 1 := sz_alloc _ _
  clear hc3 hm3 HC2 hB2 hat
  go_wp2_with fail
  generalize w3.alloc (.cells #[.int .i64 R.2.1, .slice la R.1.length lc, .slice ka ks.length kc, .slice pa pss.length pc] 28) = w4 at *
  have hz4' : w3.heap.size < w4.heap.size := by omega
  have HA4 := hide ((unhide HS3).keep hb4 (Nat.le_refl _))
  have hB4 : Below w.heap.size w w4 := hB3.trans (hb4.mono (by omega))
  have HC4 := hide ((unhide HC3).keep hb4 (by omega))
  clear HS3 HC3 hB3 hb4 hz4
  refine (next_any w.heap.size w.heap.size R.2.2 w4 (unhide HC4) (unhide HOK).2.2.2.2).mono ?_
  rintro e w5 ⟨he, hc5, ho5⟩
  subst he
  have hz5 : w3.heap.size < w5.heap.size := Nat.lt_of_lt_of_le hz4' (Nat.le_of_eq ho5.size.symm)
  have hB5 : Below w.heap.size w w5 := hB4.trans (ho5.below (Nat.le_refl _))
  have R5 := R4.mv (ho5.mv w4.heap.size) hz4' (by omega)
  have HA5 := hide ((unhide HA4).same (Nat.le_of_eq ho5.size.symm) (fun k k1 _ => ho5.block k (by omega)))
  clear ho5 HA4 R4 hB4 HC4 hz4'
  go_wp2_with fail
  refine (next_any w.heap.size w.heap.size R.2.2.tail w5 hc5 (unhide HOK).2.2.2.2.tail).mono ?_
  rintro e w6 ⟨he, hc6, ho6⟩
  subst he
  have hz6 : w3.heap.size < w6.heap.size := Nat.lt_of_lt_of_le hz5 (Nat.le_of_eq ho6.size.symm)
  have hB6 : Below w.heap.size w w6 := hB5.trans (ho6.below (Nat.le_refl _))
  have HR6 := hide (R5.mv (ho6.mv w5.heap.size) hz5 (by omega))
  have HA6 := hide ((unhide HA5).same (Nat.le_of_eq ho6.size.symm) (fun k k1 _ => ho6.block k (by omega)))
  have HC6 := hide hc6
  obtain ⟨r0, r1, r2, r3, -⟩ := (unhide HR6).facts
  clear ho6 HA5 R5 hB5 hc5 hc6 hz5
  go_wp2_with fail
  refine (unhide HSP w.heap.size w.heap.size w2.heap.size _ w6 (unhide HC6) hz2 (by omega) (unhide HA6)).mono ?_
  rintro e w7 ⟨⟨v7, rfl, hrd7⟩, hc7, hm7, hkp⟩
  have hz7 : w6.heap.size ≤ w7.heap.size := hm7.size
  have hB7 : Below w.heap.size w w7 := hB6.trans (hm7.below (Nat.le_of_lt hz2))
  have HRD := hide hrd7
  obtain ⟨b1, d1, b2, d2, b3, d3, rfl, -⟩ := hrd7.parts
  have hb8 := below1 w7 (.cells #[.int .i64 b', .slice b1 xss'.length d1, .slice b2 ks'.length d2, .slice b3 pss'.length d3] 28)
  have R8 := Row4.new w7 28 (.int .i64 b') (.slice b1 xss'.length d1) (.slice b2 ks'.length d2) (.slice b3 pss'.length d3)
  have hzV8 : (w7.alloc (.cells #[.int .i64 b', .slice b1 xss'.length d1, .slice b2 ks'.length d2, .slice b3 pss'.length d3] 28)).heap.size = w7.heap.size + 1 := sz_alloc _ _
  obtain ⟨x0, x1, x2, x3, -⟩ := R8.facts
  clear hkp
  clear hc7 hm7 hrd7 r0 r1 r2 r3
  have h0' : (0 : Int) ≤ b' := h0
  have hl3' : (ks'.length : Int) ≤ (pss'.length : Int) := by omega
  go_wp2_with fail
  generalize w7.alloc (.cells #[.int .i64 b', .slice b1 xss'.length d1, .slice b2 ks'.length d2, .slice b3 pss'.length d3] 28) = w8 at *
  have hz8 : w7.heap.size ≤ w8.heap.size := by omega
  clear hzV8
  refine (l4body_any _ b' xss' pss' ks' w8 ((unhide HRD).below hb8 (Nat.le_refl _)) (unhide HIN)).mono ?_
  rintro e w9 ⟨⟨v9, rfl, ho9⟩, hb9⟩
  rw [unhide HT] at ho9
  have hz9 := hb9.size
  have HO9 := hide ho9
  have hB9 : Below w.heap.size w w9 := (hB7.trans (hb8.mono (by omega))).trans (hb9.mono (by omega))
  obtain ⟨ga, gc, rfl⟩ := own_is ho9
  clear ho9 hb9
  go_wp2_with fail
  refine (l4reseal_any w8.heap.size _ T w9 (by exact unhide HO9) hz9 (unhide HTB) (by omega)).mono ?_
  rintro e w10 ⟨⟨v10, rfl, ho10⟩, hb10⟩
  rw [unhide HXe] at ho10
  have hB10 : Below w.heap.size w w10 := hB9.trans (hb10.mono (by omega))
  have HO10 := hide ho10
  obtain ⟨oa, oc, rfl⟩ := own_is ho10
  clear ho10
  go_wp2_with fail
  go_ret
  exact ⟨⟨_, rfl, own_rdB (unhide HO10) (by unfold maxLen; omega), own_cap (unhide HO10)⟩, hB10⟩

set_option maxHeartbeats 8000000 in
set_option maxRecDepth 100000 in
theorem drawDec_1e (code : List Int) (hc : Cod code) (hk : (code.take 600).headD 0 % 16 = 1) (ks : List Int) (pss : List (List Int)) (hsr0 : SegR (dSg (code.take 600).tail).2.1 (dSg (code.take 600).tail).1 ks pss) (b' : Int) (xss' : List (List Int)) (ks' : List Int) (pss' : List (List Int)) (hno : b' < 0 ∨ (0 ≤ b' ∧ pss'.length < ks'.length)) (hsp : SpC (dSg (code.take 600).tail).2.2.tail.tail (dSg (code.take 600).tail).2.1 (dSg (code.take 600).tail).1 ks pss b' xss' ks' pss' True) : DrawOk code := by
  obtain ⟨xs, hxs⟩ : ∃ xs, code.take 600 = xs := ⟨_, rfl⟩
  have hx : Cod xs := by rw [← hxs]; exact fun x h => hc x (List.mem_of_mem_take h)
  rw [hxs] at hk hsr0 hsp
  have hok := dSg_ok xs.tail hx.tail
  have hh := hx.head
  have HX := hide hx
  have HXS := hide hxs
  have HOK := hide hok
  obtain ⟨k, hy⟩ : ∃ y, xs.headD 0 = y := ⟨_, rfl⟩
  rw [hy] at hk hh
  have HY := hide hy
  have HI := hide (dSg_enc xs.tail hx.tail hsr0)
  have HSR := hide hsr0
  have HSP := hide hsp
  have hsm := dSg_small xs.tail hx.tail hsr0
  have HEB := hide (encL_bytes (base := (dSg xs.tail).2.1) (ks := ks) (pss := pss) (unhide HI).bytes)
  have HEL := hide (encL_is (dSg xs.tail).2.1 (dSg xs.tail).1 pss ks)
  obtain ⟨R, hR⟩ : ∃ R, dSg xs.tail = R := ⟨_, rfl⟩
  rw [hR] at HI HSR HOK HSP hsm HEB HEL
  have HRe := hide hR
  clear hx hxs hy hc hok hsr0 hsp hR
  obtain ⟨E, hE⟩ : ∃ E, encL R.2.1 R.1 ks pss = E := ⟨_, rfl⟩
  rw [hE] at HEB HEL
  have HE := hide hE
  have hEl : 6 ≤ E.length := by have := unhide HEL; omega
  have hEu : E.length ≤ 20000 := by have := unhide HEL; omega
  clear hE
  obtain ⟨X, hXX⟩ : ∃ X, E.take 5 = X := ⟨_, rfl⟩
  have hXb : Bytes X := by rw [← hXX]; exact cod_take (unhide HEB)
  have hXl : X.length = 5 := by rw [← hXX, List.length_take]; omega
  have HXL := hide hXl
  refine ⟨X, hXb, by omega, fun v w hv hcap => ?_⟩
  clear hXl
  have HXe := hide hXX
  clear hXX hXb
  have HV := hide hv
  have HCAP := hide hcap
  obtain ⟨a, cap, rfl, -, -⟩ := hv
  clear hcap
  go_enter Try.func4, Try.ntmps4
  go_wp2_with fail
  refine (l1open_any _ code w (unhide HV) (unhide HCAP)).mono ?_
  rintro e w1 ⟨rfl, hc1, hz1, hb1⟩
  rw [unhide HXS] at hc1
  have HC1 := hide hc1
  have hz1' : w.heap.size < w1.heap.size := by omega
  clear hc1 hz1
  go_wp2_with fail
  refine (next_any w.heap.size w.heap.size xs w1 (unhide HC1) (unhide HX)).mono ?_
  rintro e w2 ⟨he, hc2, ho2⟩
  rw [unhide HY] at he
  subst he
  have hz2 : w.heap.size < w2.heap.size := Nat.lt_of_lt_of_le hz1' (Nat.le_of_eq ho2.size.symm)
  have hB2 : Below w.heap.size w w2 := hb1.trans (ho2.below (Nat.le_refl _))
  have HC2 := hide hc2
  clear hc2 ho2 HC1 hb1
  go_wp2_with fail
  refine (l4drawSegment_own w.heap.size w.heap.size xs.tail w2 (unhide HC2) (unhide HX).tail hz2).mono ?_
  rintro e w3 ⟨⟨sv, ks9, pss9, rfl, hsr, hat⟩, hc3, hm3⟩
  rw [unhide HRe] at hsr hat hc3
  obtain ⟨e1, e2⟩ := SegR.uniq hsr (unhide HSR)
  rw [e1, e2] at hat
  clear hsr e1 e2
  have hz3 : w2.heap.size ≤ w3.heap.size := hm3.size
  have hB3 : Below w.heap.size w w3 := hB2.trans (hm3.below (Nat.le_of_lt hz2))
  have HS3 := hide hat
  obtain ⟨la, lc, ka, kc, pa, pc, rfl, -⟩ := hat.rd.parts
  have HC3 := hide hc3
  have hb4 := below1 w3 (.cells #[.int .i64 R.2.1, .slice la R.1.length lc, .slice ka ks.length kc, .slice pa pss.length pc] 28)
  have R4 := Row4.new w3 28 (.int .i64 R.2.1) (.slice la R.1.length lc) (.slice ka ks.length kc) (.slice pa pss.length pc)
  have hz4 : (w3.alloc (.cells #[.int .i64 R.2.1, .slice la R.1.length lc, .slice ka ks.length kc, .slice pa pss.length pc] 28)).heap.size = w3.heap.size + 1 := sz_alloc _ _
  clear hc3 hm3 HC2 hB2 hat
  go_wp2_with fail
  generalize w3.alloc (.cells #[.int .i64 R.2.1, .slice la R.1.length lc, .slice ka ks.length kc, .slice pa pss.length pc] 28) = w4 at *
  have hz4' : w3.heap.size < w4.heap.size := by omega
  have HA4 := hide ((unhide HS3).keep hb4 (Nat.le_refl _))
  have hB4 : Below w.heap.size w w4 := hB3.trans (hb4.mono (by omega))
  have HC4 := hide ((unhide HC3).keep hb4 (by omega))
  clear HS3 HC3 hB3 hb4 hz4
  refine (next_any w.heap.size w.heap.size R.2.2 w4 (unhide HC4) (unhide HOK).2.2.2.2).mono ?_
  rintro e w5 ⟨he, hc5, ho5⟩
  subst he
  have hz5 : w3.heap.size < w5.heap.size := Nat.lt_of_lt_of_le hz4' (Nat.le_of_eq ho5.size.symm)
  have hB5 : Below w.heap.size w w5 := hB4.trans (ho5.below (Nat.le_refl _))
  have R5 := R4.mv (ho5.mv w4.heap.size) hz4' (by omega)
  have HA5 := hide ((unhide HA4).same (Nat.le_of_eq ho5.size.symm) (fun k k1 _ => ho5.block k (by omega)))
  clear ho5 HA4 R4 hB4 HC4 hz4'
  go_wp2_with fail
  refine (next_any w.heap.size w.heap.size R.2.2.tail w5 hc5 (unhide HOK).2.2.2.2.tail).mono ?_
  rintro e w6 ⟨he, hc6, ho6⟩
  subst he
  have hz6 : w3.heap.size < w6.heap.size := Nat.lt_of_lt_of_le hz5 (Nat.le_of_eq ho6.size.symm)
  have hB6 : Below w.heap.size w w6 := hB5.trans (ho6.below (Nat.le_refl _))
  have HR6 := hide (R5.mv (ho6.mv w5.heap.size) hz5 (by omega))
  have HA6 := hide ((unhide HA5).same (Nat.le_of_eq ho6.size.symm) (fun k k1 _ => ho6.block k (by omega)))
  have HC6 := hide hc6
  obtain ⟨r0, r1, r2, r3, -⟩ := (unhide HR6).facts
  clear ho6 HA5 R5 hB5 hc5 hc6 hz5
  go_wp2_with fail
  refine (unhide HSP w.heap.size w.heap.size w2.heap.size _ w6 (unhide HC6) hz2 (by omega) (unhide HA6)).mono ?_
  rintro e w7 ⟨⟨v7, rfl, hrd7⟩, hc7, hm7, hkp⟩
  have hz7 : w6.heap.size ≤ w7.heap.size := hm7.size
  have hB7 : Below w.heap.size w w7 := hB6.trans (hm7.below (Nat.le_of_lt hz2))
  have HRD := hide hrd7
  obtain ⟨b1, d1, b2, d2, b3, d3, rfl, -⟩ := hrd7.parts
  have hb8 := below1 w7 (.cells #[.int .i64 b', .slice b1 xss'.length d1, .slice b2 ks'.length d2, .slice b3 pss'.length d3] 28)
  have R8 := Row4.new w7 28 (.int .i64 b') (.slice b1 xss'.length d1) (.slice b2 ks'.length d2) (.slice b3 pss'.length d3)
  have hzV8 : (w7.alloc (.cells #[.int .i64 b', .slice b1 xss'.length d1, .slice b2 ks'.length d2, .slice b3 pss'.length d3] 28)).heap.size = w7.heap.size + 1 := sz_alloc _ _
  obtain ⟨x0, x1, x2, x3, -⟩ := R8.facts
  have HKP := hide (hkp trivial)
  have HR7 := hide ((hkp trivial).2 _ _ _ _ _ (by omega) (unhide HR6))
  obtain ⟨y0, y1, y2, y3, -⟩ := ((unhide HR7).below hb8 (by omega)).facts
  clear hkp
  clear hc7 hm7 hrd7 r0 r1 r2 r3
  rcases hno with hno | ⟨hno, hno2⟩
  · have h0' : ¬ (0 : Int) ≤ b' := by omega
    go_wp2_with fail
    generalize w7.alloc (.cells #[.int .i64 b', .slice b1 xss'.length d1, .slice b2 ks'.length d2, .slice b3 pss'.length d3] 28) = w8 at *
    have hz8 : w7.heap.size ≤ w8.heap.size := by omega
    clear hzV8
    refine (l4encode_any _ R.2.1 R.1 pss ks w8 ((unhide HKP).1.below hb8 (Nat.le_refl _)) (unhide HI)).mono ?_
    rintro e w9 ⟨⟨v9, rfl, ho9⟩, hb9⟩
    rw [unhide HE] at ho9
    have hz9 := hb9.size
    have hB9 : Below w.heap.size w w9 := (hB7.trans (hb8.mono (by omega))).trans (hb9.mono (by omega))
    unfold Out at ho9
    obtain ⟨g9, oc9, rfl, hg9⟩ := own_some ho9 (by omega)
    have hcp := own_cap ho9
    have hle := hcp.le
    have hSl : SlAt mB 0 0 w9.heap.size w9 (.slice (some ⟨g9, 0, none⟩) 5 oc9) X ∧ CapOk (.slice (some ⟨g9, 0, none⟩) 5 oc9) := by
      have hg := (ho9.lt g9 rfl).2
      refine ⟨⟨_, oc9, by rw [unhide HXL], by rw [unhide HXL]; unfold maxLen; omega, fun _ => ⟨g9, 0, rfl, Nat.zero_le _, hg, fun i hi => ?_⟩⟩, CapOk.mk (by omega) (by omega)⟩
      have hi' : i < 5 := by rw [unhide HXL] at hi; exact hi
      rw [Nat.zero_add, ho9.cellAt i (by omega), List.getElem?_map, ← unhide HXe, List.getElem?_take, if_pos hi', List.getElem?_eq_getElem (by omega)]
      rfl
    have HSL := hide hSl
    have h59 : (5 : Int) ≤ (oc9 : Int) := by omega
    have h5n : 5 ≤ oc9 := by omega
    clear ho9 hcp hSl hb9
    go_wp2_with fail
    go_ret
    exact ⟨⟨_, rfl, (unhide HSL).1, (unhide HSL).2⟩, hB9⟩

  · have h0' : (0 : Int) ≤ b' := hno
    have hl3' : ¬ (ks'.length : Int) ≤ (pss'.length : Int) := by omega
    go_wp2_with fail
    generalize w7.alloc (.cells #[.int .i64 b', .slice b1 xss'.length d1, .slice b2 ks'.length d2, .slice b3 pss'.length d3] 28) = w8 at *
    have hz8 : w7.heap.size ≤ w8.heap.size := by omega
    clear hzV8
    refine (l4encode_any _ R.2.1 R.1 pss ks w8 ((unhide HKP).1.below hb8 (Nat.le_refl _)) (unhide HI)).mono ?_
    rintro e w9 ⟨⟨v9, rfl, ho9⟩, hb9⟩
    rw [unhide HE] at ho9
    have hz9 := hb9.size
    have hB9 : Below w.heap.size w w9 := (hB7.trans (hb8.mono (by omega))).trans (hb9.mono (by omega))
    unfold Out at ho9
    obtain ⟨g9, oc9, rfl, hg9⟩ := own_some ho9 (by omega)
    have hcp := own_cap ho9
    have hle := hcp.le
    have hSl : SlAt mB 0 0 w9.heap.size w9 (.slice (some ⟨g9, 0, none⟩) 5 oc9) X ∧ CapOk (.slice (some ⟨g9, 0, none⟩) 5 oc9) := by
      have hg := (ho9.lt g9 rfl).2
      refine ⟨⟨_, oc9, by rw [unhide HXL], by rw [unhide HXL]; unfold maxLen; omega, fun _ => ⟨g9, 0, rfl, Nat.zero_le _, hg, fun i hi => ?_⟩⟩, CapOk.mk (by omega) (by omega)⟩
      have hi' : i < 5 := by rw [unhide HXL] at hi; exact hi
      rw [Nat.zero_add, ho9.cellAt i (by omega), List.getElem?_map, ← unhide HXe, List.getElem?_take, if_pos hi', List.getElem?_eq_getElem (by omega)]
      rfl
    have HSL := hide hSl
    have h59 : (5 : Int) ≤ (oc9 : Int) := by omega
    have h5n : 5 ≤ oc9 := by omega
    clear ho9 hcp hSl hb9
    go_wp2_with fail
    go_ret
    exact ⟨⟨_, rfl, (unhide HSL).1, (unhide HSL).2⟩, hB9⟩

end Go.Proofs.Ytkajdhliejjohaa
