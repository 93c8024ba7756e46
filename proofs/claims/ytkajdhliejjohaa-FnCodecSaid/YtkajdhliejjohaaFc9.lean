import Derived.Test.YtkajdhliejjohaaFc8
namespace Go.Proofs.Ytkajdhliejjohaa
open Go.RowKit

theorem bodL_small {base : Int} {xss pss : List (List Int)} {ks : List Int} (h : EncIn base xss ks pss) (t1 : tot xss ≤ 240) (l1 : xss.length ≤ 12) (l2 : ks.length ≤ 240) (t3 : tot pss ≤ 240) : (bodL base xss ks pss).length ≤ 10000 ∧ 2 ≤ (bodL base xss ks pss).length := by
  have h1 := lnL_len xss h.t1
  have h2 := kyL_len base h.b ks pss 0 (Int.le_refl _) h.k h.p h.t3
  have h3 := vi_len9 (n := base) (by have := h.b.2; omega)
  have h4 := vi_len9 (n := (xss.length : Int)) (by have := h.l1; omega)
  have h5 := vi_len9 (n := (ks.length : Int)) (by have := h.l2; omega)
  simp only [bodL, List.length_append, List.length_cons, List.length_nil]
  omega
theorem dSg_small (xs : List Int) (h : Cod xs) {ks : List Int} {pss : List (List Int)} (hs : SegR (dSg xs).2.1 (dSg xs).1 ks pss) : (bodL (dSg xs).2.1 (dSg xs).1 ks pss).length ≤ 10000 ∧ 2 ≤ (bodL (dSg xs).2.1 (dSg xs).1 ks pss).length := by
  have h1 := dSg_ok xs h
  have h2 := segR_len hs (by omega)
  exact bodL_small (dSg_enc xs h hs) (by omega) (by omega) (by omega) (by omega)
theorem encL_is (base : Int) (xss pss : List (List Int)) (ks : List Int) : (encL base xss ks pss).length = (bodL base xss ks pss).length + 4 := by
  unfold encL
  rw [List.length_append]
  rfl

set_option maxHeartbeats 8000000 in
set_option maxRecDepth 100000 in
theorem drawDec_none (code : List Int) (hc : Cod code) (hk : 1 ≤ (code.take 600).headD 0 % 16) (hex : ¬ ∃ ks pss, SegR (dSg (code.take 600).tail).2.1 (dSg (code.take 600).tail).1 ks pss) (v : Value) (w : World) (hv : SlAt mB 0 0 w.heap.size w v code) (hcap : CapOk v) (Q : Ending → World → Prop) :
    Calls Try.prog 4 #[v] w Q := by
  obtain ⟨xs, hxs⟩ : ∃ xs, code.take 600 = xs := ⟨_, rfl⟩
  have hx : Cod xs := by rw [← hxs]; exact fun x h => hc x (List.mem_of_mem_take h)
  rw [hxs] at hk hex
  have hh := hx.head
  have HX := hide hx
  have HXS := hide hxs
  have HEX := hide hex
  obtain ⟨k, hy⟩ : ∃ y, xs.headD 0 = y := ⟨_, rfl⟩
  rw [hy] at hk hh
  have HY := hide hy
  have HV := hide hv
  have HCAP := hide hcap
  obtain ⟨a, cap, rfl, -, -⟩ := hv
  clear hx hxs hy hc hex hcap
  go_enter Try.func4, Try.ntmps4
  go_wp2_with fail
  refine (l1open_any _ code w (unhide HV) (unhide HCAP)).mono ?_
  rintro e w1 ⟨rfl, hc1, hz1, hb1⟩
  rw [unhide HXS] at hc1
  have HC1 := hide hc1
  have hz1' : w.heap.size < w1.heap.size := by omega
  clear hc1 hz1
  go_wp2_with fail
  refine (next_any w.heap.size w.heap.size xs w1 (unhide HC1) (unhide HX)).mono ?_
  rintro e w2 ⟨he, hc2, ho2⟩
  rw [unhide HY] at he
  subst he
  have hz2 : w.heap.size < w2.heap.size := Nat.lt_of_lt_of_le hz1' (Nat.le_of_eq ho2.size.symm)
  have HC2 := hide hc2
  clear hc2 ho2 HC1 hb1
  go_wp2_with fail
  refine (l4drawSegment_any w.heap.size w.heap.size xs.tail w2 (unhide HC2) (unhide HX).tail hz2).mono ?_
  rintro e w3 ⟨⟨sv, ks', pss', rfl, hsr, hat⟩, hc3, hm3⟩
  exact absurd ⟨ks', pss', hsr⟩ (unhide HEX)

set_option maxHeartbeats 8000000 in
set_option maxRecDepth 100000 in
theorem drawDec_plain (code : List Int) (hc : Cod code) (hk : 11 ≤ (code.take 600).headD 0 % 16) : ∃ bs, Bytes bs ∧ bs.length ≤ 1048576 ∧ ∀ (v : Value) (w : World), SlAt mB 0 0 w.heap.size w v code → CapOk v →
    Calls Try.prog 4 #[v] w (DrawnB w bs) := by
  obtain ⟨xs, hxs⟩ : ∃ xs, code.take 600 = xs := ⟨_, rfl⟩
  have hx : Cod xs := by rw [← hxs]; exact fun x h => hc x (List.mem_of_mem_take h)
  rw [hxs] at hk
  have hok := dSg_ok xs.tail hx.tail
  have hh := hx.head
  have HX := hide hx
  have HCC := hide hc
  have HXS := hide hxs
  have HOK := hide hok
  obtain ⟨k, hy⟩ : ∃ y, xs.headD 0 = y := ⟨_, rfl⟩
  rw [hy] at hk hh
  have HY := hide hy
  clear hx hxs hy hc hok
  by_cases hex : ∃ ks pss, SegR (dSg xs.tail).2.1 (dSg xs.tail).1 ks pss
  · obtain ⟨ks, pss, hsr⟩ := hex
    have HI := hide (dSg_enc xs.tail (unhide HX).tail hsr)
    have HSR := hide hsr
    have hsm := dSg_small xs.tail (unhide HX).tail hsr
    clear hsr
    refine ⟨encL (dSg xs.tail).2.1 (dSg xs.tail).1 ks pss, encL_bytes (unhide HI).bytes, by rw [encL_is]; omega, fun v w hv hcap => ?_⟩
    obtain ⟨R, hR⟩ : ∃ R, dSg xs.tail = R := ⟨_, rfl⟩
    rw [hR] at HI HSR HOK hsm ⊢
    have HRe := hide hR
    have HV := hide hv
    have HCAP := hide hcap
    obtain ⟨a, cap, rfl, -, -⟩ := hv
    clear hR hcap
    go_enter Try.func4, Try.ntmps4
    go_wp2_with fail
    refine (l1open_any _ code w (unhide HV) (unhide HCAP)).mono ?_
    rintro e w1 ⟨rfl, hc1, hz1, hb1⟩
    rw [unhide HXS] at hc1
    have HC1 := hide hc1
    have hz1' : w.heap.size < w1.heap.size := by omega
    clear hc1 hz1
    go_wp2_with fail
    refine (next_any w.heap.size w.heap.size xs w1 (unhide HC1) (unhide HX)).mono ?_
    rintro e w2 ⟨he, hc2, ho2⟩
    rw [unhide HY] at he
    subst he
    have hz2 : w.heap.size < w2.heap.size := Nat.lt_of_lt_of_le hz1' (Nat.le_of_eq ho2.size.symm)
    have hB2 : Below w.heap.size w w2 := hb1.trans (ho2.below (Nat.le_refl _))
    have HC2 := hide hc2
    clear hc2 ho2 HC1 hb1
    go_wp2_with fail
    refine (l4drawSegment_any w.heap.size w.heap.size xs.tail w2 (unhide HC2) (unhide HX).tail hz2).mono ?_
    rintro e w3 ⟨⟨sv, ks', pss', rfl, hsr, hat⟩, hc3, hm3⟩
    rw [unhide HRe] at hsr hat hc3
    obtain ⟨rfl, rfl⟩ := SegR.uniq hsr (unhide HSR)
    have hz3 : w2.heap.size ≤ w3.heap.size := hm3.size
    have hB3 : Below w.heap.size w w3 := hB2.trans (hm3.below (Nat.le_of_lt hz2))
    have HS3 := hide hat
    obtain ⟨lv, kv, pv, rfl, s1, s2, s3⟩ := hat
    obtain ⟨la, lc, rfl, -⟩ := id s1
    obtain ⟨ka, kc, rfl, -⟩ := id s2
    obtain ⟨pa, pc, rfl, -⟩ := id s3
    have HC3 := hide hc3
    clear hc3 hm3 hsr s1 s2 s3 HC2 hB2
    go_wp2_with fail
    obtain ⟨w4, hw4⟩ : ∃ w4, w4 = w3.alloc (.cells #[.int .i64 R.2.1, .slice la R.1.length lc, .slice ka ks'.length kc, .slice pa pss'.length pc] 28) := ⟨_, rfl⟩
    have R4 := Row4.new w3 28 (.int .i64 R.2.1) (.slice la R.1.length lc) (.slice ka ks'.length kc) (.slice pa pss'.length pc)
    have hb4 := below1 w3 (.cells #[.int .i64 R.2.1, .slice la R.1.length lc, .slice ka ks'.length kc, .slice pa pss'.length pc] 28)
    have hz4 : w3.heap.size + 1 = w4.heap.size := by rw [hw4, sz_alloc]
    rw [← hw4] at R4 hb4 ⊢
    have hz4' : w3.heap.size < w4.heap.size := by omega
    clear hw4 hz4
    have HA4 := hide ((unhide HS3).keep hb4 (Nat.le_refl _))
    have hB4 : Below w.heap.size w w4 := hB3.trans (hb4.mono (by omega))
    have HC4 := hide ((unhide HC3).keep hb4 (by omega))
    clear HS3 HC3 hB3 hb4
    refine (next_any w.heap.size w.heap.size R.2.2 w4 (unhide HC4) (unhide HOK).2.2.2.2).mono ?_
    rintro e w5 ⟨he, hc5, ho5⟩
    have hy5 := (unhide HOK).2.2.2.2.head
    obtain ⟨y5, hy5e⟩ : ∃ y, R.2.2.headD 0 = y := ⟨_, rfl⟩
    rw [hy5e] at he hy5
    subst he
    have hz5 : w3.heap.size < w5.heap.size := Nat.lt_of_lt_of_le hz4' (Nat.le_of_eq ho5.size.symm)
    have hB5 : Below w.heap.size w w5 := hB4.trans (ho5.below (Nat.le_refl _))
    have R5 := R4.mv (ho5.mv w4.heap.size) hz4' (by omega)
    have HA5 := hide ((unhide HA4).same (Nat.le_of_eq ho5.size.symm) (fun k k1 _ => ho5.block k (by omega)))
    clear hy5e ho5 HA4 R4 hB4 HC4 hz4'
    go_wp2_with fail
    refine (next_any w.heap.size w.heap.size R.2.2.tail w5 hc5 (unhide HOK).2.2.2.2.tail).mono ?_
    rintro e w6 ⟨he, hc6, ho6⟩
    have hy6 := (unhide HOK).2.2.2.2.tail.head
    obtain ⟨y6, hy6e⟩ : ∃ y, R.2.2.tail.headD 0 = y := ⟨_, rfl⟩
    rw [hy6e] at he hy6
    subst he
    have hz6 : w3.heap.size < w6.heap.size := Nat.lt_of_lt_of_le hz5 (Nat.le_of_eq ho6.size.symm)
    have hB6 : Below w.heap.size w w6 := hB5.trans (ho6.below (Nat.le_refl _))
    have R6 := R5.mv (ho6.mv w5.heap.size) hz5 (by omega)
    have HA6 := hide ((unhide HA5).same (Nat.le_of_eq ho6.size.symm) (fun k k1 _ => ho6.block k (by omega)))
    have HR6 := hide R6
    obtain ⟨r0, r1, r2, r3, t0, t1, t2, t3⟩ := R6.facts
    clear hy6e ho6 HA5 R5 R6 hB5 hc5 hz5
    go_wp2_with fail
    refine (l4encode_any _ R.2.1 R.1 pss' ks' w6 (unhide HA6).rd (unhide HI)).mono ?_
    rintro e w7 ⟨⟨v7, rfl, ho7⟩, hb7⟩
    have hz7 := hb7.size
    have HO7 := hide ho7
    obtain ⟨oa7, oc7, rfl⟩ := own_is ho7
    have HR7 := hide ((unhide HR6).below hb7 hz6)
    have HA7 := hide ((unhide HA6).keep hb7 (Nat.le_refl _))
    obtain ⟨r0, r1, r2, r3, t0, t1, t2, t3⟩ := (unhide HR7).facts
    clear ho7 HR6 HA6
    go_wp2_with fail
    refine (l4body_any _ R.2.1 R.1 pss' ks' w7 (unhide HA7).rd (unhide HI)).mono ?_
    rintro e w8 ⟨⟨v8, rfl, ho8⟩, hb8⟩
    have hz8 := hb8.size
    have HO8 := hide ho8
    obtain ⟨oa8, oc8, rfl⟩ := own_is ho8
    have HE8 := hide ((unhide HO7).keep hb8 (Nat.le_refl _))
    have hB8 : Below w.heap.size w w8 := hB6.trans ((hb7.mono (by omega)).trans (hb8.mono (by omega)))
    obtain ⟨n, hn⟩ : ∃ n : Nat, (bodL R.2.1 R.1 ks' pss').length = n := ⟨_, rfl⟩
    rw [hn] at hsm
    have Hn := hide hn
    have hn0 : ¬ (n : Int) = 0 := by omega
    have hn1 : (0 : Int) < (n : Int) := by omega
    clear ho8 hb7 hb8 HA7 HR7 HO7 r0 r1 r2 r3 t0 t1 t2 t3
    rw [hn]
    clear hn
    go_wp2
    go_ret
    exact ⟨⟨_, rfl, own_rdB (unhide HE8) (by rw [encL_is, unhide Hn]; unfold maxLen; omega), own_cap (unhide HE8)⟩, hB8⟩
  · have HEX := hide hex
    refine ⟨[], bytes_of_mem (fun x hx => absurd hx List.not_mem_nil), Nat.zero_le _, fun v w hv hcap => drawDec_none code (unhide HCC) (by rw [unhide HXS, unhide HY]; omega) (by rw [unhide HXS]; exact unhide HEX) v w hv hcap _⟩

end Go.Proofs.Ytkajdhliejjohaa
