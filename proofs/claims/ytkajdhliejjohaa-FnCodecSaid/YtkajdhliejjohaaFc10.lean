import Derived.Test.YtkajdhliejjohaaFc9
namespace Go.Proofs.Ytkajdhliejjohaa
open Go.RowKit

/-- A row of one's own that isn't empty. -/
theorem own_some {base n e : Nat} {w : World} {v : Value} {xs : List Value} (h : w.ownsRow base e 1 v n xs) (hp : 0 < n) : ∃ g cap, v = .slice (some ⟨g, 0, none⟩) n cap ∧ base ≤ g := by
  rcases h.2 with ⟨rfl, hz⟩ | ⟨g, cap, cur, rfl, hbg, hg, hnc, hcm, hcs, htake⟩
  · omega
  · exact ⟨g, cap, rfl, hbg⟩
theorem own_byte {base n e g cap j : Nat} {w : World} {xs : List Int} (h : w.ownsRow base e 1 (.slice (some ⟨g, 0, none⟩) n cap) n (xs.map mB)) (hj : j < n) : w.cell? ⟨g, j, none⟩ = some (mB (xs[j]?.getD 0)) ∧ w.frozen? ⟨g, j, none⟩ = false := by
  have hl : n = xs.length := by have := h.1; rw [List.length_map] at this; omega
  refine ⟨?_, h.frozenAt j⟩
  rw [h.cellAt j (by omega), List.getElem?_map, getD_of_lt (by omega)]
  rfl
theorem own_setB {base n e g cap j : Nat} {w : World} {xs : List Int} {y : Int} (h : w.ownsRow base e 1 (.slice (some ⟨g, 0, none⟩) n cap) n (xs.map mB)) (hj : j < n) : (w.setCell ⟨g, j, none⟩ (.int .u8 y)).ownsRow base e 1 (.slice (some ⟨g, 0, none⟩) n cap) n ((xs.set j y).map mB) := by
  have h1 := own_set (u := mB y) h hj
  rw [← List.map_set] at h1
  exact h1
theorem cod_set {xs : List Int} {j : Nat} {y : Int} (h : Bytes xs) (h0 : 0 ≤ y) (h1 : y ≤ 255) : Bytes (xs.set j y) := bytes_of_mem (fun x hx => by
  rcases List.mem_or_eq_of_mem_set hx with q | q
  · exact mem_of_bytes h x q
  · omega)
theorem cod_ck {xs : List Int} (h : Bytes xs) : Bytes (xs ++ ckB (ck xs)) := bytes_of_mem (fun x hx => by
  rcases List.mem_append.1 hx with hx | hx
  · exact mem_of_bytes h x hx
  · have hck := ck_bounds xs
    simp only [ckB, List.mem_cons, List.not_mem_nil, or_false] at hx
    omega)
theorem cod_app {xs : List Int} {y : Int} (h : Bytes xs) (h0 : 0 ≤ y) (h1 : y ≤ 255) : Bytes (xs ++ [y]) := bytes_of_mem (fun x hx => by
  rcases List.mem_append.1 hx with hx | hx
  · exact mem_of_bytes h x hx
  · simp only [List.mem_cons, List.not_mem_nil, or_false] at hx
    omega)
theorem cod_take {xs : List Int} {j : Nat} (h : Bytes xs) : Bytes (xs.take j) := bytes_of_mem (fun x hx => mem_of_bytes h x (List.mem_of_mem_take hx))
theorem ckB_len (h : Int) : (ckB h).length = 4 := rfl
theorem ckB_bytes (h : Int) (h0 : 0 ≤ h) (h1 : h < 4294967296) : ∀ x ∈ ckB h, 0 ≤ x ∧ x ≤ 255 := by
  intro x hx
  unfold ckB at hx
  simp at hx
  omega

set_option maxHeartbeats 8000000 in
set_option maxRecDepth 100000 in
theorem drawDec_6 (code : List Int) (hc : Cod code) (hk : (code.take 600).headD 0 % 16 = 6) : ∃ bs, Bytes bs ∧ bs.length ≤ 1048576 ∧ ∀ (v : Value) (w : World), SlAt mB 0 0 w.heap.size w v code → CapOk v →
    Calls Try.prog 4 #[v] w (DrawnB w bs) := by
  obtain ⟨xs, hxs⟩ : ∃ xs, code.take 600 = xs := ⟨_, rfl⟩
  have hx : Cod xs := by rw [← hxs]; exact fun x h => hc x (List.mem_of_mem_take h)
  rw [hxs] at hk
  have hok := dSg_ok xs.tail hx.tail
  have hh := hx.head
  have HX := hide hx
  have HCC := hide hc
  have HXS := hide hxs
  have HOK := hide hok
  obtain ⟨k, hy⟩ : ∃ y, xs.headD 0 = y := ⟨_, rfl⟩
  rw [hy] at hk hh
  have HY := hide hy
  have hy5 := hok.2.2.2.2.head
  have hy6 := hok.2.2.2.2.tail.head
  obtain ⟨y5, hy5e⟩ : ∃ y, (dSg xs.tail).2.2.headD 0 = y := ⟨_, rfl⟩
  obtain ⟨y6, hy6e⟩ : ∃ y, (dSg xs.tail).2.2.tail.headD 0 = y := ⟨_, rfl⟩
  rw [hy5e] at hy5
  rw [hy6e] at hy6
  have HY5 := hide hy5e
  have HY6 := hide hy6e
  clear hx hxs hy hc hok hy5e hy6e
  by_cases hex : ∃ ks pss, SegR (dSg xs.tail).2.1 (dSg xs.tail).1 ks pss
  · obtain ⟨ks, pss, hsr⟩ := hex
    have HI := hide (dSg_enc xs.tail (unhide HX).tail hsr)
    have HSR := hide hsr
    have hsm := dSg_small xs.tail (unhide HX).tail hsr
    have HTB := hide (bodL_bytes (base := (dSg xs.tail).2.1) (ks := ks) (pss := pss) (unhide HI).bytes)
    have HEB := hide (encL_bytes (base := (dSg xs.tail).2.1) (ks := ks) (pss := pss) (unhide HI).bytes)
    have HEL := hide (encL_is (dSg xs.tail).2.1 (dSg xs.tail).1 pss ks)
    clear hsr
    obtain ⟨R, hR⟩ : ∃ R, dSg xs.tail = R := ⟨_, rfl⟩
    rw [hR] at HI HSR HOK HY5 HY6 hsm HTB HEB HEL
    have HRe := hide hR
    clear hR
    obtain ⟨T, hT⟩ : ∃ T, bodL R.2.1 R.1 ks pss = T := ⟨_, rfl⟩
    obtain ⟨E, hE⟩ : ∃ E, encL R.2.1 R.1 ks pss = E := ⟨_, rfl⟩
    rw [hT] at hsm HTB HEL
    rw [hE] at HEB HEL
    have HT := hide hT
    have HE := hide hE
    obtain ⟨n, hn⟩ : ∃ n : Nat, T.length = n := ⟨_, rfl⟩
    rw [hn] at hsm HEL
    have HN := hide hn
    have hn0 : ¬ (n : Int) = 0 := by omega
    have hn1 : (0 : Int) < (n : Int) := by omega
    have hj0 := Int.emod_nonneg (y5 * 256 + y6) hn0
    have hj1 := Int.emod_lt_of_pos (y5 * 256 + y6) hn1
    obtain ⟨j, hj⟩ : ∃ j : Nat, (y5 * 256 + y6) % (n : Int) = (j : Int) := ⟨((y5 * 256 + y6) % (n : Int)).toNat, by omega⟩
    have hjn : j < n := by omega
    have hjn' : (j : Int) < (n : Int) := by omega
    have hEl : E.length = n + 4 := unhide HEL
    clear hT hE hn hj0 hj1
    obtain ⟨X, hX⟩ : ∃ X, T.set j y6 ++ ckB (ck (T.set j y6)) = X := ⟨_, rfl⟩
    have hXb : Bytes X := by rw [← hX]; exact cod_ck (cod_set (unhide HTB) hy6.1 hy6.2)
    have hXl : X.length ≤ 20000 := by rw [← hX]; rw [List.length_append, ckB_len, List.length_set, unhide HN]; omega
    refine ⟨X, hXb, by omega, fun v w hv hcap => ?_⟩
    clear hXb
    have HXe := hide hX
    have HEl := hide hEl
    clear hX hEl
    have HV := hide hv
    have HCAP := hide hcap
    obtain ⟨a, cap, rfl, -, -⟩ := hv
    clear hcap
    go_enter Try.func4, Try.ntmps4
    go_wp2_with fail
    refine (l1open_any _ code w (unhide HV) (unhide HCAP)).mono ?_
    rintro e w1 ⟨rfl, hc1, hz1, hb1⟩
    rw [unhide HXS] at hc1
    have HC1 := hide hc1
    have hz1' : w.heap.size < w1.heap.size := by omega
    clear hc1 hz1
    go_wp2_with fail
    refine (next_any w.heap.size w.heap.size xs w1 (unhide HC1) (unhide HX)).mono ?_
    rintro e w2 ⟨he, hc2, ho2⟩
    rw [unhide HY] at he
    subst he
    have hz2 : w.heap.size < w2.heap.size := Nat.lt_of_lt_of_le hz1' (Nat.le_of_eq ho2.size.symm)
    have hB2 : Below w.heap.size w w2 := hb1.trans (ho2.below (Nat.le_refl _))
    have HC2 := hide hc2
    clear hc2 ho2 HC1 hb1
    go_wp2_with fail
    refine (l4drawSegment_any w.heap.size w.heap.size xs.tail w2 (unhide HC2) (unhide HX).tail hz2).mono ?_
    rintro e w3 ⟨⟨sv, ks', pss', rfl, hsr, hat⟩, hc3, hm3⟩
    rw [unhide HRe] at hsr hat hc3
    obtain ⟨e1, e2⟩ := SegR.uniq hsr (unhide HSR)
    rw [e1, e2] at hat
    clear hsr e1 e2
    have hz3 : w2.heap.size ≤ w3.heap.size := hm3.size
    have hB3 : Below w.heap.size w w3 := hB2.trans (hm3.below (Nat.le_of_lt hz2))
    have HS3 := hide hat
    obtain ⟨lv, kv, pv, rfl, s1, s2, s3⟩ := hat
    obtain ⟨la, lc, rfl, -⟩ := id s1
    obtain ⟨ka, kc, rfl, -⟩ := id s2
    obtain ⟨pa, pc, rfl, -⟩ := id s3
    have HC3 := hide hc3
    clear hc3 hm3 s1 s2 s3 HC2 hB2
    go_wp2_with fail
    obtain ⟨w4, hw4⟩ : ∃ w4, w4 = w3.alloc (.cells #[.int .i64 R.2.1, .slice la R.1.length lc, .slice ka ks.length kc, .slice pa pss.length pc] 28) := ⟨_, rfl⟩
    have R4 := Row4.new w3 28 (.int .i64 R.2.1) (.slice la R.1.length lc) (.slice ka ks.length kc) (.slice pa pss.length pc)
    have hb4 := below1 w3 (.cells #[.int .i64 R.2.1, .slice la R.1.length lc, .slice ka ks.length kc, .slice pa pss.length pc] 28)
    have hz4 : w3.heap.size + 1 = w4.heap.size := by rw [hw4, sz_alloc]
    rw [← hw4] at R4 hb4 ⊢
    have hz4' : w3.heap.size < w4.heap.size := by omega
    clear hw4 hz4
    have HA4 := hide ((unhide HS3).keep hb4 (Nat.le_refl _))
    have hB4 : Below w.heap.size w w4 := hB3.trans (hb4.mono (by omega))
    have HC4 := hide ((unhide HC3).keep hb4 (by omega))
    clear HS3 HC3 hB3 hb4
    refine (next_any w.heap.size w.heap.size R.2.2 w4 (unhide HC4) (unhide HOK).2.2.2.2).mono ?_
    rintro e w5 ⟨he, hc5, ho5⟩
    rw [unhide HY5] at he
    subst he
    have hz5 : w3.heap.size < w5.heap.size := Nat.lt_of_lt_of_le hz4' (Nat.le_of_eq ho5.size.symm)
    have hB5 : Below w.heap.size w w5 := hB4.trans (ho5.below (Nat.le_refl _))
    have R5 := R4.mv (ho5.mv w4.heap.size) hz4' (by omega)
    have HA5 := hide ((unhide HA4).same (Nat.le_of_eq ho5.size.symm) (fun k k1 _ => ho5.block k (by omega)))
    clear ho5 HA4 R4 hB4 HC4 hz4'
    go_wp2_with fail
    refine (next_any w.heap.size w.heap.size R.2.2.tail w5 hc5 (unhide HOK).2.2.2.2.tail).mono ?_
    rintro e w6 ⟨he, hc6, ho6⟩
    rw [unhide HY6] at he
    subst he
    have hz6 : w3.heap.size < w6.heap.size := Nat.lt_of_lt_of_le hz5 (Nat.le_of_eq ho6.size.symm)
    have hB6 : Below w.heap.size w w6 := hB5.trans (ho6.below (Nat.le_refl _))
    have R6 := R5.mv (ho6.mv w5.heap.size) hz5 (by omega)
    have HA6 := hide ((unhide HA5).same (Nat.le_of_eq ho6.size.symm) (fun k k1 _ => ho6.block k (by omega)))
    have HR6 := hide R6
    obtain ⟨r0, r1, r2, r3, t0, t1, t2, t3⟩ := R6.facts
    clear ho6 HA5 R5 R6 hB5 hc5 hz5
    go_wp2_with fail
    refine (l4encode_any _ R.2.1 R.1 pss ks w6 (unhide HA6).rd (unhide HI)).mono ?_
    rintro e w7 ⟨⟨v7, rfl, ho7⟩, hb7⟩
    rw [unhide HE] at ho7
    have hz7 := hb7.size
    unfold Out at ho7
    rw [unhide HEl] at ho7
    obtain ⟨g7, oc7, rfl, hg7⟩ := own_some ho7 (by omega)
    have HO7 := hide ho7
    have HR7 := hide ((unhide HR6).below hb7 hz6)
    have HA7 := hide ((unhide HA6).keep hb7 (Nat.le_refl _))
    obtain ⟨r0, r1, r2, r3, t0, t1, t2, t3⟩ := (unhide HR7).facts
    clear ho7 HR6 HA6
    go_wp2_with fail
    refine (l4body_any _ R.2.1 R.1 pss ks w7 (unhide HA7).rd (unhide HI)).mono ?_
    rintro e w8 ⟨⟨v8, rfl, ho8⟩, hb8⟩
    rw [unhide HT] at ho8
    have hz8 := hb8.size
    unfold Out at ho8
    rw [unhide HN] at ho8
    have HO8 := hide ho8
    have HE8 := hide (own_keep (unhide HO7) hb8 (Nat.le_refl _))
    have hB8 : Below w.heap.size w w8 := hB6.trans ((hb7.mono (by omega)).trans (hb8.mono (by omega)))
    obtain ⟨g8, oc8, rfl, hg8⟩ := own_some ho8 (by omega)
    clear ho8 hb7 hb8 HA7 HR7 HO7 r0 r1 r2 r3 t0 t1 t2 t3
    obtain ⟨c8, f8⟩ := own_byte (unhide HO8) hjn
    generalize T[j]?.getD 0 = t8 at c8
    unfold mB at c8
    go_wp2_with fail
    have HS := hide (own_setB (y := y6) (unhide HO8) hjn)
    refine (l4reseal_any w7.heap.size _ (T.set j y6) _ (by rw [List.length_set, unhide HN]; exact unhide HS) (by rw [sz_put]; omega) (cod_set (unhide HTB) hy6.1 hy6.2) (by rw [List.length_set, unhide HN]; omega)).mono ?_
    rintro e w9 ⟨⟨v9, rfl, ho9⟩, hb9⟩
    rw [unhide HXe] at ho9
    have hB9 : Below w.heap.size w w9 := (bput hB8 (by omega) _).trans (hb9.mono (by omega))
    have HO9 := hide ho9
    obtain ⟨oa9, oc9, rfl⟩ := own_is ho9
    clear ho9
    go_wp2_with fail
    go_ret
    exact ⟨⟨_, rfl, own_rdB (unhide HO9) (by unfold maxLen; omega), own_cap (unhide HO9)⟩, hB9⟩
  · have HEX := hide hex
    refine ⟨[], bytes_of_mem (fun x hx => absurd hx List.not_mem_nil), Nat.zero_le _, fun v w hv hcap => drawDec_none code (unhide HCC) (by rw [unhide HXS, unhide HY]; omega) (by rw [unhide HXS]; exact unhide HEX) v w hv hcap _⟩

set_option maxHeartbeats 8000000 in
set_option maxRecDepth 100000 in
theorem drawDec_8 (code : List Int) (hc : Cod code) (hk : (code.take 600).headD 0 % 16 = 8) : ∃ bs, Bytes bs ∧ bs.length ≤ 1048576 ∧ ∀ (v : Value) (w : World), SlAt mB 0 0 w.heap.size w v code → CapOk v →
    Calls Try.prog 4 #[v] w (DrawnB w bs) := by
  obtain ⟨xs, hxs⟩ : ∃ xs, code.take 600 = xs := ⟨_, rfl⟩
  have hx : Cod xs := by rw [← hxs]; exact fun x h => hc x (List.mem_of_mem_take h)
  rw [hxs] at hk
  have hok := dSg_ok xs.tail hx.tail
  have hh := hx.head
  have HX := hide hx
  have HCC := hide hc
  have HXS := hide hxs
  have HOK := hide hok
  obtain ⟨k, hy⟩ : ∃ y, xs.headD 0 = y := ⟨_, rfl⟩
  rw [hy] at hk hh
  have HY := hide hy
  have hy5 := hok.2.2.2.2.head
  have hy6 := hok.2.2.2.2.tail.head
  obtain ⟨y5, hy5e⟩ : ∃ y, (dSg xs.tail).2.2.headD 0 = y := ⟨_, rfl⟩
  obtain ⟨y6, hy6e⟩ : ∃ y, (dSg xs.tail).2.2.tail.headD 0 = y := ⟨_, rfl⟩
  rw [hy5e] at hy5
  rw [hy6e] at hy6
  have HY5 := hide hy5e
  have HY6 := hide hy6e
  clear hx hxs hy hc hok hy5e hy6e
  by_cases hex : ∃ ks pss, SegR (dSg xs.tail).2.1 (dSg xs.tail).1 ks pss
  · obtain ⟨ks, pss, hsr⟩ := hex
    have HI := hide (dSg_enc xs.tail (unhide HX).tail hsr)
    have HSR := hide hsr
    have hsm := dSg_small xs.tail (unhide HX).tail hsr
    have HTB := hide (bodL_bytes (base := (dSg xs.tail).2.1) (ks := ks) (pss := pss) (unhide HI).bytes)
    have HEB := hide (encL_bytes (base := (dSg xs.tail).2.1) (ks := ks) (pss := pss) (unhide HI).bytes)
    have HEL := hide (encL_is (dSg xs.tail).2.1 (dSg xs.tail).1 pss ks)
    clear hsr
    obtain ⟨R, hR⟩ : ∃ R, dSg xs.tail = R := ⟨_, rfl⟩
    rw [hR] at HI HSR HOK HY5 HY6 hsm HTB HEB HEL
    have HRe := hide hR
    clear hR
    obtain ⟨T, hT⟩ : ∃ T, bodL R.2.1 R.1 ks pss = T := ⟨_, rfl⟩
    obtain ⟨E, hE⟩ : ∃ E, encL R.2.1 R.1 ks pss = E := ⟨_, rfl⟩
    rw [hT] at hsm HTB HEL
    rw [hE] at HEB HEL
    have HT := hide hT
    have HE := hide hE
    obtain ⟨n, hn⟩ : ∃ n : Nat, T.length = n := ⟨_, rfl⟩
    rw [hn] at hsm HEL
    have HN := hide hn
    have hn0 : ¬ (n : Int) = 0 := by omega
    have hn1 : (0 : Int) < (n : Int) := by omega
    have hj0 := Int.emod_nonneg (y5 * 256 + y6) hn0
    have hj1 := Int.emod_lt_of_pos (y5 * 256 + y6) hn1
    obtain ⟨j, hj⟩ : ∃ j : Nat, (y5 * 256 + y6) % (n : Int) = (j : Int) := ⟨((y5 * 256 + y6) % (n : Int)).toNat, by omega⟩
    have hjn : j < n := by omega
    have hjn' : (j : Int) < (n : Int) := by omega
    have hEl : E.length = n + 4 := unhide HEL
    clear hT hE hn hj0 hj1
    obtain ⟨X, hX⟩ : ∃ X, E ++ [0] = X := ⟨_, rfl⟩
    have hXb : Bytes X := by rw [← hX]; exact cod_app (unhide HEB) (by omega) (by omega)
    have hXl : X.length ≤ 20000 := by rw [← hX]; rw [List.length_append, hEl]; simp; omega
    refine ⟨X, hXb, by omega, fun v w hv hcap => ?_⟩
    clear hXb
    have HXe := hide hX
    have HEl := hide hEl
    clear hX hEl
    have HV := hide hv
    have HCAP := hide hcap
    obtain ⟨a, cap, rfl, -, -⟩ := hv
    clear hcap
    go_enter Try.func4, Try.ntmps4
    go_wp2_with fail
    refine (l1open_any _ code w (unhide HV) (unhide HCAP)).mono ?_
    rintro e w1 ⟨rfl, hc1, hz1, hb1⟩
    rw [unhide HXS] at hc1
    have HC1 := hide hc1
    have hz1' : w.heap.size < w1.heap.size := by omega
    clear hc1 hz1
    go_wp2_with fail
    refine (next_any w.heap.size w.heap.size xs w1 (unhide HC1) (unhide HX)).mono ?_
    rintro e w2 ⟨he, hc2, ho2⟩
    rw [unhide HY] at he
    subst he
    have hz2 : w.heap.size < w2.heap.size := Nat.lt_of_lt_of_le hz1' (Nat.le_of_eq ho2.size.symm)
    have hB2 : Below w.heap.size w w2 := hb1.trans (ho2.below (Nat.le_refl _))
    have HC2 := hide hc2
    clear hc2 ho2 HC1 hb1
    go_wp2_with fail
    refine (l4drawSegment_any w.heap.size w.heap.size xs.tail w2 (unhide HC2) (unhide HX).tail hz2).mono ?_
    rintro e w3 ⟨⟨sv, ks', pss', rfl, hsr, hat⟩, hc3, hm3⟩
    rw [unhide HRe] at hsr hat hc3
    obtain ⟨e1, e2⟩ := SegR.uniq hsr (unhide HSR)
    rw [e1, e2] at hat
    clear hsr e1 e2
    have hz3 : w2.heap.size ≤ w3.heap.size := hm3.size
    have hB3 : Below w.heap.size w w3 := hB2.trans (hm3.below (Nat.le_of_lt hz2))
    have HS3 := hide hat
    obtain ⟨lv, kv, pv, rfl, s1, s2, s3⟩ := hat
    obtain ⟨la, lc, rfl, -⟩ := id s1
    obtain ⟨ka, kc, rfl, -⟩ := id s2
    obtain ⟨pa, pc, rfl, -⟩ := id s3
    have HC3 := hide hc3
    clear hc3 hm3 s1 s2 s3 HC2 hB2
    go_wp2_with fail
    obtain ⟨w4, hw4⟩ : ∃ w4, w4 = w3.alloc (.cells #[.int .i64 R.2.1, .slice la R.1.length lc, .slice ka ks.length kc, .slice pa pss.length pc] 28) := ⟨_, rfl⟩
    have R4 := Row4.new w3 28 (.int .i64 R.2.1) (.slice la R.1.length lc) (.slice ka ks.length kc) (.slice pa pss.length pc)
    have hb4 := below1 w3 (.cells #[.int .i64 R.2.1, .slice la R.1.length lc, .slice ka ks.length kc, .slice pa pss.length pc] 28)
    have hz4 : w3.heap.size + 1 = w4.heap.size := by rw [hw4, sz_alloc]
    rw [← hw4] at R4 hb4 ⊢
    have hz4' : w3.heap.size < w4.heap.size := by omega
    clear hw4 hz4
    have HA4 := hide ((unhide HS3).keep hb4 (Nat.le_refl _))
    have hB4 : Below w.heap.size w w4 := hB3.trans (hb4.mono (by omega))
    have HC4 := hide ((unhide HC3).keep hb4 (by omega))
    clear HS3 HC3 hB3 hb4
    refine (next_any w.heap.size w.heap.size R.2.2 w4 (unhide HC4) (unhide HOK).2.2.2.2).mono ?_
    rintro e w5 ⟨he, hc5, ho5⟩
    rw [unhide HY5] at he
    subst he
    have hz5 : w3.heap.size < w5.heap.size := Nat.lt_of_lt_of_le hz4' (Nat.le_of_eq ho5.size.symm)
    have hB5 : Below w.heap.size w w5 := hB4.trans (ho5.below (Nat.le_refl _))
    have R5 := R4.mv (ho5.mv w4.heap.size) hz4' (by omega)
    have HA5 := hide ((unhide HA4).same (Nat.le_of_eq ho5.size.symm) (fun k k1 _ => ho5.block k (by omega)))
    clear ho5 HA4 R4 hB4 HC4 hz4'
    go_wp2_with fail
    refine (next_any w.heap.size w.heap.size R.2.2.tail w5 hc5 (unhide HOK).2.2.2.2.tail).mono ?_
    rintro e w6 ⟨he, hc6, ho6⟩
    rw [unhide HY6] at he
    subst he
    have hz6 : w3.heap.size < w6.heap.size := Nat.lt_of_lt_of_le hz5 (Nat.le_of_eq ho6.size.symm)
    have hB6 : Below w.heap.size w w6 := hB5.trans (ho6.below (Nat.le_refl _))
    have R6 := R5.mv (ho6.mv w5.heap.size) hz5 (by omega)
    have HA6 := hide ((unhide HA5).same (Nat.le_of_eq ho6.size.symm) (fun k k1 _ => ho6.block k (by omega)))
    have HR6 := hide R6
    obtain ⟨r0, r1, r2, r3, t0, t1, t2, t3⟩ := R6.facts
    clear ho6 HA5 R5 R6 hB5 hc5 hz5
    go_wp2_with fail
    refine (l4encode_any _ R.2.1 R.1 pss ks w6 (unhide HA6).rd (unhide HI)).mono ?_
    rintro e w7 ⟨⟨v7, rfl, ho7⟩, hb7⟩
    rw [unhide HE] at ho7
    have hz7 := hb7.size
    unfold Out at ho7
    rw [unhide HEl] at ho7
    obtain ⟨g7, oc7, rfl, hg7⟩ := own_some ho7 (by omega)
    have HO7 := hide ho7
    have HR7 := hide ((unhide HR6).below hb7 hz6)
    have HA7 := hide ((unhide HA6).keep hb7 (Nat.le_refl _))
    obtain ⟨r0, r1, r2, r3, t0, t1, t2, t3⟩ := (unhide HR7).facts
    clear ho7 HR6 HA6
    go_wp2_with fail
    refine (l4body_any _ R.2.1 R.1 pss ks w7 (unhide HA7).rd (unhide HI)).mono ?_
    rintro e w8 ⟨⟨v8, rfl, ho8⟩, hb8⟩
    rw [unhide HT] at ho8
    have hz8 := hb8.size
    unfold Out at ho8
    rw [unhide HN] at ho8
    have HO8 := hide ho8
    have HE8 := hide (own_keep (unhide HO7) hb8 (Nat.le_refl _))
    have hB8 : Below w.heap.size w w8 := hB6.trans ((hb7.mono (by omega)).trans (hb8.mono (by omega)))
    obtain ⟨g8, oc8, rfl, hg8⟩ := own_some ho8 (by omega)
    clear ho8 hb7 hb8 HA7 HR7 HO7 r0 r1 r2 r3 t0 t1 t2 t3
    go_wp2_with (at_builtin; refine app_moreB rfl _ _ rfl w6.heap.size _ rfl E (by rw [unhide HEl]; exact (unhide HE8).alloc _) (by rw [sz_alloc]; omega) _ rfl [0] (by exact lit_one) (by rw [unhide HEl]; simp; omega) ?_; intro v9 w9 hb9 ho9 hoc9)
    rw [unhide HXe] at ho9
    have hB9 : Below w.heap.size w w9 := hB8.trans (((below1 w8 _).mono (by omega)).trans (hb9.mono (by omega)))
    go_ret
    exact ⟨⟨_, rfl, own_rdB ho9 (by unfold maxLen; omega), own_cap ho9⟩, hB9⟩
  · have HEX := hide hex
    refine ⟨[], bytes_of_mem (fun x hx => absurd hx List.not_mem_nil), Nat.zero_le _, fun v w hv hcap => drawDec_none code (unhide HCC) (by rw [unhide HXS, unhide HY]; omega) (by rw [unhide HXS]; exact unhide HEX) v w hv hcap _⟩

end Go.Proofs.Ytkajdhliejjohaa
